/- How many bytes from a place on are such: the loop at the three looks that are handed to it. Conditions: those that each theorem names. -/
import Derived.Test.YthakjbmheoojeaaGreatDoorL2
namespace Go.Proofs.YthakjbmheoojeaaGreatDoor
open Go.RowKit
set_option linter.all false
theorem past_goes (l : List UInt8) (hl : l.length ≤ 140737488355328) (a : Nat) (ha : a ≤ l.length) (m : Nat) (hm : a + X.past X.goes (l.drop a) = m) (w : World) :
    Calls Tryz.prog 34 #[.string (bs l), .int .i64 (a : Int), .func (.func 35) #[] #[]] w fun e w' => e = .returned (.int .i64 (m : Int)) ∧ w = w' := by
  have hrun := run_of l a ha X.goes m hm
  have hsz := bs_size l
  have hR : (bs l).size ≤ 140737488355328 := by omega
  clear hsz hm
  generalize bs l = R at hrun hR ⊢
  have hle := hrun.le
  have hge := hrun.ge
  have HF := Lib.hid goes_any
  have HR := Lib.hid hrun
  clear hrun hl ha
  go_enter Tryz.func34, Tryz.ntmps34
  go_wp2
  go_loop [1] (fun v => ∃ k : Nat, a ≤ k ∧ k ≤ m ∧ v = .int .i64 (k : Int)) (fun v => m - (intOf v).toNat)
  case atStart => exact ⟨a, Nat.le_refl _, hge, rfl⟩
  case round =>
    obtain ⟨k, hk1, hk2, rfl⟩ := hrel
    by_cases hkn : k < m
    · have hks : k < R.size := by omega
      obtain ⟨b0, hb0⟩ : ∃ b0, R[k] = b0 := ⟨_, rfl⟩
      have hy := HR.out.yes k hks hk1 hkn
      rw [hb0] at hy
      have hbl := HF.out b0.toNat (UInt8.toNat_lt _)
      rw [hy] at hbl
      have hv : b0.toNat < 256 := UInt8.toNat_lt _
      have hki : (k : Int) < (R.size : Int) := by omega
      clear hy
      go_wp2_with ((with_reducible refine (hbl _).mono ?_); rintro e w' ⟨rfl, rfl⟩)
      go_round
      case rel => exact ⟨k + 1, by omega, by omega, by go_num⟩
      case measure => simp [intOf]; omega
    · obtain rfl : k = m := by omega
      rcases Nat.lt_or_ge k R.size with hks | hks
      · obtain ⟨b0, hb0⟩ : ∃ b0, R[k] = b0 := ⟨_, rfl⟩
        have hy := HR.out.no hks
        rw [hb0] at hy
        have hbl := HF.out b0.toNat (UInt8.toNat_lt _)
        rw [hy] at hbl
        have hv : b0.toNat < 256 := UInt8.toNat_lt _
        have hki : (k : Int) < (R.size : Int) := by omega
        clear hy
        go_wp2_with ((with_reducible refine (hbl _).mono ?_); rintro e w' ⟨rfl, rfl⟩)
        go_ret
        exact ⟨rfl, rfl⟩
      · have hki : ¬ (k : Int) < (R.size : Int) := by omega
        go_wp2
        go_ret
        exact ⟨rfl, rfl⟩
theorem past_digit (l : List UInt8) (hl : l.length ≤ 140737488355328) (a : Nat) (ha : a ≤ l.length) (m : Nat) (hm : a + X.past X.digit (l.drop a) = m) (w : World) :
    Calls Tryz.prog 34 #[.string (bs l), .int .i64 (a : Int), .func (.func 57) #[] #[]] w fun e w' => e = .returned (.int .i64 (m : Int)) ∧ w = w' := by
  have hrun := run_of l a ha X.digit m hm
  have hsz := bs_size l
  have hR : (bs l).size ≤ 140737488355328 := by omega
  clear hsz hm
  generalize bs l = R at hrun hR ⊢
  have hle := hrun.le
  have hge := hrun.ge
  have HF := Lib.hid isDigit_any
  have HR := Lib.hid hrun
  clear hrun hl ha
  go_enter Tryz.func34, Tryz.ntmps34
  go_wp2
  go_loop [1] (fun v => ∃ k : Nat, a ≤ k ∧ k ≤ m ∧ v = .int .i64 (k : Int)) (fun v => m - (intOf v).toNat)
  case atStart => exact ⟨a, Nat.le_refl _, hge, rfl⟩
  case round =>
    obtain ⟨k, hk1, hk2, rfl⟩ := hrel
    by_cases hkn : k < m
    · have hks : k < R.size := by omega
      obtain ⟨b0, hb0⟩ : ∃ b0, R[k] = b0 := ⟨_, rfl⟩
      have hy := HR.out.yes k hks hk1 hkn
      rw [hb0] at hy
      have hbl := HF.out b0.toNat (UInt8.toNat_lt _)
      rw [hy] at hbl
      have hv : b0.toNat < 256 := UInt8.toNat_lt _
      have hki : (k : Int) < (R.size : Int) := by omega
      clear hy
      go_wp2_with ((with_reducible refine (hbl _).mono ?_); rintro e w' ⟨rfl, rfl⟩)
      go_round
      case rel => exact ⟨k + 1, by omega, by omega, by go_num⟩
      case measure => simp [intOf]; omega
    · obtain rfl : k = m := by omega
      rcases Nat.lt_or_ge k R.size with hks | hks
      · obtain ⟨b0, hb0⟩ : ∃ b0, R[k] = b0 := ⟨_, rfl⟩
        have hy := HR.out.no hks
        rw [hb0] at hy
        have hbl := HF.out b0.toNat (UInt8.toNat_lt _)
        rw [hy] at hbl
        have hv : b0.toNat < 256 := UInt8.toNat_lt _
        have hki : (k : Int) < (R.size : Int) := by omega
        clear hy
        go_wp2_with ((with_reducible refine (hbl _).mono ?_); rintro e w' ⟨rfl, rfl⟩)
        go_ret
        exact ⟨rfl, rfl⟩
      · have hki : ¬ (k : Int) < (R.size : Int) := by omega
        go_wp2
        go_ret
        exact ⟨rfl, rfl⟩
theorem past_six (l : List UInt8) (hl : l.length ≤ 140737488355328) (a : Nat) (ha : a ≤ l.length) (m : Nat) (hm : a + X.past X.six (l.drop a) = m) (w : World) :
    Calls Tryz.prog 34 #[.string (bs l), .int .i64 (a : Int), .func (.func 107) #[] #[]] w fun e w' => e = .returned (.int .i64 (m : Int)) ∧ w = w' := by
  have hrun := run_of l a ha X.six m hm
  have hsz := bs_size l
  have hR : (bs l).size ≤ 140737488355328 := by omega
  clear hsz hm
  generalize bs l = R at hrun hR ⊢
  have hle := hrun.le
  have hge := hrun.ge
  have HF := Lib.hid six_any
  have HR := Lib.hid hrun
  clear hrun hl ha
  go_enter Tryz.func34, Tryz.ntmps34
  go_wp2
  go_loop [1] (fun v => ∃ k : Nat, a ≤ k ∧ k ≤ m ∧ v = .int .i64 (k : Int)) (fun v => m - (intOf v).toNat)
  case atStart => exact ⟨a, Nat.le_refl _, hge, rfl⟩
  case round =>
    obtain ⟨k, hk1, hk2, rfl⟩ := hrel
    by_cases hkn : k < m
    · have hks : k < R.size := by omega
      obtain ⟨b0, hb0⟩ : ∃ b0, R[k] = b0 := ⟨_, rfl⟩
      have hy := HR.out.yes k hks hk1 hkn
      rw [hb0] at hy
      have hbl := HF.out b0.toNat (UInt8.toNat_lt _)
      rw [hy] at hbl
      have hv : b0.toNat < 256 := UInt8.toNat_lt _
      have hki : (k : Int) < (R.size : Int) := by omega
      clear hy
      go_wp2_with ((with_reducible refine (hbl _).mono ?_); rintro e w' ⟨rfl, rfl⟩)
      go_round
      case rel => exact ⟨k + 1, by omega, by omega, by go_num⟩
      case measure => simp [intOf]; omega
    · obtain rfl : k = m := by omega
      rcases Nat.lt_or_ge k R.size with hks | hks
      · obtain ⟨b0, hb0⟩ : ∃ b0, R[k] = b0 := ⟨_, rfl⟩
        have hy := HR.out.no hks
        rw [hb0] at hy
        have hbl := HF.out b0.toNat (UInt8.toNat_lt _)
        rw [hy] at hbl
        have hv : b0.toNat < 256 := UInt8.toNat_lt _
        have hki : (k : Int) < (R.size : Int) := by omega
        clear hy
        go_wp2_with ((with_reducible refine (hbl _).mono ?_); rintro e w' ⟨rfl, rfl⟩)
        go_ret
        exact ⟨rfl, rfl⟩
      · have hki : ¬ (k : Int) < (R.size : Int) := by omega
        go_wp2
        go_ret
        exact ⟨rfl, rfl⟩
end Go.Proofs.YthakjbmheoojeaaGreatDoor
