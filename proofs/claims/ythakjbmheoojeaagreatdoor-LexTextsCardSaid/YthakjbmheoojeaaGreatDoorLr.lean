/- The document's own word and name. Conditions: those that each theorem names. -/
import Derived.Test.YthakjbmheoojeaaGreatDoorLp
namespace Go.Proofs.YthakjbmheoojeaaGreatDoor
open Go.RowKit
set_option linter.all false

theorem letter_any (n : Nat) (h : n < 256) (w : World) : Calls Tryz.prog 22 #[.int .u8 (n : Int)] w fun e w' => e = .returned (.bool (X.opens n)) ∧ w = w' := by
  go_enter Tryz.func22, Tryz.ntmps22
  go_wp2
  all_goals (go_ret; refine ⟨ret_bool ?_, rfl⟩; (try simp only [beq_iff_eq, beq_eq_false_iff_ne, ne_eq, decide_eq_true_eq, decide_eq_false_iff_not, Bool.or_eq_true, Bool.and_eq_true] at *); rw [Bool.eq_iff_iff]; simp only [Bool.false_eq_true, false_iff, X.opens, Bool.or_eq_true, Bool.and_eq_true, decide_eq_true_eq, beq_iff_eq, true_iff]; omega)
theorem refDigit_any (n : Nat) (h : n < 256) (w : World) : Calls Tryz.prog 23 #[.int .u8 (n : Int)] w fun e w' => e = .returned (.bool (X.digit n)) ∧ w = w' := by
  go_enter Tryz.func23, Tryz.ntmps23
  go_wp2
  all_goals (go_ret; refine ⟨ret_bool ?_, rfl⟩; (try simp only [beq_iff_eq, beq_eq_false_iff_ne, ne_eq, decide_eq_true_eq, decide_eq_false_iff_not, Bool.or_eq_true, Bool.and_eq_true] at *); rw [Bool.eq_iff_iff]; simp only [Bool.false_eq_true, false_iff, X.digit, Bool.or_eq_true, Bool.and_eq_true, decide_eq_true_eq, beq_iff_eq, true_iff]; omega)

/-- A string's bytes are a list's. -/
def SameB (R : ByteArray) (l : List UInt8) : Prop := ∀ (j : Nat) (h : j < R.size) (h2 : j < l.length), R[j] = l[j]
theorem same_bs (l : List UInt8) : SameB (bs l) l := fun j h h2 => bs_get l j h h2

set_option maxHeartbeats 4000000 in
theorem spaced_any (l : List UInt8) (hl : l.length ≤ 140737488355328) (w : World) :
    Calls Tryz.prog 30 #[.string (bs l)] w fun e w' => e = .returned (.bool (X.spacedL l)) ∧ w = w' := by
  have hsz := bs_size l
  have hget := Lib.hid (same_bs l)
  have hR : (bs l).size ≤ 140737488355328 := by omega
  generalize bs l = R at *
  go_enter Tryz.func30, Tryz.ntmps30
  go_wp2
  go_loop [3] (fun v => ∃ k : Nat, k ≤ l.length ∧ v = .int .i64 (k : Int) ∧ ∀ j (h : j < l.length), j < k → l[j] ≠ 32) (fun v => l.length - (intOf v).toNat)
  case atStart => exact ⟨0, Nat.zero_le _, rfl, fun j _ h => by omega⟩
  case round =>
    obtain ⟨k, hk, rfl, hno⟩ := hrel
    by_cases hkl : k < l.length
    · have hks : k < R.size := by omega
      obtain ⟨b0, hb0⟩ : ∃ b0, R[k] = b0 := ⟨_, rfl⟩
      have hy := hget.out k hks hkl
      have hv : b0.toNat < 256 := UInt8.toNat_lt _
      have hki : (k : Int) < (l.length : Int) := by omega
      rw [hb0] at hy
      have HY := Lib.hid hy
      have HNO := Lib.hid hno
      clear hy hno
      go_wp2
      · rename_i he _
        have he := Lib.hid he
        go_ret
        refine ⟨ret_bool ?_, rfl⟩
        symm
        rw [X.spacedL, List.any_eq_true]
        refine ⟨l[k], List.getElem_mem _, ?_⟩
        have h32 := he.out
        rw [← show b0 = l[k] from HY.out]
        have h33 : (b0.toNat : Int) = 32 := eq_of_beq h32
        have h34 : b0.toNat = 32 := by omega
        exact beq_iff_eq.2 (UInt8.toNat_inj.1 h34)
      · rename_i he
        have he := Lib.hid he
        go_round
        case rel =>
          refine ⟨k + 1, by omega, by go_num, fun j hj hjk e => ?_⟩
          rcases Nat.lt_or_ge j k with h | h
          · exact HNO.out j hj h e
          · obtain rfl : j = k := by omega
            have h32 := he.out
            rw [← show b0 = l[j] from HY.out] at e
            rw [e] at h32
            exact absurd h32 (by decide)
        case measure => simp [intOf]; omega
    · have hki : ¬ (k : Int) < (l.length : Int) := by omega
      have HNO := Lib.hid hno
      clear hno
      go_wp2
      go_ret
      refine ⟨ret_bool ?_, rfl⟩
      symm
      rw [X.spacedL, List.any_eq_false]
      intro x hx
      obtain ⟨j, hj, rfl⟩ := List.getElem_of_mem hx
      have := HNO.out j hj (by omega)
      simpa using this

/-- Spelt as a name is. -/
def X.speltL (l : List UInt8) : Bool := !l.isEmpty && X.opens (U.g l 0) && l.all (fun b => X.goes b.toNat)
theorem past_all (p : Nat → Bool) : ∀ l : List UInt8, (X.past p l == l.length) = l.all (fun b => p b.toNat)
  | [] => rfl
  | a :: l => by
    have ih := past_all p l
    unfold X.past at ih ⊢
    rw [List.takeWhile_cons, List.all_cons]
    cases h : p a.toNat with
    | true => rw [if_pos rfl, Bool.true_and, ← ih, List.length_cons, List.length_cons]; simp
    | false => simp
theorem spelt_name (l : List UInt8) : (X.speltL l && !X.word l) = X.name l := by
  unfold X.speltL X.name
  rw [past_all]
  cases l with
  | nil => rfl
  | cons a l => rfl

set_option maxHeartbeats 4000000 in
theorem spelt_more (R : ByteArray) (l : List UInt8) (hl : l.length ≤ 140737488355328) (hsz : R.size = l.length) (hget : Hid (SameB R l)) (hemp : R.toList.isEmpty = false) (hlp : 0 < l.length) (a0 : UInt8) (h0 : R[0] = a0) (w : World) :
    Calls Tryz.prog 36 #[.string R] w fun e w' => e = .returned (.bool (X.opens a0.toNat && l.all (fun b => X.goes b.toNat))) ∧ w = w' := by
  have ho := letter_any a0.toNat (UInt8.toNat_lt _)
  have hv0 : a0.toNat < 256 := UInt8.toNat_lt _
  have hR : R.size ≤ 140737488355328 := by omega
  have hli : (0 : Int) < (l.length : Int) := by omega
  generalize hoo : X.opens a0.toNat = o at *
  clear hoo
  cases o with
  | false =>
    go_enter Tryz.func36, Tryz.ntmps36
    go_wp2_with ((with_reducible refine (ho _).mono ?_); rintro e w' ⟨rfl, rfl⟩)
    go_ret
    exact ⟨rfl, rfl⟩
  | true =>
    go_enter Tryz.func36, Tryz.ntmps36
    go_wp2_with ((with_reducible refine (ho _).mono ?_); rintro e w' ⟨rfl, rfl⟩)
    go_loop [3] (fun v => ∃ k : Nat, k ≤ l.length ∧ v = .int .i64 (k : Int) ∧ ∀ j (h : j < l.length), j < k → X.goes l[j].toNat = true) (fun v => l.length - (intOf v).toNat)
    case atStart => exact ⟨0, Nat.zero_le _, rfl, fun j _ h => by omega⟩
    case round =>
      obtain ⟨k, hk, rfl, hno⟩ := hrel
      have HNO := Lib.hid hno
      clear hno
      by_cases hkl : k < l.length
      · have hks : k < R.size := by omega
        obtain ⟨b0, hb0⟩ : ∃ b0, R[k] = b0 := ⟨_, rfl⟩
        have hy := hget.out k hks hkl
        have hv : b0.toNat < 256 := UInt8.toNat_lt _
        have hki : (k : Int) < (l.length : Int) := by omega
        rw [hb0] at hy
        have HY := Lib.hid hy
        clear hy
        have hlb := letter_any b0.toNat (UInt8.toNat_lt _)
        have hdb := refDigit_any b0.toNat (UInt8.toNat_lt _)
        have HG := Lib.hid (show X.goes b0.toNat = (X.opens b0.toNat || X.digit b0.toNat) from rfl)
        generalize X.opens b0.toNat = p1 at *
        generalize X.digit b0.toNat = p2 at *
        cases p1 with
        | true =>
          go_wp2_with (first | ((with_reducible refine (hlb _).mono ?_); rintro e w' ⟨rfl, rfl⟩) | ((with_reducible refine (hdb _).mono ?_); rintro e w' ⟨rfl, rfl⟩))
          go_round
          case rel =>
            refine ⟨k + 1, by omega, by go_num, fun j hj hjk => ?_⟩
            rcases Nat.lt_or_ge j k with h | h
            · exact HNO.out j hj h
            · obtain rfl : j = k := by omega
              rw [← show b0 = l[j] from HY.out]
              exact HG.out
          case measure => simp [intOf]; omega
        | false =>
          cases p2 with
          | true =>
            go_wp2_with (first | ((with_reducible refine (hlb _).mono ?_); rintro e w' ⟨rfl, rfl⟩) | ((with_reducible refine (hdb _).mono ?_); rintro e w' ⟨rfl, rfl⟩))
            go_round
            case rel =>
              refine ⟨k + 1, by omega, by go_num, fun j hj hjk => ?_⟩
              rcases Nat.lt_or_ge j k with h | h
              · exact HNO.out j hj h
              · obtain rfl : j = k := by omega
                rw [← show b0 = l[j] from HY.out]
                exact HG.out
            case measure => simp [intOf]; omega
          | false =>
            go_wp2_with (first | ((with_reducible refine (hlb _).mono ?_); rintro e w' ⟨rfl, rfl⟩) | ((with_reducible refine (hdb _).mono ?_); rintro e w' ⟨rfl, rfl⟩))
            go_ret
            refine ⟨ret_bool ?_, rfl⟩
            symm
            rw [Bool.true_and, List.all_eq_false]
            refine ⟨l[k], List.getElem_mem _, ?_⟩
            rw [← show b0 = l[k] from HY.out, show X.goes b0.toNat = false from HG.out]
            exact Bool.false_ne_true
      · have hki : ¬ (k : Int) < (l.length : Int) := by omega
        go_wp2_with (fail)
        go_ret
        refine ⟨ret_bool ?_, rfl⟩
        symm
        rw [List.all_eq_true]
        intro x hx
        obtain ⟨j, hj, rfl⟩ := List.getElem_of_mem hx
        exact HNO.out j hj (by omega)
theorem spelt_any (l : List UInt8) (hl : l.length ≤ 140737488355328) (w : World) :
    Calls Tryz.prog 36 #[.string (bs l)] w fun e w' => e = .returned (.bool (X.speltL l)) ∧ w = w' := by
  cases l with
  | nil =>
    have hs : (bs []).toList = [] := by rw [Lib.toList_data]; rfl
    go_enter Tryz.func36, Tryz.ntmps36
    go_wp2
    go_ret
    exact ⟨rfl, rfl⟩
  | cons a0 r0 =>
    have h := spelt_more (bs (a0 :: r0)) (a0 :: r0) hl (bs_size _) (Lib.hid (same_bs _)) (by rw [Lib.toList_data]; rfl) (Nat.succ_pos _) a0 (same_bs (a0 :: r0) 0 (by rw [bs_size]; exact Nat.succ_pos _) (Nat.succ_pos _)) w
    exact h
end Go.Proofs.YthakjbmheoojeaaGreatDoor
