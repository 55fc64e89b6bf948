/- The document's own word and name: the list's look. Conditions: those that each theorem names. -/
import Derived.Test.YthakjbmheoojeaaGreatDoorLr
namespace Go.Proofs.YthakjbmheoojeaaGreatDoor
open Go.RowKit
set_option linter.all false

theorem some32 (b : UInt8) : some b = some 32 ↔ (b.toNat : Int) = 32 := by
  constructor
  · intro h
    rw [Option.some.inj h]; rfl
  · intro h
    have : b.toNat = 32 := by omega
    rw [show b = 32 from UInt8.toNat_inj.1 this]
set_option maxHeartbeats 4000000 in
theorem among_any (s L : List UInt8) (hs : s.length ≤ 140737488355328) (hL : L.length ≤ 140737488355328) (w : World) :
    Calls Tryz.prog 31 #[.string (bs s), .string (bs L)] w fun e w' => e = .returned (.bool (X.amongL s L)) ∧ w = w' := by
  have hsz := bs_size s
  have hLz := bs_size L
  have hget := Lib.hid (same_bs L)
  have heq : Hid (∀ k, (((bs L).extract (k + 1) (k + 1 + s.length)).toList == (bs s).toList) = ((L.drop (k + 1)).take s.length == s)) := Lib.hid fun k => by rw [bs_extract, Nat.add_sub_cancel_left]; exact beq_bs _ _
  have hR : (bs L).size ≤ 140737488355328 := by omega
  have hS : (bs s).size ≤ 140737488355328 := by omega
  generalize bs L = R at *
  generalize bs s = S at *
  go_enter Tryz.func31, Tryz.ntmps31
  go_wp2
  go_loop [5] (fun v => ∃ k : Nat, k ≤ L.length ∧ v = .int .i64 (k : Int) ∧ ∀ i, i < k → ¬ (i + s.length + 2 ≤ L.length ∧ L[i]? = some 32 ∧ (L.drop (i + 1)).take s.length = s ∧ L[i + 1 + s.length]? = some 32)) (fun v => L.length - (intOf v).toNat)
  case atStart => exact ⟨0, Nat.zero_le _, rfl, fun j h => by omega⟩
  case round =>
    obtain ⟨k, hk, rfl, hno⟩ := hrel
    have HNO := Lib.hid hno
    clear hno
    by_cases hkl : k + s.length + 2 ≤ L.length
    · have hks : k < R.size := by omega
      have hks2 : k + 1 + s.length < R.size := by omega
      obtain ⟨b0, hb0⟩ : ∃ b0, R[k] = b0 := ⟨_, rfl⟩
      have e1 : IntKind.i64.wrap ((k : Int) + s.length) = (k : Int) + s.length := IntWalk.i64_in _ (by omega)
      have e2 : IntKind.i64.wrap ((k : Int) + s.length + 2) = (k : Int) + s.length + 2 := IntWalk.i64_in _ (by omega)
      have e3 : IntKind.i64.wrap ((k : Int) + 1) = (k : Int) + 1 := IntWalk.i64_in _ (by omega)
      have e4 : IntKind.i64.wrap ((k : Int) + 1 + s.length) = (k : Int) + 1 + s.length := IntWalk.i64_in _ (by omega)
      have l1 : 0 ≤ (k : Int) + 1 := by omega
      have l2 : 0 ≤ (k : Int) + 1 + s.length := by omega
      have l3 : (k : Int) + 1 + s.length < L.length := by omega
      have l4 : (k : Int) + 1 + s.length ≤ L.length := by omega
      have l5 : (k : Int) + 1 ≤ (k : Int) + 1 + s.length := by omega
      have l6 : (k : Int) < L.length := by omega
      have q1 : ((k : Int) + 1 + s.length).toNat < R.size := by omega
      have q2 : ((k : Int) + 1 + s.length).toNat < L.length := by omega
      have q3 : k < L.length := by omega
      obtain ⟨b1, hb1⟩ : ∃ b1, R[((k : Int) + 1 + s.length).toNat] = b1 := ⟨_, rfl⟩
      have hki : (k : Int) + s.length + 2 ≤ L.length := by omega
      have hy0 := hget.out k hks q3
      have hy1 := hget.out ((k : Int) + 1 + s.length).toNat q1 q2
      rw [hb0] at hy0
      rw [hb1] at hy1
      have HY0 := Lib.hid hy0
      have HY1 := Lib.hid hy1
      clear hy0 hy1
      have F0 : Hid (L[k]? = some 32 ↔ (b0.toNat : Int) = 32) := Lib.hid (by
        rw [List.getElem?_eq_getElem q3, ← show b0 = L[k] from HY0.out]
        exact some32 b0)
      have F1 : Hid ((L.drop (k + 1)).take s.length = s ↔ (R.extract (k + 1) (k + 1 + s.length)).toList = S.toList) := Lib.hid (by
        have h := heq.out k
        rw [Bool.eq_iff_iff, beq_iff_eq, beq_iff_eq] at h
        exact h.symm)
      have F2 : Hid (L[k + 1 + s.length]? = some 32 ↔ ((b1.toNat : Int) == 32) = true) := Lib.hid (by
        have a2 : ((k : Int) + 1 + s.length).toNat = k + 1 + s.length := by omega
        rw [← a2, List.getElem?_eq_getElem q2, ← show b1 = L[((k : Int) + 1 + s.length).toNat] from HY1.out, beq_iff_eq]
        exact some32 b1)
      clear heq
      go_wp2
      · rename_i z0 z1 z2 _
        have Z := Lib.hid (And.intro z0 (And.intro z1 z2))
        clear z0 z1 z2
        go_ret
        refine ⟨ret_bool ?_, rfl⟩
        symm
        rw [X.among_iff]
        exact ⟨k, hkl, F0.out.2 Z.out.1, F1.out.2 Z.out.2.1, F2.out.2 Z.out.2.2⟩
      · rename_i z
        have Z := Lib.hid z
        clear z
        go_round
        case rel =>
          refine ⟨k + 1, by omega, by go_num, fun i hi => ?_⟩
          rcases Nat.lt_or_ge i k with h | h
          · exact HNO.out i h
          · obtain rfl : i = k := by omega
            rintro ⟨_, p0, p1, p2⟩
            have := F2.out.1 p2
            rw [show _ = false from Z.out] at this
            cases this
        case measure => simp [intOf]; omega
      · rename_i z
        have Z := Lib.hid z
        clear z
        go_round
        case rel =>
          refine ⟨k + 1, by omega, by go_num, fun i hi => ?_⟩
          rcases Nat.lt_or_ge i k with h | h
          · exact HNO.out i h
          · obtain rfl : i = k := by omega
            rintro ⟨_, p0, p1, p2⟩
            exact Z.out (F1.out.1 p1)
        case measure => simp [intOf]; omega
      · rename_i z
        have Z := Lib.hid z
        clear z
        go_round
        case rel =>
          refine ⟨k + 1, by omega, by go_num, fun i hi => ?_⟩
          rcases Nat.lt_or_ge i k with h | h
          · exact HNO.out i h
          · obtain rfl : i = k := by omega
            rintro ⟨_, p0, p1, p2⟩
            exact Z.out (F0.out.1 p0)
        case measure => simp [intOf]; omega
    · have hki : ¬ ((k : Int) + s.length + 2 ≤ L.length) := by omega
      go_wp2
      go_ret
      refine ⟨ret_bool ?_, rfl⟩
      symm
      rw [Bool.eq_false_iff]
      intro h
      obtain ⟨i, h1, h2, h3, h4⟩ := (X.among_iff s L).1 h
      exact HNO.out i (by omega) ⟨h1, h2, h3, h4⟩

theorem wordText_size : X.wordText.length ≤ 140737488355328 := Nat.le_of_ble_eq_true (by kernel_rfl)
theorem wordText_bs : bs X.wordText = ⟨#[32, 98, 114, 101, 97, 107, 32, 99, 97, 115, 101, 32, 99, 97, 116, 99, 104, 32, 99, 108, 97, 115, 115, 32, 99, 111, 110, 115, 116, 32, 99, 111, 110, 116, 105, 110, 117, 101, 32, 100, 101, 98, 117, 103, 103, 101, 114, 32, 100, 101, 102, 97, 117, 108, 116, 32, 100, 101, 108, 101, 116, 101, 32, 100, 111, 32, 101, 108, 115, 101, 32, 101, 110, 117, 109, 32, 101, 120, 112, 111, 114, 116, 32, 101, 120, 116, 101, 110, 100, 115, 32, 102, 97, 108, 115, 101, 32, 102, 105, 110, 97, 108, 108, 121, 32, 102, 111, 114, 32, 102, 117, 110, 99, 116, 105, 111, 110, 32, 105, 102, 32, 105, 109, 112, 111, 114, 116, 32, 105, 110, 32, 105, 110, 115, 116, 97, 110, 99, 101, 111, 102, 32, 108, 101, 116, 32, 110, 101, 119, 32, 110, 117, 108, 108, 32, 114, 101, 116, 117, 114, 110, 32, 115, 117, 112, 101, 114, 32, 115, 119, 105, 116, 99, 104, 32, 116, 104, 105, 115, 32, 116, 104, 114, 111, 119, 32, 116, 114, 117, 101, 32, 116, 114, 121, 32, 116, 121, 112, 101, 111, 102, 32, 118, 97, 114, 32, 118, 111, 105, 100, 32, 119, 104, 105, 108, 101, 32, 119, 105, 116, 104, 32, 121, 105, 101, 108, 100, 32]⟩ := by kernel_rfl
set_option maxHeartbeats 4000000 in
theorem refWord_any (l : List UInt8) (hl : l.length ≤ 140737488355328) (w : World) :
    Calls Tryz.prog 14 #[.string (bs l)] w fun e w' => e = .returned (.bool (X.word l)) ∧ w = w' := by
  have hsp := spaced_any l hl
  have ham := among_any l X.wordText hl wordText_size
  rw [wordText_bs] at ham
  have hemp : (bs l).toList.isEmpty = l.isEmpty := by rw [Lib.toList_data]; rfl
  rw [← X.refWord_eq]
  have hr : X.refWord l = (!l.isEmpty && !X.spacedL l && X.amongL l X.wordText) := rfl
  rw [hr]
  clear hr
  generalize X.spacedL l = p1 at *
  generalize X.amongL l X.wordText = p2 at *
  generalize l.isEmpty = p0 at *
  generalize bs l = S at *
  go_enter Tryz.func14, Tryz.ntmps14
  go_wp2_with (first | ((with_reducible refine (hsp _).mono ?_); rintro e w' ⟨rfl, rfl⟩) | ((with_reducible refine (ham _).mono ?_); rintro e w' ⟨rfl, rfl⟩))
  all_goals (clear ham hsp; go_ret; refine ⟨ret_bool ?_, rfl⟩; simp_all)

set_option maxHeartbeats 4000000 in
theorem refName_any (l : List UInt8) (hl : l.length ≤ 140737488355328) (w : World) :
    Calls Tryz.prog 16 #[.string (bs l)] w fun e w' => e = .returned (.bool (X.name l)) ∧ w = w' := by
  have h1 := spelt_any l hl
  have h2 := refWord_any l hl
  rw [← spelt_name]
  generalize X.speltL l = p1 at *
  generalize X.word l = p2 at *
  generalize bs l = S at *
  cases p1
  all_goals (
    go_enter Tryz.func16, Tryz.ntmps16
    go_wp2_with (first | ((with_reducible refine (h1 _).mono ?_); rintro e w' ⟨rfl, rfl⟩) | ((with_reducible refine (h2 _).mono ?_); rintro e w' ⟨rfl, rfl⟩))
    go_ret
    exact ⟨rfl, rfl⟩)
end Go.Proofs.YthakjbmheoojeaaGreatDoor
