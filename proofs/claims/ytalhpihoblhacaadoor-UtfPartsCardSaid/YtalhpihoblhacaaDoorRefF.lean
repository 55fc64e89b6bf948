/- What pennantref01.Case answers of every text: the units of a to z, or of A to Z, moved, as utf.Upper and Lower do. -/
import Derived.Test.YtalhpihoblhacaaDoorRefE
import Derived.Test.YtalhpihoblhacaaDoorLawCases
import Derived.Test.YtalhpihoblhacaaDoorRefB
namespace Go.Proofs.YtalhpihoblhacaaDoor
open Go.RowKit Go.Shelf
set_option linter.unusedVariables false

namespace U
theorem mv_pair (f t o : Nat) : ∀ (i : Nat) (l : List UInt8), 2 * i + 1 < l.length → ((mv f t o l).drop (2 * i)).take 2 = [l.getD (2 * i) 0, mvU f t o (l.getD (2 * i) 0) (l.getD (2 * i + 1) 0)]
  | _, [], h => by simp at h
  | _, [_], h => by simp at h
  | 0, a :: b :: r, _ => by simp [mv]
  | i + 1, a :: b :: r, h => by
    have := mv_pair f t o i r (by simp only [List.length_cons] at h; omega)
    rw [show 2 * (i + 1) = 2 * i + 1 + 1 by omega]
    simp only [mv, List.drop_succ_cons, List.getD_cons_succ]
    exact this
theorem be_two (x y : UInt8) (u : Nat) (h : u = x.toNat * 256 + y.toNat) : be u = [x, y] := by
  subst h
  have hx := x.toNat_lt
  have hy := y.toNat_lt
  unfold be
  have e1 : (x.toNat * 256 + y.toNat) / 256 = x.toNat := by omega
  have e2 : (x.toNat * 256 + y.toNat) % 256 = y.toNat := by omega
  rw [e1, e2]
  simp
theorem mv_up (l : List UInt8) (i : Nat) (h : 2 * i + 1 < l.length) : ((mv 97 122 65 l).drop (2 * i)).take 2 = be (if 97 ≤ unitAt l i ∧ unitAt l i ≤ 122 then unitAt l i - 32 else unitAt l i) := by
  rw [mv_pair 97 122 65 i l h]
  symm
  apply be_two
  rw [up_nat]
  have h2 := UInt8.toNat_lt (l.getD (2 * i + 1) 0)
  unfold unitAt g
  repeat' split
  all_goals omega
theorem mv_low (l : List UInt8) (i : Nat) (h : 2 * i + 1 < l.length) : ((mv 65 90 97 l).drop (2 * i)).take 2 = be (if 65 ≤ unitAt l i ∧ unitAt l i ≤ 90 then unitAt l i + 32 else unitAt l i) := by
  rw [mv_pair 65 90 97 i l h]
  symm
  apply be_two
  rw [low_nat]
  have h2 := UInt8.toNat_lt (l.getD (2 * i + 1) 0)
  unfold unitAt g
  repeat' split
  all_goals omega
end U

def RCaseRel (M : List UInt8) (n B : Nat) (w : World) (xv iv : Value) (wr : World) : Prop :=
  ∃ (i : Nat) (X : ByteArray), iv = .int .i64 (i : Int) ∧ xv = .string X ∧ i ≤ n ∧ X.size ≤ 2 * i ∧ Hid (ls X = M.take (2 * i)) ∧ Below B w wr ∧ B ≤ wr.heap.size
theorem rcase_rel {M : List UInt8} {n B i u : Nat} {z : Int} {w wr w1 : World} {X R : ByteArray} (hz : z = ((i + 1 : Nat) : Int)) (hin : i < n) (hXs : X.size ≤ 2 * i) (HX : Hid (ls X = M.take (2 * i))) (hbel : Below B w wr) (hlt : B ≤ wr.heap.size)
    (hR : ls R = U.be u) (hM : (M.drop (2 * i)).take 2 = U.be u) (hb : Below wr.heap.size wr w1) : RCaseRel M n B w (.string (X ++ R)) (.int .i64 z) w1 := by
  subst hz
  refine ⟨i + 1, X ++ R, rfl, rfl, by omega, ?_, ?_, hbel.trans (hb.mono hlt), Nat.le_trans hlt hb.size⟩
  · rw [← ls_length, ls_append, List.length_append, ls_length, hR, be_length]; omega
  · show _ = _
    rw [ls_append, HX.out, hR, ← hM, show 2 * (i + 1) = 2 * i + 2 by omega, List.take_add]

set_option maxHeartbeats 8000000 in
theorem rupper_any (s : ByteArray) (hs : s.size ≤ 4000) (w : World) :
    Calls Tryd.prog 24 #[.string s, .bool true] w fun e w' => e = .returned (.string ⟨(U.mv 97 122 65 (ls s)).toArray⟩) ∧ Below w.heap.size w w' := by
  obtain ⟨n, hn⟩ : ∃ n, s.size / 2 = n := ⟨_, rfl⟩
  have c2 := rlength_eq s (by omega) (n : Int) (by omega)
  obtain ⟨M, hM⟩ : ∃ M, U.mv 97 122 65 (ls s) = M := ⟨_, rfl⟩
  have HMl : Hid (M.length = 2 * n) := by show _ = _; rw [← hM, U.mv_length _ _ _ _ _ (Nat.le_refl _), ls_length, hn]
  have HMp : Hid (∀ i, i < n → (M.drop (2 * i)).take 2 = U.be (if 97 ≤ U.unitAt (ls s) i ∧ U.unitAt (ls s) i ≤ 122 then U.unitAt (ls s) i - 32 else U.unitAt (ls s) i)) := fun i hi => by
    rw [← hM]
    exact U.mv_up (ls s) i (by rw [ls_length]; omega)
  obtain ⟨B, hB⟩ : ∃ B, w.heap.size = B := ⟨_, rfl⟩
  have Hst : RCaseRel M n B w (.string ⟨#[]⟩) (.int .i64 0) w :=
    ⟨0, ⟨#[]⟩, rfl, rfl, Nat.zero_le _, Nat.zero_le _, by show _ = _; simp, Below.refl _ _, Nat.le_of_eq hB.symm⟩
  have HB := Lib.hid hB
  have HN := Lib.hid hn
  have hn4 : (n : Int) ≤ 2000 := by omega
  rw [hM]
  clear hB hM hn
  go_enter Tryd.func24, Tryd.ntmps24
  go_wp2
  go_loopw [5, 6] (fun xv iv wr => RCaseRel M n B w xv iv wr) (fun _ iv wr => n - (intOf iv).toNat)
  case atStart => exact Hst
  case round =>
    obtain ⟨i, X, rfl, rfl, hi, hXs, HX, hbel, hlt⟩ := hrel
    by_cases hin : i < n
    · have hiz : (i : Int) < (n : Int) := by omega
      have hi2 : 2 * i + 1 < s.size := by have := HN.out; omega
      have cu := refAt_in s (by omega) i hi2
      have hmp := HMp.out i hin
      obtain ⟨u, hu⟩ : ∃ u, U.unitAt (ls s) i = u := ⟨_, rfl⟩
      have hu6 : u < 65536 := by rw [← hu]; exact U.unitAt_lt _ _
      rw [hu] at cu hmp
      clear hu
      by_cases h1 : 97 ≤ u ∧ u ≤ 122
      · rw [if_pos h1] at hmp
        obtain ⟨R, hR⟩ := str_mk (U.be (u - 32))
        have cs := unitS_eq ((u : Int) - 32) (by omega) (by omega) R (by rw [hR, show ((u : Int) - 32).toNat = u - 32 by omega])
        have hRs : R.size = 2 := by rw [← ls_length, hR]; rfl
        have hns : ¬ (X.size + R.size > 9223372036854775807) := by omega
        have t1 : decide (97 ≤ (u : Int)) = true := decide_eq_true (by omega)
        have t2 : decide ((u : Int) ≤ 122) = true := decide_eq_true (by omega)
        have z1 : 97 ≤ (u : Int) := by omega
        have z2 : (u : Int) ≤ 122 := by omega
        have HR := Lib.hid hR
        have HMM := Lib.hid hmp
        have HIN := Lib.hid hin
        have HXs := Lib.hid hXs
        clear hR hRs hmp h1 hu6 hi2 hXs hin hi
        go_wp2_with fail
        refine (c2 _).mono ?_
        rintro e w6 ⟨rfl, rfl⟩
        go_wp2_with fail
        refine (cu _).mono ?_
        rintro e w6 ⟨rfl, n1, rfl⟩
        go_wp2_with fail
        refine (cs _).mono ?_
        rintro e w6 ⟨rfl, hb1⟩
        go_wp2
        go_roundw
        case rel => exact rcase_rel (by omega) HIN.out HXs.out HX hbel hlt HR.out HMM.out ((below_of_drew n1).trans hb1)
        case measure => have := HIN.out; simp [intOf]; omega
      · rw [if_neg h1] at hmp
        obtain ⟨R, hR⟩ := str_mk (U.be u)
        have cs := unitS_eq (u : Int) (by omega) (by omega) R (by rw [hR]; rfl)
        have hRs : R.size = 2 := by rw [← ls_length, hR]; rfl
        have hns : ¬ (X.size + R.size > 9223372036854775807) := by omega
        have HR := Lib.hid hR
        have HMM := Lib.hid hmp
        have HIN := Lib.hid hin
        have HXs := Lib.hid hXs
        by_cases h2 : 97 ≤ u
        · have t1 : decide (97 ≤ (u : Int)) = true := decide_eq_true (by omega)
          have t2 : decide ((u : Int) ≤ 122) = false := decide_eq_false (by omega)
          have z1 : 97 ≤ (u : Int) := by omega
          have z2 : ¬ (u : Int) ≤ 122 := by omega
          clear hR hRs hmp h1 hu6 hi2 hXs hin hi h2
          go_wp2_with fail
          refine (c2 _).mono ?_
          rintro e w6 ⟨rfl, rfl⟩
          go_wp2_with fail
          refine (cu _).mono ?_
          rintro e w6 ⟨rfl, n1, rfl⟩
          go_wp2_with fail
          refine (cs _).mono ?_
          rintro e w6 ⟨rfl, hb1⟩
          go_wp2
          go_roundw
          case rel => exact rcase_rel (by omega) HIN.out HXs.out HX hbel hlt HR.out HMM.out ((below_of_drew n1).trans hb1)
          case measure => have := HIN.out; simp [intOf]; omega
        · have t1 : decide (97 ≤ (u : Int)) = false := decide_eq_false (by omega)
          have z1 : ¬ 97 ≤ (u : Int) := by omega
          clear hR hRs hmp h1 hu6 hi2 hXs hin hi h2
          go_wp2_with fail
          refine (c2 _).mono ?_
          rintro e w6 ⟨rfl, rfl⟩
          go_wp2_with fail
          refine (cu _).mono ?_
          rintro e w6 ⟨rfl, n1, rfl⟩
          go_wp2_with fail
          refine (cs _).mono ?_
          rintro e w6 ⟨rfl, hb1⟩
          go_wp2
          go_roundw
          case rel => exact rcase_rel (by omega) HIN.out HXs.out HX hbel hlt HR.out HMM.out ((below_of_drew n1).trans hb1)
          case measure => have := HIN.out; simp [intOf]; omega
    · obtain rfl : i = n := by omega
      have hXX : Hid (X = ⟨M.toArray⟩) := str_ext (by rw [HX.out, List.take_of_length_le (by rw [HMl.out]; exact Nat.le_refl _)])
      clear hin hi hXs
      go_wp2_with fail
      refine (c2 _).mono ?_
      rintro e w6 ⟨rfl, rfl⟩
      go_wp2
      go_ret
      rw [hXX.out]
      exact ⟨rfl, by rw [HB.out]; exact hbel⟩

set_option maxHeartbeats 8000000 in
theorem rlower_any (s : ByteArray) (hs : s.size ≤ 4000) (w : World) :
    Calls Tryd.prog 24 #[.string s, .bool false] w fun e w' => e = .returned (.string ⟨(U.mv 65 90 97 (ls s)).toArray⟩) ∧ Below w.heap.size w w' := by
  obtain ⟨n, hn⟩ : ∃ n, s.size / 2 = n := ⟨_, rfl⟩
  have c2 := rlength_eq s (by omega) (n : Int) (by omega)
  obtain ⟨M, hM⟩ : ∃ M, U.mv 65 90 97 (ls s) = M := ⟨_, rfl⟩
  have HMl : Hid (M.length = 2 * n) := by show _ = _; rw [← hM, U.mv_length _ _ _ _ _ (Nat.le_refl _), ls_length, hn]
  have HMp : Hid (∀ i, i < n → (M.drop (2 * i)).take 2 = U.be (if 65 ≤ U.unitAt (ls s) i ∧ U.unitAt (ls s) i ≤ 90 then U.unitAt (ls s) i + 32 else U.unitAt (ls s) i)) := fun i hi => by
    rw [← hM]
    exact U.mv_low (ls s) i (by rw [ls_length]; omega)
  obtain ⟨B, hB⟩ : ∃ B, w.heap.size = B := ⟨_, rfl⟩
  have Hst : RCaseRel M n B w (.string ⟨#[]⟩) (.int .i64 0) w :=
    ⟨0, ⟨#[]⟩, rfl, rfl, Nat.zero_le _, Nat.zero_le _, by show _ = _; simp, Below.refl _ _, Nat.le_of_eq hB.symm⟩
  have HB := Lib.hid hB
  have HN := Lib.hid hn
  have hn4 : (n : Int) ≤ 2000 := by omega
  rw [hM]
  clear hB hM hn
  go_enter Tryd.func24, Tryd.ntmps24
  go_wp2
  go_loopw [5, 6] (fun xv iv wr => RCaseRel M n B w xv iv wr) (fun _ iv wr => n - (intOf iv).toNat)
  case atStart => exact Hst
  case round =>
    obtain ⟨i, X, rfl, rfl, hi, hXs, HX, hbel, hlt⟩ := hrel
    by_cases hin : i < n
    · have hiz : (i : Int) < (n : Int) := by omega
      have hi2 : 2 * i + 1 < s.size := by have := HN.out; omega
      have cu := refAt_in s (by omega) i hi2
      have hmp := HMp.out i hin
      obtain ⟨u, hu⟩ : ∃ u, U.unitAt (ls s) i = u := ⟨_, rfl⟩
      have hu6 : u < 65536 := by rw [← hu]; exact U.unitAt_lt _ _
      rw [hu] at cu hmp
      clear hu
      by_cases h1 : 65 ≤ u ∧ u ≤ 90
      · rw [if_pos h1] at hmp
        obtain ⟨R, hR⟩ := str_mk (U.be (u + 32))
        have cs := unitS_eq ((u : Int) + 32) (by omega) (by omega) R (by rw [hR, show ((u : Int) + 32).toNat = u + 32 by omega])
        have hRs : R.size = 2 := by rw [← ls_length, hR]; rfl
        have hns : ¬ (X.size + R.size > 9223372036854775807) := by omega
        have t1 : decide (65 ≤ (u : Int)) = true := decide_eq_true (by omega)
        have t2 : decide ((u : Int) ≤ 90) = true := decide_eq_true (by omega)
        have z1 : 65 ≤ (u : Int) := by omega
        have z2 : (u : Int) ≤ 90 := by omega
        have HR := Lib.hid hR
        have HMM := Lib.hid hmp
        have HIN := Lib.hid hin
        have HXs := Lib.hid hXs
        clear hR hRs hmp h1 hu6 hi2 hXs hin hi
        go_wp2_with fail
        refine (c2 _).mono ?_
        rintro e w6 ⟨rfl, rfl⟩
        go_wp2_with fail
        refine (cu _).mono ?_
        rintro e w6 ⟨rfl, n1, rfl⟩
        go_wp2_with fail
        refine (cs _).mono ?_
        rintro e w6 ⟨rfl, hb1⟩
        go_wp2
        go_roundw
        case rel => exact rcase_rel (by omega) HIN.out HXs.out HX hbel hlt HR.out HMM.out ((below_of_drew n1).trans hb1)
        case measure => have := HIN.out; simp [intOf]; omega
      · rw [if_neg h1] at hmp
        obtain ⟨R, hR⟩ := str_mk (U.be u)
        have cs := unitS_eq (u : Int) (by omega) (by omega) R (by rw [hR]; rfl)
        have hRs : R.size = 2 := by rw [← ls_length, hR]; rfl
        have hns : ¬ (X.size + R.size > 9223372036854775807) := by omega
        have HR := Lib.hid hR
        have HMM := Lib.hid hmp
        have HIN := Lib.hid hin
        have HXs := Lib.hid hXs
        by_cases h2 : 65 ≤ u
        · have t1 : decide (65 ≤ (u : Int)) = true := decide_eq_true (by omega)
          have t2 : decide ((u : Int) ≤ 90) = false := decide_eq_false (by omega)
          have z1 : 65 ≤ (u : Int) := by omega
          have z2 : ¬ (u : Int) ≤ 90 := by omega
          clear hR hRs hmp h1 hu6 hi2 hXs hin hi h2
          go_wp2_with fail
          refine (c2 _).mono ?_
          rintro e w6 ⟨rfl, rfl⟩
          go_wp2_with fail
          refine (cu _).mono ?_
          rintro e w6 ⟨rfl, n1, rfl⟩
          go_wp2_with fail
          refine (cs _).mono ?_
          rintro e w6 ⟨rfl, hb1⟩
          go_wp2
          go_roundw
          case rel => exact rcase_rel (by omega) HIN.out HXs.out HX hbel hlt HR.out HMM.out ((below_of_drew n1).trans hb1)
          case measure => have := HIN.out; simp [intOf]; omega
        · have t1 : decide (65 ≤ (u : Int)) = false := decide_eq_false (by omega)
          have z1 : ¬ 65 ≤ (u : Int) := by omega
          clear hR hRs hmp h1 hu6 hi2 hXs hin hi h2
          go_wp2_with fail
          refine (c2 _).mono ?_
          rintro e w6 ⟨rfl, rfl⟩
          go_wp2_with fail
          refine (cu _).mono ?_
          rintro e w6 ⟨rfl, n1, rfl⟩
          go_wp2_with fail
          refine (cs _).mono ?_
          rintro e w6 ⟨rfl, hb1⟩
          go_wp2
          go_roundw
          case rel => exact rcase_rel (by omega) HIN.out HXs.out HX hbel hlt HR.out HMM.out ((below_of_drew n1).trans hb1)
          case measure => have := HIN.out; simp [intOf]; omega
    · obtain rfl : i = n := by omega
      have hXX : Hid (X = ⟨M.toArray⟩) := str_ext (by rw [HX.out, List.take_of_length_le (by rw [HMl.out]; exact Nat.le_refl _)])
      clear hin hi hXs
      go_wp2_with fail
      refine (c2 _).mono ?_
      rintro e w6 ⟨rfl, rfl⟩
      go_wp2
      go_ret
      rw [hXX.out]
      exact ⟨rfl, by rw [HB.out]; exact hbel⟩
end Go.Proofs.YtalhpihoblhacaaDoor
