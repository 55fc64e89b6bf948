/- What pennantref01.Length, Cut, Find and Case answer. -/
import Derived.Test.YtalhpihoblhacaaDoorRefA
import Derived.Test.YtalhpihoblhacaaDoorLawFinds
import Derived.Test.YtalhpihoblhacaaDoorMoved
namespace Go.Proofs.YtalhpihoblhacaaDoor
open Go.RowKit Go.Shelf
set_option linter.unusedVariables false

theorem rlength_eq (s : ByteArray) (hs : s.size ≤ 140737488355328) (z : Int) (h : (s.size : Int) / 2 = z) (w : World) :
    Calls Tryd.prog 37 #[.string s] w fun e w' => e = .returned (.int .i64 z) ∧ w = w' := by
  have H := Lib.hid h
  clear h
  go_enter Tryd.func37, Tryd.ntmps37
  go_wp2
  go_ret
  exact ⟨ret_int H.out, rfl⟩

def RCutRel (s : ByteArray) (a : Nat) (b : Int) (xv iv : Value) : Prop :=
  ∃ (i : Nat) (X : ByteArray), iv = .int .i64 (i : Int) ∧ xv = .string X ∧ a ≤ i ∧ ((i : Int) ≤ b ∨ i = a) ∧ X.size ≤ 2 * (i - a) ∧ Hid (ls X = ((ls s).drop (2 * a)).take (2 * (i - a)))

set_option maxHeartbeats 4000000 in
theorem rcut_any (s : ByteArray) (hs : s.size ≤ 4000) (f t : Int) (hf : f ≤ 9223372036854775807) (w : World) :
    Calls Tryd.prog 22 #[.string s, .int .i64 f, .int .i64 t] w fun e w' => e = .returned (.string ⟨(cutL (ls s) f t).toArray⟩) ∧ w = w' := by
  obtain ⟨n, hn⟩ : ∃ n, s.size / 2 = n := ⟨_, rfl⟩
  have cl := rlength_eq s (by omega) (n : Int) (by omega)
  obtain ⟨a, ha⟩ : ∃ a : Nat, f.toNat = a := ⟨_, rfl⟩
  have hmx : max f 0 = (a : Int) := by omega
  obtain ⟨b, hb⟩ : ∃ b : Int, min t (n : Int) = b := ⟨_, rfl⟩
  have HN := Lib.hid hn
  have HAA := Lib.hid ha
  have HBB := Lib.hid hb
  have ha9 : (a : Int) ≤ 9223372036854775807 := by omega
  have hbn : b ≤ (n : Int) := by omega
  have hn4 : (n : Int) ≤ 2000 := by omega
  clear hn ha
  go_enter Tryd.func22, Tryd.ntmps22
  go_wp2
  go_loop [7, 8] (fun xv iv => RCutRel s a b xv iv) (fun _ iv => n - (intOf iv).toNat)
  case atStart => exact ⟨a, ⟨#[]⟩, rfl, rfl, Nat.le_refl _, .inr rfl, Nat.zero_le _, by show _ = _; simp⟩
  case round =>
    obtain ⟨i, X, rfl, rfl, hai, hib, hXs, HX⟩ := hrel
    by_cases hlt : (i : Int) < b
    · have hin : i < n := by omega
      obtain ⟨D, hD⟩ := str_mk (((ls s).drop (2 * i)).take 2)
      have hsl : ∀ wx : World, (Instr.slice 9 (.string s) (some (.int .i64 (2 * (i : Int)))) (some (.int .i64 (2 * (i : Int) + 2))) none).run Tryd.prog wx = .ok (.string D) wx := by
        intro wx
        have h2n := HN.out
        rw [run_slice_string wx 9 s .i64 .i64 (2 * (i : Int)) (2 * (i : Int) + 2) Tryd.underlying9 (by omega) (by omega) (by omega)]
        have q1 : (2 * (i : Int)).toNat = 2 * i := by omega
        have q2 : (2 * (i : Int) + 2).toNat = 2 * i + 2 := by omega
        have e : s.extract (2 * i) (2 * i + 2) = D := str_ext (by
          rw [hD]
          show (s.extract (2 * i) (2 * i + 2)).data.toList = _
          rw [Lib.extract_data, show 2 * i + 2 - 2 * i = 2 by omega])
        rw [q1, q2, e]
      have hDs : D.size ≤ 2 := by rw [← ls_length, hD, List.length_take]; omega
      have hns : ¬ (X.size + D.size > 9223372036854775807) := by omega
      have HD := Lib.hid hD
      have HDs := Lib.hid hDs
      have HAI := Lib.hid hai
      have HXs := Lib.hid hXs
      have HIN := Lib.hid hin
      have HLT := Lib.hid hlt
      have hi9 : (i : Int) ≤ 2000 := by omega
      clear hD hDs hai hXs hin hib
      go_wp2_with fail
      refine (cl _).mono ?_
      rintro e w6 ⟨rfl, rfl⟩
      go_wp2
      go_round
      case rel =>
        have h1 := HAI.out
        have h2 := HLT.out
        refine ⟨i + 1, X ++ D, by go_num, rfl, by omega, .inl (by omega), ?_, ?_⟩
        · rw [← ls_length, ls_append, List.length_append, ls_length, ls_length]
          have := HXs.out
          have := HDs.out
          omega
        · show _ = _
          rw [ls_append, HX.out, HD.out, show 2 * (i + 1 - a) = 2 * (i - a) + 2 by omega, List.take_add, List.drop_drop, show 2 * a + 2 * (i - a) = 2 * i by omega]
      case measure => have := HIN.out; simp [intOf]; omega
    · have hXX : Hid (X = ⟨(cutL (ls s) f t).toArray⟩) := str_ext (by
        rw [HX.out]
        show _ = cutL (ls s) f t
        unfold cutL clampN
        rw [ls_length, HN.out, HAA.out]
        have h1 := HBB.out
        have h2 := HN.out
        by_cases hb1 : (a : Int) < b
        · have e1 : min a n = a := by omega
          have e2 : min t.toNat n = i := by omega
          rw [e1, e2]
          congr 1
          omega
        · have e3 : i = a := by omega
          rw [e3, Nat.sub_self, Nat.mul_zero, List.take_zero]
          have e4 : 2 * min t.toNat n - 2 * min a n = 0 := by omega
          rw [e4, List.take_zero])
      clear hai hib hXs
      go_wp2_with fail
      refine (cl _).mono ?_
      rintro e w6 ⟨rfl, rfl⟩
      go_wp2
      go_ret
      rw [hXX.out]
      exact ⟨rfl, rfl⟩
end Go.Proofs.YtalhpihoblhacaaDoor
