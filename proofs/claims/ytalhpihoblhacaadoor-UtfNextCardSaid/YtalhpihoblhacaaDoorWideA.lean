/- What the small functions on wide texts answer: a unit, a length, a part. -/
import Derived.Test.YtalhpihoblhacaaDoorNext
namespace Go.Proofs.YtalhpihoblhacaaDoor
open Go.RowKit Go.Shelf
set_option linter.unusedVariables false

namespace U
def unitAt (l : List UInt8) (i : Nat) : Nat := g l (2 * i) * 256 + g l (2 * i + 1)
end U

theorem ret_int {k : IntKind} {a b : Int} (h : a = b) : Ending.returned (.int k a) = .returned (.int k b) := by rw [h]
theorem g_at (s : ByteArray) (k : Nat) (h : k < s.size) : U.g (ls s) k = (s[k]).toNat := by
  unfold U.g
  rw [List.getD_eq_getElem?_getD, List.getElem?_eq_getElem (by rw [ls_length]; exact h)]
  rfl
set_option maxHeartbeats 1000000 in
theorem length_any (s : ByteArray) (hs : s.size ≤ 140737488355328) (w : World) :
    Calls Tryd.prog 18 #[.string s] w fun e w' => e = .returned (.int .i64 ((s.size : Int) / 2)) ∧ w = w' := by
  go_enter Tryd.func18, Tryd.ntmps18
  go_wp2
  go_ret
  exact ⟨rfl, rfl⟩

set_option maxHeartbeats 1000000 in
theorem unit_any (s : ByteArray) (hs : s.size ≤ 140737488355328) (i : Nat) (hi : 2 * i + 1 < s.size) (w : World) :
    Calls Tryd.prog 34 #[.string s, .int .i64 (i : Int)] w fun e w' => e = .returned (.int .i64 (U.unitAt (ls s) i : Nat)) ∧ ∃ n, w' = w.drewN n := by
  have e1 : IntKind.i64.wrap (2 * (i : Int)) = 2 * (i : Int) := IntWalk.i64_in _ (by omega)
  have e2 : IntKind.i64.wrap (2 * (i : Int) + 1) = 2 * (i : Int) + 1 := IntWalk.i64_in _ (by omega)
  have l1 : 0 ≤ 2 * (i : Int) := by omega
  have l2 : 2 * (i : Int) < s.size := by omega
  have l3 : 2 * (i : Int) + 1 < s.size := by omega
  have l4 : 0 ≤ 2 * (i : Int) + 1 := by omega
  have q1 : (2 * (i : Int)).toNat < s.size := by omega
  have q2 : (2 * (i : Int) + 1).toNat < s.size := by omega
  obtain ⟨x, hx⟩ : ∃ x, s[(2 * (i : Int)).toNat] = x := ⟨_, rfl⟩
  obtain ⟨y, hy⟩ : ∃ y, s[(2 * (i : Int) + 1).toNat] = y := ⟨_, rfl⟩
  have hu : Hid (U.unitAt (ls s) i = x.toNat * 256 + y.toNat) := by
    show _ = _
    unfold U.unitAt
    rw [g_at s (2 * i) (by omega), g_at s (2 * i + 1) hi, ← hx, ← hy]
    have a1 : (2 * (i : Int)).toNat = 2 * i := by omega
    have a2 : (2 * (i : Int) + 1).toNat = 2 * i + 1 := by omega
    simp only [a1, a2]
  have x8 := x.toNat_lt
  have y8 := y.toNat_lt
  have w1 : IntKind.i64.wrap (x.toNat : Int) = x.toNat := IntWalk.i64_in _ (by omega)
  have w2 : IntKind.i64.wrap (y.toNat : Int) = y.toNat := IntWalk.i64_in _ (by omega)
  have w3 : IntKind.i64.wrap ((x.toNat : Int) * 256) = (x.toNat : Int) * 256 := IntWalk.i64_in _ (by omega)
  have w4 := i64_join8 ((x.toNat : Int) * 256) (y.toNat : Int) (by omega) (by omega) (by omega) (by omega) (by omega)
  go_enter Tryd.func34, Tryd.ntmps34
  go_wp2
  go_quiet (fail)
  go_wp2
  go_ret
  refine ⟨ret_int ?_, _, rfl⟩
  rw [hu.out]
  rfl

set_option maxHeartbeats 1000000 in
theorem at_out (s : ByteArray) (hs : s.size ≤ 140737488355328) (i : Int) (hi : i < 0 ∨ (s.size : Int) / 2 ≤ i) (w : World) :
    Calls Tryd.prog 16 #[.string s, .int .i64 i] w fun e w' => e = .returned (.tuple #[.int .i64 0, .bool false]) ∧ ∃ n, w' = w.drewN n := by
  rcases hi with hi | hi
  · go_enter Tryd.func16, Tryd.ntmps16
    go_wp2
    go_ret2
    exact ⟨rfl, 0, rfl⟩
  · by_cases h0 : i < 0
    · go_enter Tryd.func16, Tryd.ntmps16
      go_wp2
      go_ret2
      exact ⟨rfl, 0, rfl⟩
    · go_enter Tryd.func16, Tryd.ntmps16
      go_wp2
      go_ret2
      exact ⟨rfl, 0, rfl⟩

set_option maxHeartbeats 1000000 in
theorem at_in (s : ByteArray) (hs : s.size ≤ 140737488355328) (i : Nat) (hi : 2 * i + 1 < s.size) (w : World) :
    Calls Tryd.prog 16 #[.string s, .int .i64 (i : Int)] w fun e w' => e = .returned (.tuple #[.int .i64 (U.unitAt (ls s) i : Nat), .bool true]) ∧ ∃ n, w' = w.drewN n := by
  have h1 : (i : Int) < (s.size : Int) / 2 := by omega
  go_enter Tryd.func16, Tryd.ntmps16
  go_wp2_with (first | (go_at_call 18; refine (length_any s hs _).mono ?_; rintro e w' ⟨rfl, rfl⟩) | (go_at_call 34; refine (unit_any s hs i hi _).mono ?_; rintro e w' ⟨rfl, n, rfl⟩))
  go_ret2
  exact ⟨rfl, _, rfl⟩

def clampN (i : Int) (n : Nat) : Nat := min i.toNat n
set_option maxHeartbeats 1000000 in
theorem within_any (i z : Int) (n c : Nat) (hz : (n : Int) = z) (hc : clampN i n = c) (w : World) :
    Calls Tryd.prog 38 #[.int .i64 i, .int .i64 z] w fun e w' => e = .returned (.int .i64 (c : Int)) ∧ w = w' := by
  have HC := Lib.hid hc
  have HZ := Lib.hid hz
  clear hc hz
  go_enter Tryd.func38, Tryd.ntmps38
  go_wp2
  all_goals go_ret
  all_goals refine ⟨ret_int ?_, rfl⟩
  all_goals
    have k1 := HC.out
    have k2 := HZ.out
    unfold clampN at k1
    omega

def cutL (l : List UInt8) (f t : Int) : List UInt8 := (l.drop (2 * clampN f (l.length / 2))).take (2 * clampN t (l.length / 2) - 2 * clampN f (l.length / 2))
theorem str_ext {a b : ByteArray} (h : ls a = ls b) : a = b := by
  cases a; cases b
  congr 1
  exact Array.toList_inj.1 h
theorem ls_mk (l : List UInt8) : ls ⟨l.toArray⟩ = l := rfl
set_option maxHeartbeats 1000000 in
theorem cut_any (s : ByteArray) (hs : s.size ≤ 140737488355328) (f t : Int) (w : World) :
    Calls Tryd.prog 21 #[.string s, .int .i64 f, .int .i64 t] w fun e w' => e = .returned (.string ⟨(cutL (ls s) f t).toArray⟩) ∧ w = w' := by
  obtain ⟨a, ha⟩ : ∃ a, clampN f (s.size / 2) = a := ⟨_, rfl⟩
  obtain ⟨b, hb⟩ : ∃ b, clampN t (s.size / 2) = b := ⟨_, rfl⟩
  have ha2 : a ≤ s.size / 2 := by rw [← ha]; exact Nat.min_le_right _ _
  have hb2 : b ≤ s.size / 2 := by rw [← hb]; exact Nat.min_le_right _ _
  have HR : Hid (cutL (ls s) f t = ((ls s).drop (2 * a)).take (2 * b - 2 * a)) := by
    show _ = _
    unfold cutL
    rw [ls_length, ha, hb]
  have cf := within_any f ((s.size : Int) / 2) (s.size / 2) a (by omega) ha
  have ct := within_any t ((s.size : Int) / 2) (s.size / 2) b (by omega) hb
  clear ha hb
  by_cases hab : a < b
  · have hz : (a : Int) < (b : Int) := by omega
    have l1 : 0 ≤ 2 * (a : Int) := by omega
    have l2 : 2 * (a : Int) ≤ 2 * (b : Int) := by omega
    have l3 : 2 * (b : Int) ≤ s.size := by omega
    have hsl : ∀ wx : World, (Instr.slice 9 (.string s) (some (.int .i64 (2 * (a : Int)))) (some (.int .i64 (2 * (b : Int)))) none).run Tryd.prog wx = .ok (.string (s.extract (2 * a) (2 * b))) wx := by
      intro wx
      rw [run_slice_string wx 9 s .i64 .i64 (2 * (a : Int)) (2 * (b : Int)) Tryd.underlying9 l1 l2 l3]
      have q1 : (2 * (a : Int)).toNat = 2 * a := by omega
      have q2 : (2 * (b : Int)).toNat = 2 * b := by omega
      rw [q1, q2]
    go_enter Tryd.func21, Tryd.ntmps21
    go_wp2_with fail
    refine (length_any s hs _).mono ?_
    rintro e w' ⟨rfl, rfl⟩
    go_wp2_with fail
    refine (cf _).mono ?_
    rintro e w' ⟨rfl, rfl⟩
    go_wp2_with fail
    refine (length_any s hs _).mono ?_
    rintro e w' ⟨rfl, rfl⟩
    go_wp2_with fail
    refine (ct _).mono ?_
    rintro e w' ⟨rfl, rfl⟩
    go_wp2
    go_ret
    have he : s.extract (2 * a) (2 * b) = ⟨(cutL (ls s) f t).toArray⟩ := by
      apply str_ext
      rw [ls_mk, HR.out]
      exact Lib.extract_data s _ _
    rw [he]
    exact ⟨rfl, rfl⟩
  · have hz : (b : Int) ≤ (a : Int) := by omega
    go_enter Tryd.func21, Tryd.ntmps21
    go_wp2_with fail
    refine (length_any s hs _).mono ?_
    rintro e w' ⟨rfl, rfl⟩
    go_wp2_with fail
    refine (cf _).mono ?_
    rintro e w' ⟨rfl, rfl⟩
    go_wp2_with fail
    refine (length_any s hs _).mono ?_
    rintro e w' ⟨rfl, rfl⟩
    go_wp2_with fail
    refine (ct _).mono ?_
    rintro e w' ⟨rfl, rfl⟩
    go_wp2
    go_ret
    refine ⟨?_, rfl⟩
    rw [HR.out, show 2 * b - 2 * a = 0 by omega, List.take_zero]
    rfl

theorem length_eq (s : ByteArray) (hs : s.size ≤ 140737488355328) (z : Int) (h : (s.size : Int) / 2 = z) (w : World) :
    Calls Tryd.prog 18 #[.string s] w fun e w' => e = .returned (.int .i64 z) ∧ w = w' := by
  subst h
  exact length_any s hs w
theorem cut_eq (s : ByteArray) (hs : s.size ≤ 140737488355328) (f t : Int) (R : ByteArray) (h : cutL (ls s) f t = ls R) (w : World) :
    Calls Tryd.prog 21 #[.string s, .int .i64 f, .int .i64 t] w fun e w' => e = .returned (.string R) ∧ w = w' := by
  have e : (⟨(cutL (ls s) f t).toArray⟩ : ByteArray) = R := str_ext h
  rw [← e]
  exact cut_any s hs f t w
theorem str_mk (l : List UInt8) : ∃ s : ByteArray, ls s = l := ⟨⟨l.toArray⟩, rfl⟩
theorem ls_append (a b : ByteArray) : ls (a ++ b) = ls a ++ ls b := by
  show (a ++ b).data.toList = _
  rw [ByteArray.data_append, Array.toList_append]

end Go.Proofs.YtalhpihoblhacaaDoor
