/- The walk of the law UtfTurns: for every two texts it answers true. -/
import Derived.Test.YtalhpihoblhacaaDoorRefC
import Derived.Test.YtalhpihoblhacaaDoorLawJoins
namespace Go.Proofs.YtalhpihoblhacaaDoor
open Go.RowKit Go.Shelf
set_option linter.unusedVariables false

theorem narrow_any (s : ByteArray) (hs : s.size ≤ 1000000) (w : World) :
    Calls Tryd.prog 14 #[.string s] w fun e w' => e = .returned (.tuple #[.string ⟨(narrowL (ls s)).toArray⟩, .int .i64 (narrowErr (ls s) : Int)]) ∧ Below w.heap.size w w' := by
  by_cases ho : s.size % 2 = 1
  · exact narrow_odd s hs ho w
  · exact narrow_even s hs (by omega) w
theorem rnarrow_any (s : ByteArray) (hs : s.size ≤ 1000000) (w : World) :
    Calls Tryd.prog 15 #[.string s] w fun e w' => e = .returned (.tuple #[.string ⟨(narrowL (ls s)).toArray⟩, .int .i64 (narrowErr (ls s) : Int)]) ∧ Below w.heap.size w w' := by
  by_cases ho : s.size % 2 = 1
  · exact rnarrow_odd s hs ho w
  · exact rnarrow_even s hs (by omega) w

set_option maxHeartbeats 4000000 in
theorem turns_long (a b : ByteArray) (ha : a.size ≤ 140737488355328) (hb : b.size ≤ 140737488355328) (hl : 4000 < a.size ∨ 4000 < b.size) (w : World) (hT : Lib.Utf8Tabs 0 1 w) :
    Calls Tryd.prog 3 #[.string a, .string b] w fun e w' => e = .returned (.bool true) ∧ Below w.heap.size w w' := by
  have HT := Lib.hid hT
  clear hT
  by_cases h1 : 4000 < a.size
  · have d1 : decide (4000 < (a.size : Int)) = true := decide_eq_true (by omega)
    clear hl h1
    go_enter Tryd.func3, Tryd.ntmps3
    go_wp2_with fail
    refine (awake_any _ HT.out).mono ?_
    rintro e w1 ⟨rfl, hb1⟩
    go_wp2
    go_ret
    exact ⟨rfl, hb1⟩
  · have d1 : decide (4000 < (a.size : Int)) = false := decide_eq_false (by omega)
    have d2 : decide (4000 < (b.size : Int)) = true := decide_eq_true (by omega)
    clear hl h1
    go_enter Tryd.func3, Tryd.ntmps3
    go_wp2_with fail
    refine (awake_any _ HT.out).mono ?_
    rintro e w1 ⟨rfl, hb1⟩
    go_wp2
    go_ret
    exact ⟨rfl, hb1⟩

set_option maxRecDepth 100000 in
set_option maxHeartbeats 4000000 in
theorem turns_short (a b : ByteArray) (ha : a.size ≤ 4000) (hb : b.size ≤ 4000) (w : World) (hT : Lib.Utf8Tabs 0 1 w) :
    Calls Tryd.prog 3 #[.string a, .string b] w fun e w' => e = .returned (.bool true) ∧ Below w.heap.size w w' := by
  have HT := Lib.hid hT
  clear hT
  have d1 : decide (4000 < (a.size : Int)) = false := decide_eq_false (by omega)
  have d2 : decide (4000 < (b.size : Int)) = false := decide_eq_false (by omega)
  have c1 := wide_any a (by omega)
  have c2 := rwide_any a (by omega)
  have c3 := narrow_any b (by omega)
  have c4 := rnarrow_any b (by omega)
  obtain ⟨X, hX⟩ : ∃ X : ByteArray, (⟨(wideL (ls a)).toArray⟩ : ByteArray) = X := ⟨_, rfl⟩
  obtain ⟨Y, hY⟩ : ∃ Y : ByteArray, (⟨(narrowL (ls b)).toArray⟩ : ByteArray) = Y := ⟨_, rfl⟩
  obtain ⟨p, hp⟩ : ∃ p, wideAt (ls a) = p := ⟨_, rfl⟩
  obtain ⟨q, hq⟩ : ∃ q, wideErr (ls a) = q := ⟨_, rfl⟩
  obtain ⟨r, hr⟩ : ∃ r, narrowErr (ls b) = r := ⟨_, rfl⟩
  rw [hX, hp, hq] at c1 c2
  rw [hY, hr] at c3 c4
  have hq10 : (q : Int) ≤ 10 := by
    have : q ≤ 10 := by
      rw [← hq]; unfold wideErr; split <;> omega
    omega
  have hr11 : (r : Int) ≤ 11 := by
    have : r ≤ 11 := by
      rw [← hr]; unfold narrowErr; split <;> omega
    omega
  clear hX hY hp hq hr ha hb
  go_enter Tryd.func3, Tryd.ntmps3
  go_wp2_with fail
  refine (awake_any _ HT.out).mono ?_
  rintro e w1 ⟨rfl, hb1⟩
  go_wp2_with fail
  refine (c1 _ (Utf8Tabs_below HT.out hb1)).mono ?_
  rintro e w2 ⟨rfl, hb2⟩
  have hc2 := below_next hb1 hb2
  clear hb1 hb2
  go_wp2_with fail
  refine (c2 _).mono ?_
  rintro e w3 ⟨rfl, hb3⟩
  have hc3 := below_next hc2 hb3
  clear hb3 hc2
  go_wp2_with fail
  refine (c3 _).mono ?_
  rintro e w4 ⟨rfl, hb4⟩
  have hc4 := below_next hc3 hb4
  clear hb4 hc3
  go_wp2_with fail
  refine (c4 _).mono ?_
  rintro e w5 ⟨rfl, hb5⟩
  have hc5 := below_next hc4 hb5
  clear hb5 hc4
  go_wp2
  go_ret
  exact ⟨rfl, hc5⟩

theorem law_turns (a b : ByteArray) (ha : a.size ≤ 140737488355328) (hb : b.size ≤ 140737488355328) (w : World) (hT : Lib.Utf8Tabs 0 1 w) :
    Calls Tryd.prog 3 #[.string a, .string b] w fun e w' => e = .returned (.bool true) ∧ Below w.heap.size w w' := by
  by_cases hl : 4000 < a.size ∨ 4000 < b.size
  · exact turns_long a b ha hb hl w hT
  · exact turns_short a b (by omega) (by omega) w hT
end Go.Proofs.YtalhpihoblhacaaDoor
