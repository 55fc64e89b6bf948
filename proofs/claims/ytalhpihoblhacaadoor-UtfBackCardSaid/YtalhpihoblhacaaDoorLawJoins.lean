/- The walk of the law UtfJoins: for every two texts it answers true. -/
import Derived.Test.YtalhpihoblhacaaDoorAwake
namespace Go.Proofs.YtalhpihoblhacaaDoor
open Go.RowKit Go.Shelf
set_option linter.unusedVariables false

theorem w8_even (cs : List Nat) : (U.w8 cs).length % 2 = 0 := by
  induction cs with
  | nil => rfl
  | cons c cs ih =>
    rw [U.w8_cons, List.length_append]
    have : ((U.units c).flatMap U.be).length % 2 = 0 := by
      unfold U.units
      split <;> simp [U.be]
    omega
theorem w8_le (l : List UInt8) : ∀ (n : Nat), l.length ≤ n → (U.w8 (U.scan l).1).length ≤ 2 * (U.scan l).2 := by
  intro n
  induction n generalizing l with
  | zero =>
    intro h
    obtain rfl : l = [] := List.eq_nil_of_length_eq_zero (by omega)
    simp [U.scan_nil, U.w8]
  | succ n ih =>
    intro h
    by_cases hd : (U.dec l).2 = 0
    · rw [U.scan_stop l hd]; simp [U.w8]
    · have hl := U.dec_le l
      have hi := ih (l.drop (U.dec l).2) (by rw [List.length_drop]; omega)
      obtain ⟨c, k, hk⟩ : ∃ c k, U.dec l = (c, k + 1) := ⟨(U.dec l).1, (U.dec l).2 - 1, by apply Prod.ext <;> simp only <;> omega⟩
      rw [U.scan_step l hd, hk]
      rw [hk] at hi
      simp only [U.w8_cons, List.length_append] at hi ⊢
      have := units_len l c k hk
      omega
theorem wideL_full {l : List UInt8} (h : full l) : wideL l = U.w8 (U.scan l).1 ∧ wideAt l = 0 ∧ wideErr l = 0 := ⟨if_pos h, if_pos h, if_pos h⟩
theorem wideL_not {l : List UInt8} (h : ¬ full l) : wideL l = [] ∧ wideAt l = (U.scan l).2 ∧ wideErr l = 10 := ⟨if_neg h, if_neg h, if_neg h⟩
theorem scan_join {a b : List UInt8} (ha : full a) (hb : full b) : full (a ++ b) ∧ (U.scan (a ++ b)).1 = (U.scan a).1 ++ (U.scan b).1 := by
  obtain ⟨e, hs⟩ := U.scan_full a ha
  have h := U.scan_n8 (U.scan a).1 b hs
  rw [← e] at h
  constructor
  · unfold full at *
    rw [h, hb, List.length_append]
  · rw [h]

theorem wide_eq (s : ByteArray) (hs : s.size ≤ 1000000) (R : ByteArray) (at_ er : Nat) (h : wideL (ls s) = ls R ∧ wideAt (ls s) = at_ ∧ wideErr (ls s) = er) (w : World) (hT : Lib.Utf8Tabs 0 1 w) :
    Calls Tryd.prog 12 #[.string s] w fun e w' => e = .returned (.tuple #[.string R, .int .i64 (at_ : Int), .int .i64 (er : Int)]) ∧ Below w.heap.size w w' := by
  have e : (⟨(wideL (ls s)).toArray⟩ : ByteArray) = R := str_ext h.1
  rw [← e, ← h.2.1, ← h.2.2]
  exact wide_any s hs w hT

/-- One step of 'what stood below stands'. -/
theorem below_next {w a b : World} (h : Below w.heap.size w a) (k : Below a.heap.size a b) : Below w.heap.size w b := h.trans (k.mono h.size)

set_option maxHeartbeats 4000000 in
theorem joins_long (a b : ByteArray) (ha : a.size ≤ 140737488355328) (hb : b.size ≤ 140737488355328) (hl : 4000 < a.size ∨ 4000 < b.size) (w : World) (hT : Lib.Utf8Tabs 0 1 w) :
    Calls Tryd.prog 7 #[.string a, .string b] w fun e w' => e = .returned (.bool true) ∧ Below w.heap.size w w' := by
  have HT := Lib.hid hT
  clear hT
  by_cases h1 : 4000 < a.size
  · have d1 : decide (4000 < (a.size : Int)) = true := decide_eq_true (by omega)
    clear hl h1
    go_enter Tryd.func7, Tryd.ntmps7
    go_wp2_with fail
    refine (awake_any _ HT.out).mono ?_
    rintro e w1 ⟨rfl, hb1⟩
    go_wp2
    go_ret
    exact ⟨rfl, hb1⟩
  · have d1 : decide (4000 < (a.size : Int)) = false := decide_eq_false (by omega)
    have d2 : decide (4000 < (b.size : Int)) = true := decide_eq_true (by omega)
    clear hl h1
    go_enter Tryd.func7, Tryd.ntmps7
    go_wp2_with fail
    refine (awake_any _ HT.out).mono ?_
    rintro e w1 ⟨rfl, hb1⟩
    go_wp2
    go_ret
    exact ⟨rfl, hb1⟩

set_option maxHeartbeats 4000000 in
theorem joins_bad (a b : ByteArray) (ha : a.size ≤ 4000) (hb : b.size ≤ 4000) (hbad : ¬ (full (ls a) ∧ full (ls b))) (w : World) (hT : Lib.Utf8Tabs 0 1 w) :
    Calls Tryd.prog 7 #[.string a, .string b] w fun e w' => e = .returned (.bool true) ∧ Below w.heap.size w w' := by
  have HT := Lib.hid hT
  clear hT
  have d1 : decide (4000 < (a.size : Int)) = false := decide_eq_false (by omega)
  have d2 : decide (4000 < (b.size : Int)) = false := decide_eq_false (by omega)
  by_cases fa : full (ls a)
  · have fb : ¬ full (ls b) := fun h => hbad ⟨fa, h⟩
    obtain ⟨X, hX⟩ := str_mk (wideL (ls a))
    have c1 := wide_eq a (by omega) X 0 0 ⟨hX.symm, (wideL_full fa).2.1, (wideL_full fa).2.2⟩
    have c2 := wide_eq b (by omega) ⟨#[]⟩ (U.scan (ls b)).2 10 ⟨(wideL_not fb).1, (wideL_not fb).2.1, (wideL_not fb).2.2⟩
    clear hX hbad ha hb fa fb
    obtain ⟨p, hp⟩ : ∃ p, (U.scan (ls b)).2 = p := ⟨_, rfl⟩
    rw [hp] at c2
    clear hp
    go_enter Tryd.func7, Tryd.ntmps7
    go_wp2_with fail
    refine (awake_any _ HT.out).mono ?_
    rintro e w1 ⟨rfl, hb1⟩
    go_wp2_with fail
    refine (c1 _ (Utf8Tabs_below HT.out hb1)).mono ?_
    rintro e w2 ⟨rfl, hb2⟩
    have hc2 := below_next hb1 hb2
    clear hb1 hb2
    go_wp2_with fail
    refine (c2 _ (Utf8Tabs_below HT.out hc2)).mono ?_
    rintro e w3 ⟨rfl, hb3⟩
    have hc3 := below_next hc2 hb3
    clear hb3 hc2
    go_wp2
    all_goals go_ret
    all_goals exact ⟨rfl, hc3⟩
  · have c1 := wide_eq a (by omega) ⟨#[]⟩ (U.scan (ls a)).2 10 ⟨(wideL_not fa).1, (wideL_not fa).2.1, (wideL_not fa).2.2⟩
    obtain ⟨X, hX⟩ := str_mk (wideL (ls b))
    have c2 := wide_eq b (by omega) X (wideAt (ls b)) (wideErr (ls b)) ⟨hX.symm, rfl, rfl⟩
    obtain ⟨p, hp⟩ : ∃ p, (U.scan (ls a)).2 = p := ⟨_, rfl⟩
    obtain ⟨q, hq⟩ : ∃ q, wideAt (ls b) = q := ⟨_, rfl⟩
    obtain ⟨r, hr⟩ : ∃ r, wideErr (ls b) = r := ⟨_, rfl⟩
    rw [hp] at c1
    rw [hq, hr] at c2
    clear hp hq hr hX hbad ha hb fa
    go_enter Tryd.func7, Tryd.ntmps7
    go_wp2_with fail
    refine (awake_any _ HT.out).mono ?_
    rintro e w1 ⟨rfl, hb1⟩
    go_wp2_with fail
    refine (c1 _ (Utf8Tabs_below HT.out hb1)).mono ?_
    rintro e w2 ⟨rfl, hb2⟩
    have hc2 := below_next hb1 hb2
    clear hb1 hb2
    go_wp2_with fail
    refine (c2 _ (Utf8Tabs_below HT.out hc2)).mono ?_
    rintro e w3 ⟨rfl, hb3⟩
    have hc3 := below_next hc2 hb3
    clear hb3 hc2
    go_wp2
    all_goals go_ret
    all_goals exact ⟨rfl, hc3⟩

set_option maxRecDepth 100000 in
set_option maxHeartbeats 4000000 in
theorem joins_good (a b : ByteArray) (ha : a.size ≤ 4000) (hb : b.size ≤ 4000) (fa : full (ls a)) (fb : full (ls b)) (w : World) (hT : Lib.Utf8Tabs 0 1 w) :
    Calls Tryd.prog 7 #[.string a, .string b] w fun e w' => e = .returned (.bool true) ∧ Below w.heap.size w w' := by
  have HT := Lib.hid hT
  clear hT
  have d1 : decide (4000 < (a.size : Int)) = false := decide_eq_false (by omega)
  have d2 : decide (4000 < (b.size : Int)) = false := decide_eq_false (by omega)
  obtain ⟨X, hX⟩ := str_mk (wideL (ls a))
  obtain ⟨Y, hY⟩ := str_mk (wideL (ls b))
  have c1 := wide_eq a (by omega) X 0 0 ⟨hX.symm, (wideL_full fa).2.1, (wideL_full fa).2.2⟩
  have c2 := wide_eq b (by omega) Y 0 0 ⟨hY.symm, (wideL_full fb).2.1, (wideL_full fb).2.2⟩
  have hj := scan_join fa fb
  have hab : ls (a ++ b) = ls a ++ ls b := ls_append a b
  have hsum : a.size + b.size = (a ++ b).size := by rw [← ls_length a, ← ls_length b, ← ls_length, hab, List.length_append]
  have hXY : wideL (ls (a ++ b)) = ls (X ++ Y) := by
    rw [hab, (wideL_full hj.1).1, hj.2, U.w8_append, ls_append, hX, hY, (wideL_full fa).1, (wideL_full fb).1]
  have c3 := wide_eq (a ++ b) (by omega) (X ++ Y) 0 0 ⟨hXY, by rw [hab]; exact (wideL_full hj.1).2.1, by rw [hab]; exact (wideL_full hj.1).2.2⟩
  have eX : X.size % 2 = 0 := by rw [← ls_length, hX, (wideL_full fa).1]; exact w8_even _
  have eY : Y.size % 2 = 0 := by rw [← ls_length, hY, (wideL_full fb).1]; exact w8_even _
  have lX : X.size ≤ 8000 := by
    have h1 := w8_le (ls a) _ (Nat.le_refl _)
    have h2 := U.scan_le (ls a)
    rw [ls_length] at h2
    rw [← ls_length, hX, (wideL_full fa).1]
    omega
  have lY : Y.size ≤ 8000 := by
    have h1 := w8_le (ls b) _ (Nat.le_refl _)
    have h2 := U.scan_le (ls b)
    rw [ls_length] at h2
    rw [← ls_length, hY, (wideL_full fb).1]
    omega
  obtain ⟨n, hn⟩ : ∃ n, X.size = 2 * n := ⟨X.size / 2, by omega⟩
  obtain ⟨m, hm⟩ : ∃ m, Y.size = 2 * m := ⟨Y.size / 2, by omega⟩
  obtain ⟨Z, hZ⟩ : ∃ Z, X ++ Y = Z := ⟨_, rfl⟩
  have hZl : ls Z = ls X ++ ls Y := by rw [← hZ]; exact ls_append X Y
  have hZs : Z.size = 2 * n + 2 * m := by rw [← ls_length, hZl, List.length_append, ls_length, ls_length, hn, hm]
  have k1 := length_eq X (by omega) (n : Int) (by omega)
  have k2 := length_eq Y (by omega) (m : Int) (by omega)
  have k3 := length_eq Z (by omega) ((n : Int) + (m : Int)) (by omega)
  have k4 := cut_eq Z (by omega) 0 (n : Int) X (by
    unfold cutL clampN
    rw [ls_length, hZs, show (2 * n + 2 * m) / 2 = n + m by omega, hZl]
    simp only [Int.toNat_zero, Int.toNat_natCast, Nat.zero_min, Nat.mul_zero, List.drop_zero, Nat.sub_zero, Nat.min_eq_left (Nat.le_add_right n m)]
    rw [List.take_append_of_le_length (by rw [ls_length]; omega), List.take_of_length_le (by rw [ls_length]; omega)])
  have k5 := cut_eq Z (by omega) (n : Int) (Z.size : Int) Y (by
    unfold cutL clampN
    rw [ls_length, hZs, show (2 * n + 2 * m) / 2 = n + m by omega, hZl]
    have e1 : min (n : Int).toNat (n + m) = n := by omega
    have e2 : min (((2 * n + 2 * m : Nat) : Int)).toNat (n + m) = n + m := by omega
    rw [e1, e2, List.drop_append_of_le_length (by rw [ls_length]; omega), List.drop_eq_nil_of_le (by rw [ls_length]; omega), List.nil_append]
    exact List.take_of_length_le (by rw [ls_length]; omega))
  rw [hZ] at c3
  have HZ := Lib.hid hZ
  have hs1 : ¬ (a.size + b.size > 9223372036854775807) := by omega
  have hs2 : ¬ (X.size + Y.size > 9223372036854775807) := by omega
  have lm : (m : Int) ≤ 4000 := by omega
  have ln : (n : Int) ≤ 4000 := by omega
  clear hX hY hj hab hsum hXY eX eY lX lY hn hm hZl hZs fa fb ha hb
  go_enter Tryd.func7, Tryd.ntmps7
  go_wp2_with fail
  refine (awake_any _ HT.out).mono ?_
  rintro e w1 ⟨rfl, hb1⟩
  go_wp2_with fail
  refine (c1 _ (Utf8Tabs_below HT.out hb1)).mono ?_
  rintro e w2 ⟨rfl, hb2⟩
  have hc2 := below_next hb1 hb2
  clear hb1 hb2
  go_wp2_with fail
  refine (c2 _ (Utf8Tabs_below HT.out hc2)).mono ?_
  rintro e w3 ⟨rfl, hb3⟩
  have hc3 := below_next hc2 hb3
  clear hb3 hc2
  go_wp2_with fail
  refine (c3 _ (Utf8Tabs_below HT.out hc3)).mono ?_
  rintro e w4 ⟨rfl, hb4⟩
  have hc4 := below_next hc3 hb4
  clear hb4 hc3
  go_wp2_with fail
  refine (k1 _).mono ?_
  rintro e w5 ⟨rfl, rfl⟩
  go_wp2_with fail
  refine (k3 _).mono ?_
  rintro e w5 ⟨rfl, rfl⟩
  go_wp2_with fail
  refine (k2 _).mono ?_
  rintro e w5 ⟨rfl, rfl⟩
  go_wp2_with fail
  refine (k4 _).mono ?_
  rintro e w5 ⟨rfl, rfl⟩
  go_wp2_with fail
  refine (k5 _).mono ?_
  rintro e w5 ⟨rfl, rfl⟩
  go_wp2
  go_ret
  exact ⟨rfl, hc4⟩

theorem law_joins (a b : ByteArray) (ha : a.size ≤ 140737488355328) (hb : b.size ≤ 140737488355328) (w : World) (hT : Lib.Utf8Tabs 0 1 w) :
    Calls Tryd.prog 7 #[.string a, .string b] w fun e w' => e = .returned (.bool true) ∧ Below w.heap.size w w' := by
  by_cases hl : 4000 < a.size ∨ 4000 < b.size
  · exact joins_long a b ha hb hl w hT
  · by_cases hf : full (ls a) ∧ full (ls b)
    · exact joins_good a b (by omega) (by omega) hf.1 hf.2 w hT
    · exact joins_bad a b (by omega) (by omega) hf w hT
end Go.Proofs.YtalhpihoblhacaaDoor
