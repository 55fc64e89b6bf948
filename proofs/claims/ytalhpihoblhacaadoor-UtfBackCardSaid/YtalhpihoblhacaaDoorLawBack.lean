/- The walk of the law UtfBack: for every two texts it answers true. -/
import Derived.Test.YtalhpihoblhacaaDoorLawTurns
namespace Go.Proofs.YtalhpihoblhacaaDoor
open Go.RowKit Go.Shelf
set_option linter.unusedVariables false

theorem narrow_eq (s : ByteArray) (hs : s.size ≤ 1000000) (R : ByteArray) (er : Nat) (h : narrowL (ls s) = ls R ∧ narrowErr (ls s) = er) (w : World) :
    Calls Tryd.prog 14 #[.string s] w fun e w' => e = .returned (.tuple #[.string R, .int .i64 (er : Int)]) ∧ Below w.heap.size w w' := by
  have e : (⟨(narrowL (ls s)).toArray⟩ : ByteArray) = R := str_ext h.1
  rw [← e, ← h.2]
  exact narrow_any s hs w

/-- What is UTF-8 comes back. -/
theorem back_bytes {l : List UInt8} (h : full l) : narrowL (wideL l) = l ∧ narrowErr (wideL l) = 0 := by
  obtain ⟨e, hs⟩ := U.scan_full l h
  have hw := (wideL_full h).1
  have hev := w8_even (U.scan l).1
  rw [hw]
  unfold narrowL narrowErr
  rw [if_neg (by omega), if_neg (by omega), U.us_w8 _ hs, U.chars_units _ hs]
  exact ⟨e.symm, rfl⟩
theorem units_pos (c : Nat) : 1 ≤ (U.units c).length := by
  unfold U.units
  split <;> simp
theorem flat_len (cs : List Nat) : cs.length ≤ (cs.flatMap U.units).length := by
  induction cs with
  | nil => simp
  | cons c cs ih =>
    rw [List.flatMap_cons, List.length_append, List.length_cons]
    have := units_pos c
    omega
theorem n8_len (cs : List Nat) : (U.n8 cs).length ≤ 4 * cs.length := by
  induction cs with
  | nil => simp [U.n8]
  | cons c cs ih =>
    rw [U.n8_cons, List.length_append, List.length_cons]
    have := enc_len4 c
    omega
theorem w8_len (cs : List Nat) : (U.w8 cs).length = 2 * (cs.flatMap U.units).length := by
  induction cs with
  | nil => rfl
  | cons c cs ih =>
    rw [U.w8_cons, List.length_append, List.flatMap_cons, List.length_append, ih]
    have : ((U.units c).flatMap U.be).length = 2 * (U.units c).length := by
      unfold U.units
      split <;> simp [U.be]
    omega
/-- Units that were told as UTF-8 and turned back: as many; each the same, or FFFD for one of a pair. -/
theorem back_units {l : List UInt8} (h : l.length % 2 = 0) : full (narrowL l) ∧ narrowErr l = 0 ∧ (wideL (narrowL l)).length = l.length ∧ (narrowL l).length ≤ 2 * l.length ∧
    ∀ i, 2 * i + 1 < l.length → (U.unitAt l i = U.unitAt (wideL (narrowL l)) i ∨ (U.unitAt (wideL (narrowL l)) i = 65533 ∧ 55296 ≤ U.unitAt l i ∧ U.unitAt l i ≤ 57343)) := by
  have hn : narrowL l = U.n8 (U.chars (U.us l)) := if_neg (by omega)
  have he : narrowErr l = 0 := if_neg (by omega)
  obtain ⟨hs, hlike⟩ := U.chars_like _ (U.us l) (Nat.le_refl _) (U.us_lt _ l (Nat.le_refl _))
  have hsc := U.scan_n8 (U.chars (U.us l)) [] hs
  rw [List.append_nil, U.scan_nil, List.append_nil, Nat.add_zero] at hsc
  have hf : full (narrowL l) := by unfold full; rw [hn, hsc]
  have hw : wideL (narrowL l) = U.w8 (U.chars (U.us l)) := by rw [(wideL_full hf).1, hn, hsc]
  have hul := U.us_length _ l (Nat.le_refl _)
  have hlen := hlike.length
  have hwl : (wideL (narrowL l)).length = l.length := by rw [hw, w8_len, hlen, hul]; omega
  refine ⟨hf, he, hwl, ?_, fun i hi => ?_⟩
  · rw [hn]
    have h1 := n8_len (U.chars (U.us l))
    have h2 := flat_len (U.chars (U.us l))
    omega
  · have h1 := hlike.at i (by omega)
    have e1 := U.us_at i l hi
    have e2 := U.us_at i (wideL (narrowL l)) (by rw [hwl]; exact hi)
    rw [hw, U.us_w8 _ hs] at e2
    rw [e1, e2] at h1
    rw [hw]
    exact h1

set_option maxRecDepth 100000 in
set_option maxHeartbeats 4000000 in
theorem back_long (a b : ByteArray) (ha : a.size ≤ 140737488355328) (hb : b.size ≤ 140737488355328) (hl : 4000 < a.size ∨ 4000 < b.size) (w : World) (hT : Lib.Utf8Tabs 0 1 w) :
    Calls Tryd.prog 6 #[.string a, .string b] w fun e w' => e = .returned (.bool true) ∧ Below w.heap.size w w' := by
  have HT := Lib.hid hT
  clear hT
  by_cases h1 : 4000 < a.size
  · have d1 : decide (4000 < (a.size : Int)) = true := decide_eq_true (by omega)
    clear hl h1
    go_enter Tryd.func6, Tryd.ntmps6
    go_wp2_with fail
    refine (awake_any _ HT.out).mono ?_
    rintro e w1 ⟨rfl, hb1⟩
    go_wp2
    go_ret
    exact ⟨rfl, hb1⟩
  · have d1 : decide (4000 < (a.size : Int)) = false := decide_eq_false (by omega)
    have d2 : decide (4000 < (b.size : Int)) = true := decide_eq_true (by omega)
    clear hl h1
    go_enter Tryd.func6, Tryd.ntmps6
    go_wp2_with fail
    refine (awake_any _ HT.out).mono ?_
    rintro e w1 ⟨rfl, hb1⟩
    go_wp2
    go_ret
    exact ⟨rfl, hb1⟩

set_option maxRecDepth 100000 in
set_option maxHeartbeats 8000000 in
theorem back_fo (a b : ByteArray) (ha : a.size ≤ 4000) (hb : b.size ≤ 4000) (fa : full (ls a)) (ho : b.size % 2 = 1) (w : World) (hT : Lib.Utf8Tabs 0 1 w) :
    Calls Tryd.prog 6 #[.string a, .string b] w fun e w' => e = .returned (.bool true) ∧ Below w.heap.size w w' := by
  have HT := Lib.hid hT
  clear hT
  have d1 : decide (4000 < (a.size : Int)) = false := decide_eq_false (by omega)
  have d2 : decide (4000 < (b.size : Int)) = false := decide_eq_false (by omega)
  obtain ⟨X, hX⟩ := str_mk (wideL (ls a))
  have c1 := wide_eq a (by omega) X 0 0 ⟨hX.symm, (wideL_full fa).2.1, (wideL_full fa).2.2⟩
  have hbk := back_bytes fa
  have lX : X.size ≤ 8000 := by
    have h1 := w8_le (ls a) _ (Nat.le_refl _)
    have h2 := U.scan_le (ls a)
    rw [ls_length] at h2
    rw [← ls_length, hX, (wideL_full fa).1]
    omega
  have eX : X.size % 2 = 0 := by rw [← ls_length, hX, (wideL_full fa).1]; exact w8_even _
  have c2 := narrow_eq X (by omega) a 0 (by rw [hX]; exact hbk)
  have zX : (X.size : Int) % 2 = 0 := by omega
  have zX2 : (X.size : Int) ≤ 8000 := by omega
  clear hX fa hbk lX eX
  have c3 := narrow_eq b (by omega) ⟨#[]⟩ 11 ⟨if_pos (by rw [ls_length]; exact ho), if_pos (by rw [ls_length]; exact ho)⟩
  have zb : (b.size : Int) % 2 = 1 := by omega
  clear ho
  clear ha hb
  go_enter Tryd.func6, Tryd.ntmps6
  go_wp2_with fail
  refine (awake_any _ HT.out).mono ?_
  rintro e w1 ⟨rfl, hb1⟩
  go_wp2_with fail
  refine (c1 _ (Utf8Tabs_below HT.out hb1)).mono ?_
  rintro e w2 ⟨rfl, hb2⟩
  have hc2 := below_next hb1 hb2
  clear hb1 hb2
  go_wp2_with fail
  refine (c2 _).mono ?_
  rintro e w3 ⟨rfl, hb3⟩
  have hc3 := below_next hc2 hb3
  clear hb3 hc2
  go_wp2_with fail
  refine (c3 _).mono ?_
  rintro e w4 ⟨rfl, hb4⟩
  have hc4 := below_next hc3 hb4
  clear hb4 hc3
  go_wp2
  go_ret
  exact ⟨rfl, hc4⟩

set_option maxRecDepth 100000 in
set_option maxHeartbeats 8000000 in
theorem back_fe (a b : ByteArray) (ha : a.size ≤ 4000) (hb : b.size ≤ 4000) (fa : full (ls a)) (ho : b.size % 2 = 0) (w : World) (hT : Lib.Utf8Tabs 0 1 w) :
    Calls Tryd.prog 6 #[.string a, .string b] w fun e w' => e = .returned (.bool true) ∧ Below w.heap.size w w' := by
  have HT := Lib.hid hT
  clear hT
  have d1 : decide (4000 < (a.size : Int)) = false := decide_eq_false (by omega)
  have d2 : decide (4000 < (b.size : Int)) = false := decide_eq_false (by omega)
  obtain ⟨X, hX⟩ := str_mk (wideL (ls a))
  have c1 := wide_eq a (by omega) X 0 0 ⟨hX.symm, (wideL_full fa).2.1, (wideL_full fa).2.2⟩
  have hbk := back_bytes fa
  have lX : X.size ≤ 8000 := by
    have h1 := w8_le (ls a) _ (Nat.le_refl _)
    have h2 := U.scan_le (ls a)
    rw [ls_length] at h2
    rw [← ls_length, hX, (wideL_full fa).1]
    omega
  have eX : X.size % 2 = 0 := by rw [← ls_length, hX, (wideL_full fa).1]; exact w8_even _
  have c2 := narrow_eq X (by omega) a 0 (by rw [hX]; exact hbk)
  have zX : (X.size : Int) % 2 = 0 := by omega
  have zX2 : (X.size : Int) ≤ 8000 := by omega
  clear hX fa hbk lX eX
  have hbu := back_units (l := ls b) (by rw [ls_length]; exact ho)
  obtain ⟨Nn, hN⟩ := str_mk (narrowL (ls b))
  obtain ⟨Y, hY⟩ := str_mk (wideL (narrowL (ls b)))
  have c3 := narrow_eq b (by omega) Nn 0 ⟨hN.symm, hbu.2.1⟩
  have lN : Nn.size ≤ 8000 := by rw [← ls_length, hN]; have := hbu.2.2.2.1; rw [ls_length] at this; omega
  have c4 := wide_eq Nn (by omega) Y 0 0 ⟨by rw [hN, hY], by rw [hN]; exact (wideL_full hbu.1).2.1, by rw [hN]; exact (wideL_full hbu.1).2.2⟩
  have hYs : Y.size = b.size := by rw [← ls_length, hY, hbu.2.2.1, ls_length]
  obtain ⟨n, hn⟩ : ∃ n, b.size = 2 * n := ⟨b.size / 2, by omega⟩
  have k1 := length_eq Y (by omega) (n : Int) (by omega)
  have k2 := length_eq b (by omega) (n : Int) (by omega)
  have HL : Hid (∀ i, i < n → (U.unitAt (ls b) i = U.unitAt (ls Y) i ∨ (U.unitAt (ls Y) i = 65533 ∧ 55296 ≤ U.unitAt (ls b) i ∧ U.unitAt (ls b) i ≤ 57343))) := fun i hi => by
    rw [hY]
    exact hbu.2.2.2.2 i (by rw [ls_length]; omega)
  have HA : Hid (∀ i (w : World), i < n → Calls Tryd.prog 16 #[.string b, .int .i64 (i : Int)] w fun e w' => e = .returned (.tuple #[.int .i64 (U.unitAt (ls b) i : Nat), .bool true]) ∧ ∃ n, w' = w.drewN n) := fun i w hi => at_in b (by omega) i (by omega) w
  have HC : Hid (∀ i (w : World), i < n → Calls Tryd.prog 16 #[.string Y, .int .i64 (i : Int)] w fun e w' => e = .returned (.tuple #[.int .i64 (U.unitAt (ls Y) i : Nat), .bool true]) ∧ ∃ n, w' = w.drewN n) := fun i w hi => at_in Y (by omega) i (by omega) w
  have zn : (n : Int) ≤ 2000 := by omega
  clear hbu hN hY lN hYs hn ho
  clear ha hb
  go_enter Tryd.func6, Tryd.ntmps6
  go_wp2_with fail
  refine (awake_any _ HT.out).mono ?_
  rintro e w1 ⟨rfl, hb1⟩
  go_wp2_with fail
  refine (c1 _ (Utf8Tabs_below HT.out hb1)).mono ?_
  rintro e w2 ⟨rfl, hb2⟩
  have hc2 := below_next hb1 hb2
  clear hb1 hb2
  go_wp2_with fail
  refine (c2 _).mono ?_
  rintro e w3 ⟨rfl, hb3⟩
  have hc3 := below_next hc2 hb3
  clear hb3 hc2
  go_wp2_with fail
  refine (c3 _).mono ?_
  rintro e w4 ⟨rfl, hb4⟩
  have hc4 := below_next hc3 hb4
  clear hb4 hc3
  go_wp2_with fail
  refine (c4 _ (Utf8Tabs_below HT.out hc4)).mono ?_
  rintro e w5 ⟨rfl, hb5⟩
  have hc5 := below_next hc4 hb5
  clear hb5 hc4
  go_wp2_with fail
  refine (k1 _).mono ?_
  rintro e w6 ⟨rfl, rfl⟩
  go_wp2_with fail
  refine (k2 _).mono ?_
  rintro e w6 ⟨rfl, rfl⟩
  go_wp2_with fail
  go_loopw [18] (fun iv wr => ∃ k : Nat, k ≤ n ∧ iv = .int .i64 (k : Int) ∧ Below w.heap.size w wr) (fun iv wr => n - (intOf iv).toNat)
  case atStart => exact ⟨0, Nat.zero_le _, rfl, hc5⟩
  case round =>
    obtain ⟨k, hk, rfl, hbel⟩ := hrel
    by_cases hkn : k < n
    · have hkz : (k : Int) < (n : Int) := by omega
      have ca := fun w => HA.out k w hkn
      have cc := fun w => HC.out k w hkn
      have hlike := HL.out k hkn
      obtain ⟨u, hu⟩ : ∃ u, U.unitAt (ls b) k = u := ⟨_, rfl⟩
      obtain ⟨v, hv⟩ : ∃ v, U.unitAt (ls Y) k = v := ⟨_, rfl⟩
      rw [hu, hv] at hlike
      have hu6 : (u : Int) < 65536 := by have := U.unitAt_lt (ls b) k; omega
      rw [hu] at ca
      rw [hv] at cc
      clear hu hv
      rcases hlike with hlike | ⟨h1, h2, h3⟩
      · subst hlike
        go_wp2_with fail
        refine (k2 _).mono ?_
        rintro e w6 ⟨rfl, rfl⟩
        go_wp2_with fail
        refine (ca _).mono ?_
        rintro e w6 ⟨rfl, n1, rfl⟩
        go_wp2_with fail
        refine (cc _).mono ?_
        rintro e w6 ⟨rfl, n2, rfl⟩
        go_wp2
        go_roundw
        case rel => exact ⟨k + 1, by omega, by go_num, by first | exact below_drewN hbel _ | exact below_drewN (below_drewN hbel _) _⟩
        case measure => simp [intOf]; omega
      · have t1 : decide ((u : Int) < 55296) = false := decide_eq_false (by omega)
        have t2 : decide (57343 < (u : Int)) = false := decide_eq_false (by omega)
        have t3 : ((u : Int) != 65533) = true := by simp; omega
        have cc2 : ∀ w : World, Calls Tryd.prog 16 #[.string Y, .int .i64 (k : Int)] w fun e w' => e = .returned (.tuple #[.int .i64 65533, .bool true]) ∧ ∃ n, w' = w.drewN n := by
          intro w
          have := cc w
          rw [h1] at this
          exact this
        clear h1 h2 h3 cc
        go_wp2_with fail
        refine (k2 _).mono ?_
        rintro e w6 ⟨rfl, rfl⟩
        go_wp2_with fail
        refine (ca _).mono ?_
        rintro e w6 ⟨rfl, n1, rfl⟩
        go_wp2_with fail
        refine (cc2 _).mono ?_
        rintro e w6 ⟨rfl, n2, rfl⟩
        go_wp2
        go_roundw
        case rel => exact ⟨k + 1, by omega, by go_num, by first | exact below_drewN hbel _ | exact below_drewN (below_drewN hbel _) _⟩
        case measure => simp [intOf]; omega
    · obtain rfl : k = n := by omega
      go_wp2_with fail
      refine (k2 _).mono ?_
      rintro e w6 ⟨rfl, rfl⟩
      go_wp2
      go_ret
      exact ⟨rfl, hbel⟩

set_option maxRecDepth 100000 in
set_option maxHeartbeats 8000000 in
theorem back_no (a b : ByteArray) (ha : a.size ≤ 4000) (hb : b.size ≤ 4000) (fa : ¬ full (ls a)) (ho : b.size % 2 = 1) (w : World) (hT : Lib.Utf8Tabs 0 1 w) :
    Calls Tryd.prog 6 #[.string a, .string b] w fun e w' => e = .returned (.bool true) ∧ Below w.heap.size w w' := by
  have HT := Lib.hid hT
  clear hT
  have d1 : decide (4000 < (a.size : Int)) = false := decide_eq_false (by omega)
  have d2 : decide (4000 < (b.size : Int)) = false := decide_eq_false (by omega)
  have c1 := wide_eq a (by omega) ⟨#[]⟩ (U.scan (ls a)).2 10 ⟨(wideL_not fa).1, (wideL_not fa).2.1, (wideL_not fa).2.2⟩
  have hst := U.scan_parts _ (ls a) (Nat.le_refl _)
  have hsl := U.scan_le (ls a)
  have hlt : (U.scan (ls a)).2 < a.size := by
    unfold full at fa
    rw [ls_length] at fa hsl
    omega
  obtain ⟨c, hc⟩ : ∃ c, U.dec ((ls a).drop (U.scan (ls a)).2) = (c, 0) := ⟨(U.dec ((ls a).drop (U.scan (ls a)).2)).1, by apply Prod.ext; rfl; exact hst.2.2.2⟩
  have c2 := fun w hT => next_no a (by omega) ((U.scan (ls a)).2 : Int) c (by rw [nextAt_in a _ hlt]; exact hc) w hT
  obtain ⟨p, hp⟩ : ∃ p, (U.scan (ls a)).2 = p := ⟨_, rfl⟩
  rw [hp] at c1 c2 hlt
  have zp : (p : Int) ≤ 4000 := by omega
  clear hc hst hsl fa hlt hp
  have c3 := narrow_eq b (by omega) ⟨#[]⟩ 11 ⟨if_pos (by rw [ls_length]; exact ho), if_pos (by rw [ls_length]; exact ho)⟩
  have zb : (b.size : Int) % 2 = 1 := by omega
  clear ho
  clear ha hb
  go_enter Tryd.func6, Tryd.ntmps6
  go_wp2_with fail
  refine (awake_any _ HT.out).mono ?_
  rintro e w1 ⟨rfl, hb1⟩
  go_wp2_with fail
  refine (c1 _ (Utf8Tabs_below HT.out hb1)).mono ?_
  rintro e w2 ⟨rfl, hb2⟩
  have hc2 := below_next hb1 hb2
  clear hb1 hb2
  go_wp2_with fail
  refine (c2 _ (Utf8Tabs_below HT.out hc2)).mono ?_
  rintro e w3 ⟨rfl, hb3⟩
  have hc3 := below_next hc2 hb3
  clear hb3 hc2
  go_wp2_with fail
  refine (c3 _).mono ?_
  rintro e w4 ⟨rfl, hb4⟩
  have hc4 := below_next hc3 hb4
  clear hb4 hc3
  go_wp2
  go_ret
  exact ⟨rfl, hc4⟩

set_option maxRecDepth 100000 in
set_option maxHeartbeats 8000000 in
theorem back_ne (a b : ByteArray) (ha : a.size ≤ 4000) (hb : b.size ≤ 4000) (fa : ¬ full (ls a)) (ho : b.size % 2 = 0) (w : World) (hT : Lib.Utf8Tabs 0 1 w) :
    Calls Tryd.prog 6 #[.string a, .string b] w fun e w' => e = .returned (.bool true) ∧ Below w.heap.size w w' := by
  have HT := Lib.hid hT
  clear hT
  have d1 : decide (4000 < (a.size : Int)) = false := decide_eq_false (by omega)
  have d2 : decide (4000 < (b.size : Int)) = false := decide_eq_false (by omega)
  have c1 := wide_eq a (by omega) ⟨#[]⟩ (U.scan (ls a)).2 10 ⟨(wideL_not fa).1, (wideL_not fa).2.1, (wideL_not fa).2.2⟩
  have hst := U.scan_parts _ (ls a) (Nat.le_refl _)
  have hsl := U.scan_le (ls a)
  have hlt : (U.scan (ls a)).2 < a.size := by
    unfold full at fa
    rw [ls_length] at fa hsl
    omega
  obtain ⟨c, hc⟩ : ∃ c, U.dec ((ls a).drop (U.scan (ls a)).2) = (c, 0) := ⟨(U.dec ((ls a).drop (U.scan (ls a)).2)).1, by apply Prod.ext; rfl; exact hst.2.2.2⟩
  have c2 := fun w hT => next_no a (by omega) ((U.scan (ls a)).2 : Int) c (by rw [nextAt_in a _ hlt]; exact hc) w hT
  obtain ⟨p, hp⟩ : ∃ p, (U.scan (ls a)).2 = p := ⟨_, rfl⟩
  rw [hp] at c1 c2 hlt
  have zp : (p : Int) ≤ 4000 := by omega
  clear hc hst hsl fa hlt hp
  have hbu := back_units (l := ls b) (by rw [ls_length]; exact ho)
  obtain ⟨Nn, hN⟩ := str_mk (narrowL (ls b))
  obtain ⟨Y, hY⟩ := str_mk (wideL (narrowL (ls b)))
  have c3 := narrow_eq b (by omega) Nn 0 ⟨hN.symm, hbu.2.1⟩
  have lN : Nn.size ≤ 8000 := by rw [← ls_length, hN]; have := hbu.2.2.2.1; rw [ls_length] at this; omega
  have c4 := wide_eq Nn (by omega) Y 0 0 ⟨by rw [hN, hY], by rw [hN]; exact (wideL_full hbu.1).2.1, by rw [hN]; exact (wideL_full hbu.1).2.2⟩
  have hYs : Y.size = b.size := by rw [← ls_length, hY, hbu.2.2.1, ls_length]
  obtain ⟨n, hn⟩ : ∃ n, b.size = 2 * n := ⟨b.size / 2, by omega⟩
  have k1 := length_eq Y (by omega) (n : Int) (by omega)
  have k2 := length_eq b (by omega) (n : Int) (by omega)
  have HL : Hid (∀ i, i < n → (U.unitAt (ls b) i = U.unitAt (ls Y) i ∨ (U.unitAt (ls Y) i = 65533 ∧ 55296 ≤ U.unitAt (ls b) i ∧ U.unitAt (ls b) i ≤ 57343))) := fun i hi => by
    rw [hY]
    exact hbu.2.2.2.2 i (by rw [ls_length]; omega)
  have HA : Hid (∀ i (w : World), i < n → Calls Tryd.prog 16 #[.string b, .int .i64 (i : Int)] w fun e w' => e = .returned (.tuple #[.int .i64 (U.unitAt (ls b) i : Nat), .bool true]) ∧ ∃ n, w' = w.drewN n) := fun i w hi => at_in b (by omega) i (by omega) w
  have HC : Hid (∀ i (w : World), i < n → Calls Tryd.prog 16 #[.string Y, .int .i64 (i : Int)] w fun e w' => e = .returned (.tuple #[.int .i64 (U.unitAt (ls Y) i : Nat), .bool true]) ∧ ∃ n, w' = w.drewN n) := fun i w hi => at_in Y (by omega) i (by omega) w
  have zn : (n : Int) ≤ 2000 := by omega
  clear hbu hN hY lN hYs hn ho
  clear ha hb
  go_enter Tryd.func6, Tryd.ntmps6
  go_wp2_with fail
  refine (awake_any _ HT.out).mono ?_
  rintro e w1 ⟨rfl, hb1⟩
  go_wp2_with fail
  refine (c1 _ (Utf8Tabs_below HT.out hb1)).mono ?_
  rintro e w2 ⟨rfl, hb2⟩
  have hc2 := below_next hb1 hb2
  clear hb1 hb2
  go_wp2_with fail
  refine (c2 _ (Utf8Tabs_below HT.out hc2)).mono ?_
  rintro e w3 ⟨rfl, hb3⟩
  have hc3 := below_next hc2 hb3
  clear hb3 hc2
  go_wp2_with fail
  refine (c3 _).mono ?_
  rintro e w4 ⟨rfl, hb4⟩
  have hc4 := below_next hc3 hb4
  clear hb4 hc3
  go_wp2_with fail
  refine (c4 _ (Utf8Tabs_below HT.out hc4)).mono ?_
  rintro e w5 ⟨rfl, hb5⟩
  have hc5 := below_next hc4 hb5
  clear hb5 hc4
  go_wp2_with fail
  refine (k1 _).mono ?_
  rintro e w6 ⟨rfl, rfl⟩
  go_wp2_with fail
  refine (k2 _).mono ?_
  rintro e w6 ⟨rfl, rfl⟩
  go_wp2_with fail
  go_loopw [18] (fun iv wr => ∃ k : Nat, k ≤ n ∧ iv = .int .i64 (k : Int) ∧ Below w.heap.size w wr) (fun iv wr => n - (intOf iv).toNat)
  case atStart => exact ⟨0, Nat.zero_le _, rfl, hc5⟩
  case round =>
    obtain ⟨k, hk, rfl, hbel⟩ := hrel
    by_cases hkn : k < n
    · have hkz : (k : Int) < (n : Int) := by omega
      have ca := fun w => HA.out k w hkn
      have cc := fun w => HC.out k w hkn
      have hlike := HL.out k hkn
      obtain ⟨u, hu⟩ : ∃ u, U.unitAt (ls b) k = u := ⟨_, rfl⟩
      obtain ⟨v, hv⟩ : ∃ v, U.unitAt (ls Y) k = v := ⟨_, rfl⟩
      rw [hu, hv] at hlike
      have hu6 : (u : Int) < 65536 := by have := U.unitAt_lt (ls b) k; omega
      rw [hu] at ca
      rw [hv] at cc
      clear hu hv
      rcases hlike with hlike | ⟨h1, h2, h3⟩
      · subst hlike
        go_wp2_with fail
        refine (k2 _).mono ?_
        rintro e w6 ⟨rfl, rfl⟩
        go_wp2_with fail
        refine (ca _).mono ?_
        rintro e w6 ⟨rfl, n1, rfl⟩
        go_wp2_with fail
        refine (cc _).mono ?_
        rintro e w6 ⟨rfl, n2, rfl⟩
        go_wp2
        go_roundw
        case rel => exact ⟨k + 1, by omega, by go_num, by first | exact below_drewN hbel _ | exact below_drewN (below_drewN hbel _) _⟩
        case measure => simp [intOf]; omega
      · have t1 : decide ((u : Int) < 55296) = false := decide_eq_false (by omega)
        have t2 : decide (57343 < (u : Int)) = false := decide_eq_false (by omega)
        have t3 : ((u : Int) != 65533) = true := by simp; omega
        have cc2 : ∀ w : World, Calls Tryd.prog 16 #[.string Y, .int .i64 (k : Int)] w fun e w' => e = .returned (.tuple #[.int .i64 65533, .bool true]) ∧ ∃ n, w' = w.drewN n := by
          intro w
          have := cc w
          rw [h1] at this
          exact this
        clear h1 h2 h3 cc
        go_wp2_with fail
        refine (k2 _).mono ?_
        rintro e w6 ⟨rfl, rfl⟩
        go_wp2_with fail
        refine (ca _).mono ?_
        rintro e w6 ⟨rfl, n1, rfl⟩
        go_wp2_with fail
        refine (cc2 _).mono ?_
        rintro e w6 ⟨rfl, n2, rfl⟩
        go_wp2
        go_roundw
        case rel => exact ⟨k + 1, by omega, by go_num, by first | exact below_drewN hbel _ | exact below_drewN (below_drewN hbel _) _⟩
        case measure => simp [intOf]; omega
    · obtain rfl : k = n := by omega
      go_wp2_with fail
      refine (k2 _).mono ?_
      rintro e w6 ⟨rfl, rfl⟩
      go_wp2
      go_ret
      exact ⟨rfl, hbel⟩

theorem law_back (a b : ByteArray) (ha : a.size ≤ 140737488355328) (hb : b.size ≤ 140737488355328) (w : World) (hT : Lib.Utf8Tabs 0 1 w) :
    Calls Tryd.prog 6 #[.string a, .string b] w fun e w' => e = .returned (.bool true) ∧ Below w.heap.size w w' := by
  by_cases hl : 4000 < a.size ∨ 4000 < b.size
  · exact back_long a b ha hb hl w hT
  · by_cases hf : full (ls a)
    · by_cases ho : b.size % 2 = 1
      · exact back_fo a b (by omega) (by omega) hf ho w hT
      · exact back_fe a b (by omega) (by omega) hf (by omega) w hT
    · by_cases ho : b.size % 2 = 1
      · exact back_no a b (by omega) (by omega) hf ho w hT
      · exact back_ne a b (by omega) (by omega) hf (by omega) w hT
end Go.Proofs.YtalhpihoblhacaaDoor
