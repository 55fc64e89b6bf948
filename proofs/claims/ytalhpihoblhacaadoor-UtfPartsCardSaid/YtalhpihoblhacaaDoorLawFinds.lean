/- The walk of the law UtfFinds: for every two texts and number it answers true. -/
import Derived.Test.YtalhpihoblhacaaDoorFind
import Derived.Test.YtalhpihoblhacaaDoorAwake
namespace Go.Proofs.YtalhpihoblhacaaDoor
open Go.RowKit Go.Shelf
set_option linter.unusedVariables false

namespace U
theorem us_drop : ∀ (i : Nat) (l : List UInt8), us (l.drop (2 * i)) = (us l).drop i
  | 0, l => by simp
  | i + 1, [] => by simp [us]
  | i + 1, [a] => by
    rw [show 2 * (i + 1) = 2 * i + 1 + 1 by omega]
    simp [us]
  | i + 1, a :: b :: r => by
    rw [show 2 * (i + 1) = 2 * i + 1 + 1 by omega]
    simp only [List.drop_succ_cons, us]
    exact us_drop i r
theorem us_take : ∀ (i : Nat) (l : List UInt8), us (l.take (2 * i)) = (us l).take i
  | 0, l => by simp [us]
  | i + 1, [] => by simp [us]
  | i + 1, [a] => by
    rw [show 2 * (i + 1) = 2 * i + 1 + 1 by omega]
    simp [us]
  | i + 1, a :: b :: r => by
    rw [show 2 * (i + 1) = 2 * i + 1 + 1 by omega]
    simp only [List.take_succ_cons, us]
    rw [us_take i r]
theorem us_inj : ∀ (n : Nat) (l k : List UInt8), l.length ≤ n → l.length % 2 = 0 → l.length = k.length → us l = us k → l = k
  | _, [], [], _, _, _, _ => rfl
  | _, [], _ :: _, _, _, h, _ => by simp at h
  | _, [_], _, _, h, _, _ => by simp at h
  | _, _ :: _ :: _, [], _, _, h, _ => by simp at h
  | _, _ :: _ :: _, [_], _, _, h, _ => by simp at h
  | 0, _ :: _ :: _, _, h, _, _, _ => by simp at h
  | n + 1, a :: b :: r, c :: d :: t, h1, h2, h3, h4 => by
    simp only [us, List.cons.injEq] at h4
    have := us_inj n r t (by simp only [List.length_cons] at h1; omega) (by simp only [List.length_cons] at h2; omega) (by simpa using h3) h4.2
    have ha := a.toNat_lt; have hb := b.toNat_lt; have hc := c.toNat_lt; have hd := d.toNat_lt
    have e1 : a = c := UInt8.toNat_inj.1 (by omega)
    have e2 : b = d := UInt8.toNat_inj.1 (by omega)
    rw [this, e1, e2]
end U
theorem cutL_in (l : List UInt8) (i m : Nat) (h : i + m ≤ l.length / 2) : cutL l (i : Int) ((i : Int) + (m : Int)) = (l.drop (2 * i)).take (2 * m) := by
  unfold cutL clampN
  have e1 : min (i : Int).toNat (l.length / 2) = i := by omega
  have e2 : min ((i : Int) + (m : Int)).toNat (l.length / 2) = i + m := by omega
  rw [e1, e2, show 2 * (i + m) - 2 * i = 2 * m by omega]
theorem stands_iff (s p : List UInt8) (i m : Nat) (hp : p.length = 2 * m) (h : i + m ≤ s.length / 2) : U.StandsAt (U.us s) (U.us p) i ↔ cutL s (i : Int) ((i : Int) + (m : Int)) = p := by
  have hpl : (U.us p).length = m := by rw [U.us_length _ _ (Nat.le_refl _), hp]; omega
  have hsl : (U.us s).length = s.length / 2 := U.us_length _ _ (Nat.le_refl _)
  rw [cutL_in s i m h]
  unfold U.StandsAt
  rw [hpl, hsl, ← U.us_drop, ← U.us_take]
  constructor
  · rintro ⟨_, h2⟩
    exact U.us_inj _ _ _ (Nat.le_refl _) (by rw [List.length_take, List.length_drop]; omega) (by rw [List.length_take, List.length_drop, hp]; omega) h2
  · intro h2
    exact ⟨h, by rw [h2]⟩

set_option maxRecDepth 100000 in
set_option maxHeartbeats 4000000 in
theorem finds_early (s p : ByteArray) (hs : s.size ≤ 140737488355328) (hp : p.size ≤ 140737488355328) (z : Int) (hz0 : 0 ≤ z) (hz1 : z ≤ 255) (hl : 2000 < s.size ∨ 2000 < p.size ∨ s.size % 2 = 1 ∨ p.size % 2 = 1) (w : World) (hT : Lib.Utf8Tabs 0 1 w) :
    Calls Tryd.prog 8 #[.string s, .string p, .int .u8 z] w fun e w' => e = .returned (.bool true) ∧ Below w.heap.size w w' := by
  have HT := Lib.hid hT
  clear hT
  by_cases h1 : 2000 < s.size
  · have d1 : decide (2000 < (s.size : Int)) = true := decide_eq_true (by omega)
    clear hl h1
    go_enter Tryd.func8, Tryd.ntmps8
    go_wp2_with fail
    refine (awake_any _ HT.out).mono ?_
    rintro e w1 ⟨rfl, hb1⟩
    go_wp2
    go_ret
    exact ⟨rfl, hb1⟩
  · have d1 : decide (2000 < (s.size : Int)) = false := decide_eq_false (by omega)
    by_cases h2 : 2000 < p.size
    · have d2 : decide (2000 < (p.size : Int)) = true := decide_eq_true (by omega)
      clear hl h1 h2
      go_enter Tryd.func8, Tryd.ntmps8
      go_wp2_with fail
      refine (awake_any _ HT.out).mono ?_
      rintro e w1 ⟨rfl, hb1⟩
      go_wp2
      go_ret
      exact ⟨rfl, hb1⟩
    · have d2 : decide (2000 < (p.size : Int)) = false := decide_eq_false (by omega)
      by_cases h3 : s.size % 2 = 1
      · have d3 : (s.size : Int) % 2 = 1 := by omega
        clear hl h1 h2 h3
        go_enter Tryd.func8, Tryd.ntmps8
        go_wp2_with fail
        refine (awake_any _ HT.out).mono ?_
        rintro e w1 ⟨rfl, hb1⟩
        go_wp2
        go_ret
        exact ⟨rfl, hb1⟩
      · have d3 : (s.size : Int) % 2 = 0 := by omega
        have d4 : (p.size : Int) % 2 = 1 := by omega
        clear hl h1 h2 h3
        go_enter Tryd.func8, Tryd.ntmps8
        go_wp2_with fail
        refine (awake_any _ HT.out).mono ?_
        rintro e w1 ⟨rfl, hb1⟩
        go_wp2
        go_ret
        exact ⟨rfl, hb1⟩

set_option maxRecDepth 100000 in
set_option maxHeartbeats 8000000 in
theorem finds_none (s p : ByteArray) (hs : s.size ≤ 2000) (hp : p.size ≤ 2000) (es : s.size % 2 = 0) (ep : p.size % 2 = 0) (f : Nat) (hf : f ≤ 255) (hbef : ∀ i, f ≤ i → ¬ U.StandsAt (U.us (ls s)) (U.us (ls p)) i) (w : World) (hT : Lib.Utf8Tabs 0 1 w) :
    Calls Tryd.prog 8 #[.string s, .string p, .int .u8 (f : Int)] w fun e w' => e = .returned (.bool true) ∧ Below w.heap.size w w' := by
  have HT := Lib.hid hT
  clear hT
  have d1 : decide (2000 < (s.size : Int)) = false := decide_eq_false (by omega)
  have d2 : decide (2000 < (p.size : Int)) = false := decide_eq_false (by omega)
  have d3 : (s.size : Int) % 2 = 0 := by omega
  have d4 : (p.size : Int) % 2 = 0 := by omega
  obtain ⟨n, hn⟩ : ∃ n, s.size = 2 * n := ⟨s.size / 2, by omega⟩
  obtain ⟨m, hm⟩ : ∃ m, p.size = 2 * m := ⟨p.size / 2, by omega⟩
  have c1 := length_eq p (by omega) (m : Int) (by omega)
  have c2 := length_eq s (by omega) (n : Int) (by omega)
  have cf := find_any s p (by omega) (by omega) (f : Int) (by omega) (-1) (by simpa using .inl ⟨rfl, hbef⟩)
  have HSt : Hid (∀ i, i + m ≤ n → (U.StandsAt (U.us (ls s)) (U.us (ls p)) i ↔ cutL (ls s) (i : Int) ((i : Int) + (m : Int)) = ls p)) := fun i hi =>
    stands_iff (ls s) (ls p) i m (by rw [ls_length]; exact hm) (by rw [ls_length]; omega)
  have hn4 : (n : Int) ≤ 1000 := by omega
  have hm4 : (m : Int) ≤ 1000 := by omega
  have hf4 : (f : Int) ≤ 255 := by omega
  have HBef := Lib.hid hbef
  have hs4 : Hid (s.size ≤ 140737488355328) := by show _ ≤ _; omega
  clear hbef hn hm es ep hs hp
  go_enter Tryd.func8, Tryd.ntmps8
  go_wp2_with fail
  refine (awake_any _ HT.out).mono ?_
  rintro e w1 ⟨rfl, hb1⟩
  go_wp2_with fail
  refine (c1 _).mono ?_
  rintro e w2 ⟨rfl, rfl⟩
  go_wp2_with fail
  refine (cf _).mono ?_
  rintro e w2 ⟨rfl, hb2⟩
  have hc2 := hb1.trans (hb2.mono hb1.size)
  clear hb1 hb2 d1 d2 d3 d4
  go_wp2
  go_loopw [9] (fun iv wr => ∃ i : Nat, iv = .int .i64 (i : Int) ∧ f ≤ i ∧ i ≤ f + n + 1 ∧ Below w.heap.size w wr) (fun iv wr => f + n + 1 + 1 - (intOf iv).toNat)
  case atStart => exact ⟨f, rfl, Nat.le_refl _, by first | omega | exact HFK.out, hc2⟩
  case round =>
    obtain ⟨i, rfl, hfi, hik, hbel⟩ := hrel
    by_cases hin : i + m ≤ n
    · have hno := HBef.out i hfi
      have him : i + m ≤ n := by exact hin
      have hne : cutL (ls s) (i : Int) ((i : Int) + (m : Int)) ≠ ls p := fun h => hno ((HSt.out i him).2 h)
      obtain ⟨A, hA⟩ := str_mk (cutL (ls s) (i : Int) ((i : Int) + (m : Int)))
      have cc := cut_eq s hs4.out (i : Int) ((i : Int) + (m : Int)) A hA.symm
      have hAp : (A.toList == p.toList) = false := by
        rw [Lib.toList_data, Lib.toList_data]
        simp only [beq_eq_false_iff_ne, ne_eq]
        intro h
        exact hne (by rw [← hA]; exact h)
      have hiz : (i : Int) ≤ (n : Int) - (m : Int) := by omega
      have HFI := Lib.hid hfi
      have HIM := Lib.hid him
      have HIN := Lib.hid hin
      clear hno hne hA hfi him hin
      go_wp2_with fail
      refine (c2 _).mono ?_
      rintro e w6 ⟨rfl, rfl⟩
      go_wp2_with fail
      refine (cc _).mono ?_
      rintro e w6 ⟨rfl, rfl⟩
      go_wp2
      go_roundw
      case rel => exact ⟨i + 1, by go_num, by have := HFI.out; omega, by have := HIN.out; have := HIM.out; omega, hbel⟩
      case measure => have := HIN.out; have := HIM.out; simp [intOf]; omega
    · have hiz : ¬ ((i : Int) ≤ (n : Int) - (m : Int)) := by omega
      clear hin hik hfi
      go_wp2_with fail
      refine (c2 _).mono ?_
      rintro e w6 ⟨rfl, rfl⟩
      go_wp2
      go_ret
      exact ⟨rfl, hbel⟩

set_option maxRecDepth 100000 in
set_option maxHeartbeats 8000000 in
theorem finds_at (s p : ByteArray) (hs : s.size ≤ 2000) (hp : p.size ≤ 2000) (es : s.size % 2 = 0) (ep : p.size % 2 = 0) (f : Nat) (hf : f ≤ 255) (k : Nat) (hfk : f ≤ k) (hst : U.StandsAt (U.us (ls s)) (U.us (ls p)) k) (hbef : ∀ i, f ≤ i → i < k → ¬ U.StandsAt (U.us (ls s)) (U.us (ls p)) i) (w : World) (hT : Lib.Utf8Tabs 0 1 w) :
    Calls Tryd.prog 8 #[.string s, .string p, .int .u8 (f : Int)] w fun e w' => e = .returned (.bool true) ∧ Below w.heap.size w w' := by
  have HT := Lib.hid hT
  clear hT
  have d1 : decide (2000 < (s.size : Int)) = false := decide_eq_false (by omega)
  have d2 : decide (2000 < (p.size : Int)) = false := decide_eq_false (by omega)
  have d3 : (s.size : Int) % 2 = 0 := by omega
  have d4 : (p.size : Int) % 2 = 0 := by omega
  obtain ⟨n, hn⟩ : ∃ n, s.size = 2 * n := ⟨s.size / 2, by omega⟩
  obtain ⟨m, hm⟩ : ∃ m, p.size = 2 * m := ⟨p.size / 2, by omega⟩
  have c1 := length_eq p (by omega) (m : Int) (by omega)
  have c2 := length_eq s (by omega) (n : Int) (by omega)
  have cf := find_any s p (by omega) (by omega) (f : Int) (by omega) (k : Int) (by simpa using .inr ⟨k, rfl, hfk, hst, hbef⟩)
  have HSt : Hid (∀ i, i + m ≤ n → (U.StandsAt (U.us (ls s)) (U.us (ls p)) i ↔ cutL (ls s) (i : Int) ((i : Int) + (m : Int)) = ls p)) := fun i hi =>
    stands_iff (ls s) (ls p) i m (by rw [ls_length]; exact hm) (by rw [ls_length]; omega)
  have hkm : k + m ≤ n := by
    have h1 := hst.1
    have h2 := U.us_length _ (ls s) (Nat.le_refl _)
    have h3 := U.us_length _ (ls p) (Nat.le_refl _)
    rw [ls_length] at h2 h3
    omega
  have cz := cut_eq s (by omega) (k : Int) ((k : Int) + (m : Int)) p ((HSt.out k hkm).1 hst)
  have HKM := Lib.hid hkm
  have HFK := Lib.hid hfk
  have k0 : ¬ ((k : Int) < 0) := by omega
  have k1 : ((k : Int) == -1) = false := by rw [beq_eq_false_iff_ne]; omega
  have k2 : (k : Int) ≤ 1000 := by omega
  have k3 : (f : Int) ≤ (k : Int) := by omega
  have k4 : (k : Int) + (m : Int) ≤ (n : Int) := by omega
  have hn4 : (n : Int) ≤ 1000 := by omega
  have hm4 : (m : Int) ≤ 1000 := by omega
  have hf4 : (f : Int) ≤ 255 := by omega
  have HBef := Lib.hid hbef
  have hs4 : Hid (s.size ≤ 140737488355328) := by show _ ≤ _; omega
  clear hbef hn hm es ep hs hp hst hfk hkm
  go_enter Tryd.func8, Tryd.ntmps8
  go_wp2_with fail
  refine (awake_any _ HT.out).mono ?_
  rintro e w1 ⟨rfl, hb1⟩
  go_wp2_with fail
  refine (c1 _).mono ?_
  rintro e w2 ⟨rfl, rfl⟩
  go_wp2_with fail
  refine (cf _).mono ?_
  rintro e w2 ⟨rfl, hb2⟩
  have hc2 := hb1.trans (hb2.mono hb1.size)
  clear hb1 hb2 d1 d2 d3 d4
  go_wp2
  go_loopw [9] (fun iv wr => ∃ i : Nat, iv = .int .i64 (i : Int) ∧ f ≤ i ∧ i ≤ k ∧ Below w.heap.size w wr) (fun iv wr => k + 1 - (intOf iv).toNat)
  case atStart => exact ⟨f, rfl, Nat.le_refl _, by first | omega | exact HFK.out, hc2⟩
  case round =>
    obtain ⟨i, rfl, hfi, hik, hbel⟩ := hrel
    by_cases hin : i < k
    · have hno := HBef.out i hfi hin
      have him : i + m ≤ n := by have := HKM.out; omega
      have hne : cutL (ls s) (i : Int) ((i : Int) + (m : Int)) ≠ ls p := fun h => hno ((HSt.out i him).2 h)
      obtain ⟨A, hA⟩ := str_mk (cutL (ls s) (i : Int) ((i : Int) + (m : Int)))
      have cc := cut_eq s hs4.out (i : Int) ((i : Int) + (m : Int)) A hA.symm
      have hAp : (A.toList == p.toList) = false := by
        rw [Lib.toList_data, Lib.toList_data]
        simp only [beq_eq_false_iff_ne, ne_eq]
        intro h
        exact hne (by rw [← hA]; exact h)
      have hiz : (i : Int) ≤ (n : Int) - (m : Int) := by omega
      have hikz : (i : Int) < (k : Int) := by omega
      have HFI := Lib.hid hfi
      have HIM := Lib.hid him
      have HIN := Lib.hid hin
      clear hno hne hA hfi him hin
      go_wp2_with fail
      refine (c2 _).mono ?_
      rintro e w6 ⟨rfl, rfl⟩
      go_wp2_with fail
      refine (cc _).mono ?_
      rintro e w6 ⟨rfl, rfl⟩
      go_wp2
      go_roundw
      case rel => exact ⟨i + 1, by go_num, by have := HFI.out; omega, by have := HIN.out; have := HIM.out; omega, hbel⟩
      case measure => have := HIN.out; have := HIM.out; simp [intOf]; omega
    · obtain rfl : i = k := by omega
      have hiz : (i : Int) ≤ (n : Int) - (m : Int) := by omega
      clear hfi hik hin
      go_wp2_with fail
      refine (c2 _).mono ?_
      rintro e w6 ⟨rfl, rfl⟩
      go_wp2_with fail
      refine (c2 _).mono ?_
      rintro e w6 ⟨rfl, rfl⟩
      go_wp2_with fail
      refine (cz _).mono ?_
      rintro e w6 ⟨rfl, rfl⟩
      go_wp2
      go_ret
      exact ⟨rfl, hbel⟩

theorem law_finds (s p : ByteArray) (hs : s.size ≤ 140737488355328) (hp : p.size ≤ 140737488355328) (z : Int) (hz0 : 0 ≤ z) (hz1 : z ≤ 255) (w : World) (hT : Lib.Utf8Tabs 0 1 w) :
    Calls Tryd.prog 8 #[.string s, .string p, .int .u8 z] w fun e w' => e = .returned (.bool true) ∧ Below w.heap.size w w' := by
  by_cases hl : 2000 < s.size ∨ 2000 < p.size ∨ s.size % 2 = 1 ∨ p.size % 2 = 1
  · exact finds_early s p hs hp z hz0 hz1 hl w hT
  · obtain ⟨f, rfl⟩ : ∃ f : Nat, z = f := ⟨z.toNat, by omega⟩
    obtain ⟨r, hr⟩ := find_exists (U.us (ls s)) (U.us (ls p)) f
    rcases hr with ⟨_, h⟩ | ⟨k, _, h1, h2, h3⟩
    · exact finds_none s p (by omega) (by omega) (by omega) (by omega) f (by omega) h w hT
    · exact finds_at s p (by omega) (by omega) (by omega) (by omega) f (by omega) k h1 h2 h3 w hT
end Go.Proofs.YtalhpihoblhacaaDoor
