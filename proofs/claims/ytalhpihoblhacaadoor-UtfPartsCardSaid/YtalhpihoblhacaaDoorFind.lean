/- What utf.Find answers: the least place of a part, from or above; -1, if there is none. -/
import Derived.Test.YtalhpihoblhacaaDoorFallbacks
namespace Go.Proofs.YtalhpihoblhacaaDoor
open Go.RowKit Go.Shelf
set_option linter.unusedVariables false

def FindSpec (W P : List Nat) (f : Nat) (r : Int) : Prop :=
  (r = -1 ∧ ∀ i, f ≤ i → ¬ U.StandsAt W P i) ∨ (∃ k : Nat, r = (k : Int) ∧ f ≤ k ∧ U.StandsAt W P k ∧ ∀ i, f ≤ i → i < k → ¬ U.StandsAt W P i)
theorem find_exists (W P : List Nat) (f : Nat) : ∃ r, FindSpec W P f r := by
  have key : ∀ n, (∀ i, f ≤ i → i < n → ¬ U.StandsAt W P i) ∨ ∃ k : Nat, f ≤ k ∧ U.StandsAt W P k ∧ ∀ i, f ≤ i → i < k → ¬ U.StandsAt W P i := by
    intro n
    induction n with
    | zero => exact .inl fun i _ h => by omega
    | succ n ih =>
      rcases ih with ih | ih
      · by_cases hs : f ≤ n ∧ U.StandsAt W P n
        · exact .inr ⟨n, hs.1, hs.2, ih⟩
        · refine .inl fun i h1 h2 => ?_
          by_cases e : i = n
          · subst e; exact fun h => hs ⟨h1, h⟩
          · exact ih i h1 (by omega)
      · exact .inr ih
  rcases key (W.length + 1) with h | ⟨k, h⟩
  · exact ⟨-1, .inl ⟨rfl, fun i h1 hs => h i h1 (by have := hs.1; omega) hs⟩⟩
  · exact ⟨k, .inr ⟨k, rfl, h⟩⟩
theorem find_unique {W P : List Nat} {f : Nat} {r r' : Int} (h : FindSpec W P f r) (h' : FindSpec W P f r') : r = r' := by
  rcases h with ⟨e, h⟩ | ⟨k, e, h1, h2, h3⟩ <;> rcases h' with ⟨e', h'⟩ | ⟨k', e', h1', h2', h3'⟩
  · rw [e, e']
  · exact absurd h2' (h k' h1')
  · exact absurd h2 (h' k h1)
  · have a : ¬ k < k' := fun hlt => h3' k h1 hlt h2
    have b : ¬ k' < k := fun hlt => h3 k' h1' hlt h2'
    omega

def FindRel (W P : List Nat) (F : Nat → Nat) (f m R : Nat) (w : World) (hv iv : Value) (wr : World) : Prop :=
  ∃ i h : Nat, iv = .int .i64 (i : Int) ∧ hv = .int .i64 (h : Int) ∧ f ≤ i ∧ i ≤ W.length ∧ Hid (U.Best P ((W.take i).drop f) h) ∧ h < m ∧ Hid (∀ j, f ≤ j → j + m ≤ i → ¬ U.StandsAt W P j) ∧ Hid (Backs P F R m wr) ∧ Below R w wr ∧ R < wr.heap.size

set_option maxHeartbeats 4000000 in
theorem find_small (s p : ByteArray) (hs : s.size ≤ 4000) (hp : p.size ≤ 4000) (z : Int) (hz1 : z ≤ 9223372036854775807) (hz : z.toNat + p.size / 2 > s.size / 2 ∨ p.size / 2 = 0) (r : Int) (hr : FindSpec (U.us (ls s)) (U.us (ls p)) z.toNat r) (w : World) :
    Calls Tryd.prog 19 #[.string s, .string p, .int .i64 z] w fun e w' => e = .returned (.int .i64 r) ∧ Below w.heap.size w w' := by
  obtain ⟨n, hn⟩ : ∃ n, s.size / 2 = n := ⟨_, rfl⟩
  obtain ⟨m, hm⟩ : ∃ m, p.size / 2 = m := ⟨_, rfl⟩
  have hWl : (U.us (ls s)).length = n := by rw [U.us_length _ _ (Nat.le_refl _), ls_length, hn]
  have hPl : (U.us (ls p)).length = m := by rw [U.us_length _ _ (Nat.le_refl _), ls_length, hm]
  have c1 := length_eq p (by omega) (m : Int) (by omega)
  have c2 := length_eq s (by omega) (n : Int) (by omega)
  rw [hn, hm] at hz
  have hn4 : (n : Int) ≤ 2000 := by omega
  have hm4 : (m : Int) ≤ 2000 := by omega
  by_cases hbig : z.toNat + m > n
  · have hr1 : r = -1 := find_unique hr (.inl ⟨rfl, fun i hi hst => by have := hst.1; omega⟩)
    have HR := Lib.hid hr1
    by_cases h0 : z < 0
    · have hb : (n : Int) < (m : Int) := by omega
      clear hr hr1 hWl hPl hn hm hz hbig
      go_enter Tryd.func19, Tryd.ntmps19
      go_wp2_with fail
      refine (c1 _).mono ?_
      rintro e w6 ⟨rfl, rfl⟩
      go_wp2_with fail
      refine (c2 _).mono ?_
      rintro e w6 ⟨rfl, rfl⟩
      go_wp2
      go_ret
      exact ⟨ret_int (by have := HR.out; omega), Below.refl _ _⟩
    · have hb : (n : Int) - z < (m : Int) := by omega
      have h0' : 0 ≤ z := by omega
      clear hr hr1 hWl hPl hn hm hz hbig
      go_enter Tryd.func19, Tryd.ntmps19
      go_wp2_with fail
      refine (c1 _).mono ?_
      rintro e w6 ⟨rfl, rfl⟩
      go_wp2_with fail
      refine (c2 _).mono ?_
      rintro e w6 ⟨rfl, rfl⟩
      go_wp2
      go_ret
      exact ⟨ret_int (by have := HR.out; omega), Below.refl _ _⟩
  · have hm0 : m = 0 := by omega
    subst hm0
    have hP : U.us (ls p) = [] := List.eq_nil_of_length_eq_zero hPl
    have hr1 : r = (z.toNat : Int) := find_unique hr (.inr ⟨z.toNat, rfl, Nat.le_refl _, by rw [hP]; exact ⟨by simp only [List.length_nil]; omega, by simp⟩, fun i h1 h2 => by omega⟩)
    have HR := Lib.hid hr1
    by_cases h0 : z < 0
    · have HZ : Hid ((z.toNat : Int) = 0) := by show _ = _; omega
      clear hr hr1 hWl hPl hn hm hz hbig hP
      have hb : ¬ ((n : Int) < 0) := by omega
      go_enter Tryd.func19, Tryd.ntmps19
      go_wp2_with fail
      refine (c1 _).mono ?_
      rintro e w6 ⟨rfl, rfl⟩
      go_wp2_with fail
      refine (c2 _).mono ?_
      rintro e w6 ⟨rfl, rfl⟩
      go_wp2
      go_ret
      exact ⟨ret_int (by have := HR.out; have := HZ.out; omega), Below.refl _ _⟩
    · have h0' : 0 ≤ z := by omega
      have hb : ¬ ((n : Int) - z < 0) := by omega
      have hzn : z ≤ (n : Int) := by omega
      have HZ : Hid ((z.toNat : Int) = z) := by show _ = _; omega
      clear hr hr1 hWl hPl hn hm hz hbig hP
      go_enter Tryd.func19, Tryd.ntmps19
      go_wp2_with fail
      refine (c1 _).mono ?_
      rintro e w6 ⟨rfl, rfl⟩
      go_wp2_with fail
      refine (c2 _).mono ?_
      rintro e w6 ⟨rfl, rfl⟩
      go_wp2
      go_ret
      exact ⟨ret_int (by have := HR.out; have := HZ.out; omega), Below.refl _ _⟩

set_option maxHeartbeats 8000000 in
theorem find_pos (s p : ByteArray) (hs : s.size ≤ 4000) (hp : p.size ≤ 4000) (f : Nat) (hfm : f + p.size / 2 ≤ s.size / 2) (hm1 : 1 ≤ p.size / 2) (r : Int) (hr : FindSpec (U.us (ls s)) (U.us (ls p)) f r) (w : World) :
    Calls Tryd.prog 19 #[.string s, .string p, .int .i64 (f : Int)] w fun e w' => e = .returned (.int .i64 r) ∧ Below w.heap.size w w' := by
  obtain ⟨n, hn⟩ : ∃ n, s.size / 2 = n := ⟨_, rfl⟩
  obtain ⟨m, hm⟩ : ∃ m, p.size / 2 = m := ⟨_, rfl⟩
  have hWl : (U.us (ls s)).length = n := by rw [U.us_length _ _ (Nat.le_refl _), ls_length, hn]
  have hPl : (U.us (ls p)).length = m := by rw [U.us_length _ _ (Nat.le_refl _), ls_length, hm]
  have hat : ∀ i, i < n → (U.us (ls s)).getD i 0 = U.unitAt (ls s) i := fun i hi => U.us_at i (ls s) (by rw [ls_length]; omega)
  have c1 := length_eq p (by omega) (m : Int) (by omega)
  have c2 := length_eq s (by omega) (n : Int) (by omega)
  rw [hn, hm] at hfm
  rw [hm] at hm1
  have hn4 : (n : Int) ≤ 2000 := by omega
  have hm4 : (m : Int) ≤ 2000 := by omega
  have hm0 : 0 < (m : Int) := by omega
  have hb : ¬ ((n : Int) - (f : Int) < (m : Int)) := by omega
  have hfn : (f : Int) ≤ (n : Int) := by omega
  have cf := fallbacks_any p (by omega) (U.us (ls p)) rfl m hPl hm1 w
  obtain ⟨W, hW⟩ : ∃ W, U.us (ls s) = W := ⟨_, rfl⟩
  obtain ⟨P, hP⟩ : ∃ P, U.us (ls p) = P := ⟨_, rfl⟩
  rw [hW] at hWl hr hat
  rw [hP] at hPl hr cf
  have HPP : Hid (P = U.us (ls p)) := hP.symm
  have HR := Lib.hid hr
  have HWl := Lib.hid hWl
  have HPl := Lib.hid hPl
  have HA := Lib.hid hat
  have HFM := Lib.hid hfm
  have HN := Lib.hid hn
  obtain ⟨B, hB⟩ : ∃ B, w.heap.size = B := ⟨_, rfl⟩
  rw [hB] at cf
  have HB := Lib.hid hB
  clear hr hWl hPl hat hfm hn hm hW hP hB
  go_enter Tryd.func19, Tryd.ntmps19
  go_wp2_with fail
  refine (c1 _).mono ?_
  rintro e w6 ⟨rfl, rfl⟩
  go_wp2_with fail
  refine (c2 _).mono ?_
  rintro e w6 ⟨rfl, rfl⟩
  go_wp2_with fail
  refine cf.mono ?_
  rintro e w1 ⟨F, rfl, hbk, hbel, hlt⟩
  have Hst : FindRel W P F f m B w (.int .i64 0) (.int .i64 (f : Int)) w1 := by
    refine ⟨f, 0, rfl, rfl, Nat.le_refl _, by have := HWl.out; have := HFM.out; omega, ?_, by omega, ?_, hbk, hbel, hlt⟩
    · show U.Best P _ 0
      rw [List.drop_eq_nil_of_le (by rw [List.length_take]; omega)]
      exact U.best_nil P
    · intro j h1 h2
      omega
  clear hbk hbel hlt
  go_wp2
  go_loopw [9, 10] (fun hv iv wr => FindRel W P F f m B w hv iv wr) (fun _ iv wr => n - (intOf iv).toNat)
  case atStart => exact Hst
  case round =>
    obtain ⟨i, h, rfl, rfl, hfi, hin, HBst, hhm, HNo, HBk, hbel, hlt⟩ := hrel
    by_cases hks : i < n
    · have hkz : (i : Int) < (n : Int) := by omega
      have hi2 : 2 * i + 1 < s.size := by have := HN.out; omega
      have cu := unit_any s (by omega) i hi2
      obtain ⟨u, hu⟩ : ∃ u, U.unitAt (ls s) i = u := ⟨_, rfl⟩
      have HU : Hid (W.getD i 0 = u) := by show _ = _; rw [HA.out i hks, hu]
      rw [hu] at cu
      have cg := fun (X : World) (hB : Backs P F B h X) => goOn_any p (by omega) P ((W.take i).drop f) HPP.out u h B (m + 1) (m + 1) F X HBst.out (by have := HPl.out; omega) (by omega) hB
      have HBh : Hid (Backs P F B h wr) := fun k h1 h2 => HBk.out k h1 (by omega)
      have HT : Hid ((W.take (i + 1)).drop f = (W.take i).drop f ++ [u]) := by show _ = _; rw [U.take_drop_succ W f i hfi (by have := HWl.out; omega), HU.out]
      have HFI := Lib.hid hfi
      have HIN := Lib.hid hin
      have HHM := Lib.hid hhm
      have HI2 := Lib.hid hi2
      clear hu hfi hin hhm hi2
      go_wp2_with fail
      refine (c2 _).mono ?_
      rintro e w6 ⟨rfl, rfl⟩
      go_wp2_with fail
      refine (cu _).mono ?_
      rintro e w6 ⟨rfl, n1, rfl⟩
      go_wp2_with fail
      refine (cg _ (backs_drew HBh.out)).mono ?_
      rintro e w6 ⟨q, rfl, hq, n2, rfl⟩
      rw [← HT.out] at hq
      have HQ := Lib.hid hq
      clear hq
      by_cases hqm : q = m
      · subst hqm
        have HF : Hid ((i : Int) + 1 - (q : Int) = r) := by
          have hsuf := HQ.out.1
          have hl := U.suf_len hsuf
          have hwl := HWl.out
          have hpl := HPl.out
          rw [List.length_drop, List.length_take] at hl
          have hst : U.StandsAt W P (i + 1 - q) := by
            have h2 := (U.stands_suf W P f (i + 1 - q) (by have := HFI.out; omega)).2 (by omega)
            rw [hpl, show i + 1 - q + q = i + 1 by omega] at h2
            exact h2 hsuf
          refine find_unique (.inr ⟨i + 1 - q, by omega, by have := HFI.out; omega, hst, fun j h1 h2 => HNo.out j h1 (by omega)⟩) HR.out
        go_wp2
        go_ret
        exact ⟨ret_int HF.out, by rw [HB.out]; exact below_drewN hbel _⟩
      · have d1 : ((q : Int) == (m : Int)) = false := by simp; omega
        have HQM := Lib.hid hqm
        clear hqm
        go_wp2
        go_roundw
        case rel =>
          have hbl := U.best_le HQ.out
          have hpl := HPl.out
          refine ⟨i + 1, q, by go_num, rfl, by have := HFI.out; omega, by have := HWl.out; omega, HQ.out, by have := HQM.out; omega, fun j h1 h2 hst => ?_, HBk.out, below_drewN hbel _, hlt⟩
          by_cases e : j + m = i + 1
          · have h3 := (U.stands_suf W P f j h1).1 hst
            rw [hpl, e] at h3
            have := HQ.out.2 m h3
            have := HQM.out
            omega
          · exact HNo.out j h1 (by omega) hst
        case measure => simp [intOf]; omega
    · obtain rfl : i = n := by have := HWl.out; omega
      have HF : Hid (-1 = r) := find_unique (.inl ⟨rfl, fun j h1 hst => HNo.out j h1 (by have := hst.1; have := HWl.out; have := HPl.out; omega) hst⟩) HR.out
      go_wp2_with fail
      refine (c2 _).mono ?_
      rintro e w6 ⟨rfl, rfl⟩
      go_wp2
      go_ret
      exact ⟨ret_int HF.out, by rw [HB.out]; exact hbel⟩

set_option maxHeartbeats 8000000 in
theorem find_neg (s p : ByteArray) (hs : s.size ≤ 4000) (hp : p.size ≤ 4000) (z : Int) (hz : z < 0) (f : Nat) (hf0 : f = 0) (hfm : f + p.size / 2 ≤ s.size / 2) (hm1 : 1 ≤ p.size / 2) (r : Int) (hr : FindSpec (U.us (ls s)) (U.us (ls p)) f r) (w : World) :
    Calls Tryd.prog 19 #[.string s, .string p, .int .i64 z] w fun e w' => e = .returned (.int .i64 r) ∧ Below w.heap.size w w' := by
  obtain ⟨n, hn⟩ : ∃ n, s.size / 2 = n := ⟨_, rfl⟩
  obtain ⟨m, hm⟩ : ∃ m, p.size / 2 = m := ⟨_, rfl⟩
  have hWl : (U.us (ls s)).length = n := by rw [U.us_length _ _ (Nat.le_refl _), ls_length, hn]
  have hPl : (U.us (ls p)).length = m := by rw [U.us_length _ _ (Nat.le_refl _), ls_length, hm]
  have hat : ∀ i, i < n → (U.us (ls s)).getD i 0 = U.unitAt (ls s) i := fun i hi => U.us_at i (ls s) (by rw [ls_length]; omega)
  have c1 := length_eq p (by omega) (m : Int) (by omega)
  have c2 := length_eq s (by omega) (n : Int) (by omega)
  rw [hn, hm] at hfm
  rw [hm] at hm1
  have hn4 : (n : Int) ≤ 2000 := by omega
  have hm4 : (m : Int) ≤ 2000 := by omega
  have hm0 : 0 < (m : Int) := by omega
  subst hf0
  have hb : ¬ ((n : Int) < (m : Int)) := by omega
  have cf := fallbacks_any p (by omega) (U.us (ls p)) rfl m hPl hm1 w
  obtain ⟨W, hW⟩ : ∃ W, U.us (ls s) = W := ⟨_, rfl⟩
  obtain ⟨P, hP⟩ : ∃ P, U.us (ls p) = P := ⟨_, rfl⟩
  rw [hW] at hWl hr hat
  rw [hP] at hPl hr cf
  have HPP : Hid (P = U.us (ls p)) := hP.symm
  have HR := Lib.hid hr
  have HWl := Lib.hid hWl
  have HPl := Lib.hid hPl
  have HA := Lib.hid hat
  have HFM := Lib.hid hfm
  have HN := Lib.hid hn
  obtain ⟨B, hB⟩ : ∃ B, w.heap.size = B := ⟨_, rfl⟩
  rw [hB] at cf
  have HB := Lib.hid hB
  clear hr hWl hPl hat hfm hn hm hW hP hB
  go_enter Tryd.func19, Tryd.ntmps19
  go_wp2_with fail
  refine (c1 _).mono ?_
  rintro e w6 ⟨rfl, rfl⟩
  go_wp2_with fail
  refine (c2 _).mono ?_
  rintro e w6 ⟨rfl, rfl⟩
  go_wp2_with fail
  refine cf.mono ?_
  rintro e w1 ⟨F, rfl, hbk, hbel, hlt⟩
  have Hst : FindRel W P F 0 m B w (.int .i64 0) (.int .i64 0) w1 := by
    refine ⟨0, 0, rfl, rfl, Nat.le_refl _, by have := HWl.out; have := HFM.out; omega, ?_, by omega, ?_, hbk, hbel, hlt⟩
    · show U.Best P _ 0
      rw [List.drop_eq_nil_of_le (by rw [List.length_take]; omega)]
      exact U.best_nil P
    · intro j h1 h2
      omega
  clear hbk hbel hlt
  go_wp2
  go_loopw [9, 10] (fun hv iv wr => FindRel W P F 0 m B w hv iv wr) (fun _ iv wr => n - (intOf iv).toNat)
  case atStart => exact Hst
  case round =>
    obtain ⟨i, h, rfl, rfl, hfi, hin, HBst, hhm, HNo, HBk, hbel, hlt⟩ := hrel
    by_cases hks : i < n
    · have hkz : (i : Int) < (n : Int) := by omega
      have hi2 : 2 * i + 1 < s.size := by have := HN.out; omega
      have cu := unit_any s (by omega) i hi2
      obtain ⟨u, hu⟩ : ∃ u, U.unitAt (ls s) i = u := ⟨_, rfl⟩
      have HU : Hid (W.getD i 0 = u) := by show _ = _; rw [HA.out i hks, hu]
      rw [hu] at cu
      have cg := fun (X : World) (hB : Backs P F B h X) => goOn_any p (by omega) P ((W.take i).drop 0) HPP.out u h B (m + 1) (m + 1) F X HBst.out (by have := HPl.out; omega) (by omega) hB
      have HBh : Hid (Backs P F B h wr) := fun k h1 h2 => HBk.out k h1 (by omega)
      have HT : Hid ((W.take (i + 1)).drop 0 = (W.take i).drop 0 ++ [u]) := by show _ = _; rw [U.take_drop_succ W 0 i hfi (by have := HWl.out; omega), HU.out]
      have HFI := Lib.hid hfi
      have HIN := Lib.hid hin
      have HHM := Lib.hid hhm
      have HI2 := Lib.hid hi2
      clear hu hfi hin hhm hi2
      go_wp2_with fail
      refine (c2 _).mono ?_
      rintro e w6 ⟨rfl, rfl⟩
      go_wp2_with fail
      refine (cu _).mono ?_
      rintro e w6 ⟨rfl, n1, rfl⟩
      go_wp2_with fail
      refine (cg _ (backs_drew HBh.out)).mono ?_
      rintro e w6 ⟨q, rfl, hq, n2, rfl⟩
      rw [← HT.out] at hq
      have HQ := Lib.hid hq
      clear hq
      by_cases hqm : q = m
      · subst hqm
        have HF : Hid ((i : Int) + 1 - (q : Int) = r) := by
          have hsuf := HQ.out.1
          have hl := U.suf_len hsuf
          have hwl := HWl.out
          have hpl := HPl.out
          rw [List.length_drop, List.length_take] at hl
          have hst : U.StandsAt W P (i + 1 - q) := by
            have h2 := (U.stands_suf W P 0 (i + 1 - q) (by have := HFI.out; omega)).2 (by omega)
            rw [hpl, show i + 1 - q + q = i + 1 by omega] at h2
            exact h2 hsuf
          refine find_unique (.inr ⟨i + 1 - q, by omega, by have := HFI.out; omega, hst, fun j h1 h2 => HNo.out j h1 (by omega)⟩) HR.out
        go_wp2
        go_ret
        exact ⟨ret_int HF.out, by rw [HB.out]; exact below_drewN hbel _⟩
      · have d1 : ((q : Int) == (m : Int)) = false := by simp; omega
        have HQM := Lib.hid hqm
        clear hqm
        go_wp2
        go_roundw
        case rel =>
          have hbl := U.best_le HQ.out
          have hpl := HPl.out
          refine ⟨i + 1, q, by go_num, rfl, by have := HFI.out; omega, by have := HWl.out; omega, HQ.out, by have := HQM.out; omega, fun j h1 h2 hst => ?_, HBk.out, below_drewN hbel _, hlt⟩
          by_cases e : j + m = i + 1
          · have h3 := (U.stands_suf W P 0 j h1).1 hst
            rw [hpl, e] at h3
            have := HQ.out.2 m h3
            have := HQM.out
            omega
          · exact HNo.out j h1 (by omega) hst
        case measure => simp [intOf]; omega
    · obtain rfl : i = n := by have := HWl.out; omega
      have HF : Hid (-1 = r) := find_unique (.inl ⟨rfl, fun j h1 hst => HNo.out j h1 (by have := hst.1; have := HWl.out; have := HPl.out; omega) hst⟩) HR.out
      go_wp2_with fail
      refine (c2 _).mono ?_
      rintro e w6 ⟨rfl, rfl⟩
      go_wp2
      go_ret
      exact ⟨ret_int HF.out, by rw [HB.out]; exact hbel⟩

theorem find_any (s p : ByteArray) (hs : s.size ≤ 4000) (hp : p.size ≤ 4000) (z : Int) (hz1 : z ≤ 9223372036854775807) (r : Int) (hr : FindSpec (U.us (ls s)) (U.us (ls p)) z.toNat r) (w : World) :
    Calls Tryd.prog 19 #[.string s, .string p, .int .i64 z] w fun e w' => e = .returned (.int .i64 r) ∧ Below w.heap.size w w' := by
  by_cases h1 : z.toNat + p.size / 2 > s.size / 2 ∨ p.size / 2 = 0
  · exact find_small s p hs hp z hz1 h1 r hr w
  · by_cases h0 : z < 0
    · exact find_neg s p hs hp z h0 z.toNat (by omega) (by omega) (by omega) r hr w
    · obtain ⟨f, rfl⟩ : ∃ f : Nat, z = f := ⟨z.toNat, by omega⟩
      exact find_pos s p hs hp f (by simp at h1; omega) (by omega) r hr w
end Go.Proofs.YtalhpihoblhacaaDoor
