/- The document's own reading where a fault has been found already, and of comments and instructions. Conditions: those that each theorem names. The document's own reading of comments. Conditions: those that each theorem names. The document's own reading of instructions. Conditions: those that each theorem names. -/
import Derived.Test.YtdilngjolhmjnaaGreatDoorRg2
namespace Go.Proofs.YtdilngjolhmjnaaGreatDoor
open Go.RowKit Go.Shelf
set_option linter.all false

def GoRelB (b : Nat) (T C A : Value) (i m e : Nat) (p : K.Pl) (w : World) (g : Nat) (wr : World) : Prop := ∃ k : Nat, m - k = g ∧ k ≤ m ∧ Sn b T C A (i + k) e p wr ∧ Bar b w wr
set_option maxHeartbeats 4000000 in
theorem to_bad {b : Nat} {cs : List Nat} {T C A : Value} {i e : Nat} {p : K.Pl} {w : World} (he : e ≠ 0) (hn : Sn b T C A i e p w) (hr : Sr b cs T C A w) (hi : i ≤ cs.length) (t : List Nat) (ht : Small t) (hne : t ≠ []) (htl : t.length ≤ 100) (q : ByteArray) (hq : q = bs (K.b8 t)) :
    Calls Tryz.prog 25 #[.pointer (some ⟨b, 0, none⟩), .string q] w fun en w' => (∃ z, en = .returned (.string z)) ∧ Bar b w w' ∧ ∃ j, j ≤ cs.length ∧ Sn b T C A j e p w' := by
  have hlen := hr.len
  obtain ⟨_, c1, _, c3, _⟩ := hn.cells
  obtain ⟨pc, nc, hC⟩ := hr.char
  have hqs : q.size = t.length := by rw [hq, bs_size]; simp [K.b8]
  have htp : 0 < t.length := List.length_pos_iff.2 hne
  have hel := toEnd_le (t := t) cs i hi
  have hat := toEnd_at (t := t) cs i
  obtain ⟨m, hm⟩ : ∃ m, toEnd t cs i = m := ⟨_, rfl⟩
  rw [hm] at hel hat
  have HN := Lib.hid hn
  have HR := Lib.hid hr
  have HAT := Lib.hid hat
  have HM := Lib.hid hm
  have HQ := Lib.hid hq
  have HT := Lib.hid ht
  have HC := Lib.hid hC
  clear hn hr hat hm hq ht hC
  go_enter Tryz.func25, Tryz.ntmps25
  go_wp2
  go_loopg [] m (fun g wr => GoRelB b T C A i m e p w g wr)
  case atStart => exact ⟨0, rfl, Nat.zero_le _, HN.out, Bar.refl _ _⟩
  case round =>
    obtain ⟨k, hg, hk, hs, hbar⟩ := hrel
    have hr' := HR.out.bar hbar
    obtain ⟨_, c1, _, c3, _⟩ := hs.cells
    rw [HC.out] at c1
    have f3 := hs.free 3
    have hh := fun n => here_any (hs.drew n) (hr'.bar (bar_drew b wr n)) (by omega) t HT.out (by omega) q HQ.out
    have HS := Lib.hid hs
    have HB := Lib.hid hbar
    have HR' := Lib.hid hr'
    clear hs hbar hr'
    by_cases hlt : k < m
    · obtain ⟨h1, h2⟩ := HAT.out k hlt
      rw [h2] at hh
      have hl : (i : Int) + (k : Int) < (cs.length : Int) := by omega
      clear h2
      go_wp2
      go_quiet ((go_at_call 23; exact Calls.quiet_of (hh _)))
      go_wp2
      go_roundg (m - (k + 1))
      case measure => omega
      case rel => exact ⟨k + 1, rfl, by omega, (HS.out.drew _).set3 (i + k + 1), HB.out.trans ((bar_drew b wr _).trans (Bar.set _ 3 _))⟩
    · obtain rfl : k = m := by omega
      cases hi2 : K.idx t (cs.drop i) with
      | none =>
        have hmm : i + k = cs.length := by have := HM.out; unfold toEnd at this; rw [hi2] at this; simp only at this; omega
        have hbad := fun n => bad_no (HS.out.drew n) he (cs.length : Int) 21
        have hl : decide ((cs.length : Int) < (cs.length : Int)) = false := by simp
        rw [hmm] at c3
        clear hh hi2
        go_wp2
        go_quiet (fail)
        go_wp2
        go_quiet (fail)
        go_wp2_with (go_at_call 26; refine (hbad _).mono ?_; rintro e w2 ⟨rfl, rfl⟩)
        go_ret
        exact ⟨⟨_, rfl⟩, HB.out.trans (bar_drew b wr _), i + k, by omega, HS.out.drew _⟩
      | some n =>
        have hkn : k = n := by have := HM.out; unfold toEnd at this; rw [hi2] at this; simp only at this; omega
        subst hkn
        obtain ⟨hpre, hle⟩ := idx_pre hi2
        rw [List.drop_drop] at hpre
        have hse : K.sees t (S cs (i + k)) = true := hpre
        have hp2 : i + k + t.length ≤ cs.length := by
          have := (List.isPrefixOf_iff_prefix.1 hpre).length_le
          rw [List.length_drop] at this
          omega
        rw [hse] at hh
        have hl : (i : Int) + (k : Int) < (cs.length : Int) := by omega
        have hl2 : decide ((cs.length : Int) ≤ (i : Int) + (k : Int)) = false := by simp; omega
        have hpart := fun n => part_rf (HS.out.drew n) (HR'.out.bar (bar_drew b wr n)) i k (by omega) ((i : Int) + (k : Int)) (by omega)
        clear hpre hse hi2
        go_wp2
        go_quiet ((go_at_call 23; exact Calls.quiet_of (hh _)))
        go_wp2
        go_quiet (fail)
        go_wp2_with (go_at_call 46; refine (hpart _).mono ?_; rintro e w3 ⟨rfl, rfl⟩)
        go_ret
        exact ⟨⟨_, rfl⟩, HB.out.trans ((bar_drew b wr _).trans (Bar.set _ 3 _)), i + k + t.length, hp2, (HS.out.drew _).set3 (i + k + t.length)⟩
end Go.Proofs.YtdilngjolhmjnaaGreatDoor
namespace Go.Proofs.YtdilngjolhmjnaaGreatDoor
open Go.RowKit Go.Shelf
set_option linter.all false

abbrev unitV : Unit → Value := fun _ => .tuple #[]
def isUnit (v : Value) : Prop := v = .tuple #[]
theorem comment_S (cs : List Nat) (i : Nat) : K.comment (S cs i) = match K.idx [45, 45] (cs.drop (i + 4)) with
    | none => .error (21, pl cs cs.length)
    | some n => if cs.length - i = 4 + n + 2 then .error (21, pl cs cs.length) else (if K.sees [45, 45, 62] (S cs (i + 4 + n)) = true then .ok (S cs (i + 4 + n + 3)) else .error (21, pl cs (i + 4 + n))) := by
  unfold K.comment
  have h1 : (S cs i).1.drop 4 = cs.drop (i + 4) := by rw [S_eq]; simp only; rw [List.drop_drop]
  have h2 : K.advs (S cs i).2 (S cs i).1 = pl cs cs.length := pl_all cs i
  have h3 : (S cs i).1.length = cs.length - i := by rw [S_eq]; simp only; rw [List.length_drop]
  rw [h1, h2, h3]
  cases K.idx [45, 45] (cs.drop (i + 4)) with
  | none => rfl
  | some n =>
    simp only
    split
    · rfl
    · rw [S_skip, S_skip]
      unfold K.want
      rw [S_skip]
      rfl
theorem sees_more {cs : List Nat} {j : Nat} (h : K.sees [45, 45] (S cs j) = true) : K.sees [45, 45, 62] (S cs j) = decide (cnum cs (j + 2) = 62) ∧ j + 2 ≤ cs.length := by
  rw [sees_step, sees_step, sees_empty, Bool.and_true, Bool.and_eq_true, decide_eq_true_eq, decide_eq_true_eq] at h
  obtain ⟨h1, h2⟩ := h
  rw [sees_step, sees_step, sees_step, sees_empty, Bool.and_true, decide_eq_true h1, decide_eq_true h2, Bool.true_and, Bool.true_and]
  refine ⟨rfl, ?_⟩
  rcases cnum_cases cs (j + 1) with ⟨_, e⟩ | ⟨c, r, hd, _⟩
  · rw [e] at h2; omega
  · have := (drop_at hd).1; omega
def okUnit (r : Except K.Er K.St) : Except K.Er (Unit × K.St) := match r with
  | .ok s => .ok ((), s)
  | .error e => .error e

set_option maxHeartbeats 8000000 in
set_option maxRecDepth 100000 in
theorem comment_rf {b : Nat} {cs : List Nat} {T C A : Value} {i : Nat} {w : World} (hn : Sn b T C A i 0 (0, 0) w) (hr : Sr b cs T C A w) (hsee : K.sees [60, 33, 45, 45] (S cs i) = true) :
    Calls Tryz.prog 24 #[.pointer (some ⟨b, 0, none⟩)] w (RPost b cs T C A w 5 unitV isUnit (okUnit (K.comment (S cs i)))) := by
  have hlen := hr.len
  have hi4 : i + 4 ≤ cs.length := by
    have := (List.isPrefixOf_iff_prefix.1 hsee).length_le
    rw [S_eq] at this
    simp only [List.length_drop, List.length_cons, List.length_nil] at this
    omega
  obtain ⟨_, c1, _, c3, _⟩ := hn.cells
  have f3 := hn.free 3
  obtain ⟨pc, nc, hC⟩ := hr.char
  have hh1 := here_any hn hr (by omega) [60, 33, 45, 45] (by unfold Small; decide) (by decide) ⟨#[60, 33, 45, 45]⟩ rfl
  rw [hsee] at hh1
  have hcm := comment_S cs i
  obtain ⟨R, hR⟩ : ∃ R, K.comment (S cs i) = R := ⟨_, rfl⟩
  rw [hR] at hcm ⊢
  have hel := toEnd_le (t := [45, 45]) cs (i + 4) hi4
  have hat := toEnd_at (t := [45, 45]) cs (i + 4)
  obtain ⟨m, hm⟩ : ∃ m, toEnd [45, 45] cs (i + 4) = m := ⟨_, rfl⟩
  rw [hm] at hel hat
  have HN := Lib.hid hn
  have HR := Lib.hid hr
  have HAT := Lib.hid hat
  have HM := Lib.hid hm
  have HCm := Lib.hid hcm
  have HC := Lib.hid hC
  clear hn hr hat hm hcm hR hC hsee
  go_enter Tryz.func24, Tryz.ntmps24
  go_wp2_with (go_at_call 23; refine hh1.mono ?_; rintro e w1 ⟨rfl, n1, rfl⟩)
  go_loopg [] m (fun g wr => GoRel b T C A (i + 4) m w g wr)
  case atStart => exact ⟨0, rfl, Nat.zero_le _, (HN.out.drew _).setz _ (i + 4) (by omega), (bar_drew b w _).trans (Bar.set _ 3 _)⟩
  case round =>
    obtain ⟨k, hg, hk, hs, hbar⟩ := hrel
    have hr' := HR.out.bar hbar
    obtain ⟨_, c1, _, c3, _⟩ := hs.cells
    rw [HC.out] at c1
    have f3 := hs.free 3
    have hh := fun n => here_any (hs.drew n) (hr'.bar (bar_drew b wr n)) (by omega) [45, 45] (by unfold Small; decide) (by decide) ⟨#[45, 45]⟩ rfl
    have HS := Lib.hid hs
    have HB := Lib.hid hbar
    have HR' := Lib.hid hr'
    clear hs hbar hr'
    by_cases hlt : k < m
    · obtain ⟨h1, h2⟩ := HAT.out k hlt
      rw [h2] at hh
      have hl : (i : Int) + 4 + (k : Int) < (cs.length : Int) := by omega
      clear h2
      go_wp2
      go_quiet ((go_at_call 23; exact Calls.quiet_of (hh _)))
      go_wp2
      go_roundg (m - (k + 1))
      case measure => omega
      case rel => exact ⟨k + 1, rfl, by omega, (HS.out.drew _).setz _ (i + 4 + k + 1) (by omega), HB.out.trans ((bar_drew b wr _).trans (Bar.set _ 3 _))⟩
    · obtain rfl : k = m := by omega
      cases hi2 : K.idx [45, 45] (cs.drop (i + 4)) with
      | none =>
        have hmm : i + 4 + k = cs.length := by have := HM.out; unfold toEnd at this; rw [hi2] at this; simp only at this; omega
        have hc2 := fun n => c_any (HS.out.drew n) (HR'.out.bar (bar_drew b wr n)) (cs.length + 2) (by omega)
        have hcn : cnum cs (cs.length + 2) = -1 := cnum_none (List.drop_eq_nil_of_le (by omega))
        simp only [hcn] at hc2
        have hbad := fun n => bad_ok (HS.out.drew n) (HR'.out.bar (bar_drew b wr n)) cs.length (by omega) 21
        rw [Nat.min_self] at hbad
        simp only [hmm] at hbad
        have hl : decide ((cs.length : Int) < (cs.length : Int)) = false := by simp
        rw [hmm] at c3
        have hres := HCm.out
        rw [hi2] at hres
        have HRES : Hid (R = .error (21, pl cs cs.length)) := Lib.hid hres
        clear hh hi2 hres
        go_wp2
        go_quiet (fail)
        go_wp2_with (first
          | (go_at_call 42; refine (hc2 _).mono ?_; rintro e w' ⟨rfl, rfl⟩)
          | (go_at_call 26; refine (hbad _).mono ?_; rintro e w2 ⟨rfl, hs2, hb2⟩; obtain ⟨_, _, _, d3, _⟩ := hs2.cells; have g3 := hs2.free 3; have HS2 := Lib.hid hs2; have HB2 := Lib.hid hb2; clear hs2 hb2))
        refine bodyPost_ret (results_none rfl _ _ _) rfl ?_
        rw [HRES.out]
        exact ⟨HB.out.trans ((bar_drew b wr _).trans (HB2.out.trans (Bar.set _ 3 _))), _, cs.length + 3, rfl, rfl, by omega, by simp, by simp, HS2.out.setz _ (cs.length + 3) (by omega)⟩
      | some n =>
        have hkn : k = n := by have := HM.out; unfold toEnd at this; rw [hi2] at this; simp only at this; omega
        subst hkn
        obtain ⟨hpre, hle⟩ := idx_pre hi2
        rw [List.drop_drop] at hpre
        have hse : K.sees [45, 45] (S cs (i + 4 + k)) = true := hpre
        obtain ⟨hs3, hp2⟩ := sees_more hse
        rw [hse] at hh
        have hl : (i : Int) + 4 + (k : Int) < (cs.length : Int) := by omega
        have hc2 := fun n => c_any (HS.out.drew n) (HR'.out.bar (bar_drew b wr n)) (i + 4 + k + 2) (by omega)
        have hz : ((i + 4 + k + 2 : Nat) : Int) = (i : Int) + 4 + (k : Int) + 2 := by omega
        rw [hz] at hc2
        have hbadE := fun n => bad_ok (HS.out.drew n) (HR'.out.bar (bar_drew b wr n)) cs.length (by omega) 21
        rw [Nat.min_self] at hbadE
        have hbadI := fun n => bad_ok (HS.out.drew n) (HR'.out.bar (bar_drew b wr n)) (i + 4 + k) (by omega) 21
        rw [Nat.min_eq_left (by omega), show ((i + 4 + k : Nat) : Int) = (i : Int) + 4 + (k : Int) by omega] at hbadI
        have hres := HCm.out
        rw [hi2] at hres
        simp only at hres
        by_cases hend : i + 4 + k + 2 = cs.length
        · rw [if_pos (by omega)] at hres
          have hcn : cnum cs (i + 4 + k + 2) = -1 := cnum_none (List.drop_eq_nil_of_le (by omega))
          simp only [hcn] at hc2
          have HRES : Hid (R = .error (21, pl cs cs.length)) := Lib.hid hres
          clear hpre hse hi2 hres hs3 hend hbadI hcn
          go_wp2
          go_quiet ((go_at_call 23; exact Calls.quiet_of (hh _)))
          go_wp2_with (first
            | (go_at_call 42; refine (hc2 _).mono ?_; rintro e w' ⟨rfl, rfl⟩)
            | (go_at_call 26; refine (hbadE _).mono ?_; rintro e w2 ⟨rfl, hs2, hb2⟩; obtain ⟨_, _, _, d3, _⟩ := hs2.cells; have g3 := hs2.free 3; have HS2 := Lib.hid hs2; have HB2 := Lib.hid hb2; clear hs2 hb2))
          refine bodyPost_ret (results_none rfl _ _ _) rfl ?_
          rw [HRES.out]
          exact ⟨HB.out.trans ((bar_drew b wr _).trans (HB2.out.trans (Bar.set _ 3 _))), _, i + 4 + k + 3, rfl, rfl, by omega, by simp, by simp, HS2.out.setz _ (i + 4 + k + 3) (by omega)⟩
        · rw [if_neg (by omega), hs3] at hres
          have hlt2 : i + 4 + k + 2 < cs.length := by omega
          obtain ⟨c, hcc⟩ : ∃ c, cs[i + 4 + k + 2]? = some c := ⟨_, List.getElem?_eq_getElem hlt2⟩
          have hcn : cnum cs (i + 4 + k + 2) = (c : Int) := cnum_some (drop_of hcc)
          rw [hcn] at hres
          simp only [hcn] at hc2
          have hc0 : ¬ ((c : Int) < 0) := by omega
          by_cases h62 : c = 62
          · subst h62
            rw [if_pos (by decide)] at hres
            have HRES : Hid (R = .ok (S cs (i + 4 + k + 3))) := Lib.hid hres
            clear hpre hse hi2 hres hs3 hend hbadI hbadE hcn hcc
            go_wp2
            go_quiet ((go_at_call 23; exact Calls.quiet_of (hh _)))
            go_wp2_with (go_at_call 42; refine (hc2 _).mono ?_; rintro e w' ⟨rfl, rfl⟩)
            refine bodyPost_ret (results_none rfl _ _ _) rfl ?_
            rw [HRES.out]
            exact ⟨HB.out.trans ((bar_drew b wr _).trans (Bar.set _ 3 _)), i + 4 + k + 3, rfl, by omega, rfl, (HS.out.drew _).setz _ (i + 4 + k + 3) (by omega)⟩
          · have n62 : ((c : Int) == 62) = false := by rw [beq_eq_false_iff_ne]; omega
            rw [if_neg (by simp; omega)] at hres
            have HRES : Hid (R = .error (21, pl cs (i + 4 + k))) := Lib.hid hres
            clear hpre hse hi2 hres hs3 hend hbadE hcn hcc
            go_wp2
            go_quiet ((go_at_call 23; exact Calls.quiet_of (hh _)))
            go_wp2_with (first
              | (go_at_call 42; refine (hc2 _).mono ?_; rintro e w' ⟨rfl, rfl⟩)
              | (go_at_call 26; refine (hbadI _).mono ?_; rintro e w2 ⟨rfl, hs2, hb2⟩; obtain ⟨_, _, _, d3, _⟩ := hs2.cells; have g3 := hs2.free 3; have HS2 := Lib.hid hs2; have HB2 := Lib.hid hb2; clear hs2 hb2))
            refine bodyPost_ret (results_none rfl _ _ _) rfl ?_
            rw [HRES.out]
            exact ⟨HB.out.trans ((bar_drew b wr _).trans (HB2.out.trans (Bar.set _ 3 _))), _, i + 4 + k + 3, rfl, rfl, by omega, by simp, by simp, HS2.out.setz _ (i + 4 + k + 3) (by omega)⟩
end Go.Proofs.YtdilngjolhmjnaaGreatDoor
namespace Go.Proofs.YtdilngjolhmjnaaGreatDoor
open Go.RowKit Go.Shelf
set_option linter.all false

def okS {α : Type} (r : Except K.Er (α × K.St)) : Except K.Er K.St := match r with
  | .ok (_, s) => .ok s
  | .error e => .error e
theorem idx_past (x : Nat) (t : List Nat) : ∀ (u l : List Nat), (∀ y ∈ u, y ≠ x) → K.idx (x :: t) (u ++ l) = (K.idx (x :: t) l).map (· + u.length)
  | [], l, _ => by simp
  | y :: u, l, h => by
    have hy : y ≠ x := h y List.mem_cons_self
    rw [List.cons_append]
    conv => lhs; unfold K.idx
    rw [if_neg (by simp [List.isPrefixOf]; intro e; exact absurd e.symm hy), idx_past x t u l (fun z hz => h z (List.mem_cons_of_mem _ hz))]
    cases K.idx (x :: t) l with
    | none => rfl
    | some n => simp; omega
/-- Blanks ahead make no difference to where a text is found. -/
theorem upTo_blanks (cs : List Nat) (j : Nat) : okS (K.upTo [63, 62] (K.blanks (S cs j))) = okS (K.upTo [63, 62] (S cs j)) := by
  have hb : K.blanks (S cs j) = S cs (j + K.nblank (S cs j)) := S_skip cs j _
  obtain ⟨s, h1, _⟩ := takeWhile_split K.blank (cs.drop j)
  have hm := takeWhile_mem K.blank (cs.drop j)
  have hn : K.nblank (S cs j) = ((cs.drop j).takeWhile K.blank).length := rfl
  obtain ⟨u, hu⟩ : ∃ u, (cs.drop j).takeWhile K.blank = u := ⟨_, rfl⟩
  rw [hu] at h1 hm hn
  have hs : cs.drop (j + u.length) = s := by rw [← List.drop_drop, h1]; simp
  have hi : K.idx [63, 62] (cs.drop j) = (K.idx [63, 62] s).map (· + u.length) := by
    rw [h1]
    exact idx_past 63 [62] u s (fun y hy => by have := hm y hy; unfold K.blank at this; simp at this; omega)
  rw [hb, hn]
  unfold K.upTo
  have e1 : (S cs (j + u.length)).1 = s := hs
  have e2 : (S cs j).1 = cs.drop j := rfl
  rw [e1, e2, hi]
  cases K.idx [63, 62] s with
  | none =>
    simp only [Option.map_none]
    show Except.error (21, K.advs (pl cs (j + u.length)) s) = Except.error (21, K.advs (pl cs j) (cs.drop j))
    rw [pl_all, ← hs, pl_all]
  | some n =>
    simp only [Option.map_some]
    show Except.ok (K.skip (S cs (j + u.length)) (n + [63, 62].length)) = Except.ok (K.skip (S cs j) (n + u.length + [63, 62].length))
    rw [S_skip, S_skip]
    congr 2
    omega
theorem instr_S {cs : List Nat} {i j : Nat} {n : List Nat} (h : K.name (S cs (i + 2)) = .ok (n, S cs j)) : K.instruction (S cs i) =
    if n.map K.low = [120, 109, 108] then .error (21, pl cs i) else if K.sees [63, 62] (S cs j) = true then .ok (S cs (j + 2)) else if K.nblank (S cs j) = 0 then .error (21, pl cs j) else okS (K.upTo [63, 62] (S cs j)) := by
  unfold K.instruction
  rw [S_skip, h]
  simp only
  by_cases hx : n.map K.low = [120, 109, 108]
  · rw [if_pos hx, if_pos hx]; rfl
  · rw [if_neg hx, if_neg hx]
    by_cases hs : K.sees [63, 62] (S cs j) = true
    · have hnb : K.nblank (S cs j) = 0 := by
        rw [sees_step, Bool.and_eq_true, decide_eq_true_eq] at hs
        rcases cnum_cases cs j with ⟨_, e⟩ | ⟨c, r, hd, e⟩
        · rw [e] at hs; omega
        · have hc : c = 63 := by rw [e] at hs; omega
          subst hc
          unfold K.nblank
          rw [S_eq, hd]
          rfl
      rw [if_pos hnb, if_pos hs]
      unfold K.want
      rw [if_pos hs, S_skip]
      rfl
    · rw [if_neg hs]
      by_cases hnb : K.nblank (S cs j) = 0
      · rw [if_pos hnb, if_pos hnb]
        unfold K.want
        rw [if_neg hs]
        rfl
      · rw [if_neg hnb, if_neg hnb, ← upTo_blanks]
        cases K.upTo [63, 62] (K.blanks (S cs j)) with
        | error e => rfl
        | ok q => obtain ⟨m, s⟩ := q; rfl
theorem instr_err {cs : List Nat} {i : Nat} {er : K.Er} (h : K.name (S cs (i + 2)) = .error er) : K.instruction (S cs i) = .error er := by
  unfold K.instruction
  rw [S_skip, h]
theorem nblank_zero (cs : List Nat) (j : Nat) : (match cs.drop j with | [] => false | c :: _ => K.blank c) = !decide (K.nblank (S cs j) = 0) := by
  unfold K.nblank
  rw [S_eq]
  cases cs.drop j with
  | nil => rfl
  | cons c r =>
    simp only [List.takeWhile_cons]
    cases K.blank c <;> simp

set_option maxHeartbeats 8000000 in
set_option maxRecDepth 100000 in
theorem instr_rf {b : Nat} {cs : List Nat} {T C A : Value} {i : Nat} {w : World} (hn : Sn b T C A i 0 (0, 0) w) (hr : Sr b cs T C A w) (hno : K.sees [60, 33, 45, 45] (S cs i) = false) (hsee : K.sees [60, 63] (S cs i) = true) :
    Calls Tryz.prog 24 #[.pointer (some ⟨b, 0, none⟩)] w (RPost b cs T C A w 5 unitV isUnit (okUnit (K.instruction (S cs i)))) := by
  have hlen := hr.len
  have hi2 : i + 2 ≤ cs.length := by
    have := (List.isPrefixOf_iff_prefix.1 hsee).length_le
    rw [S_eq] at this
    simp only [List.length_drop, List.length_cons, List.length_nil] at this
    omega
  obtain ⟨_, _, _, c3, _⟩ := hn.cells
  have f3 := hn.free 3
  have hh1 := here_any hn hr (by omega) [60, 33, 45, 45] (by unfold Small; decide) (by decide) ⟨#[60, 33, 45, 45]⟩ rfl
  rw [hno] at hh1
  have hnm : ∀ W, Sn b T C A (i + 2) 0 (0, 0) W → Sr b cs T C A W → Calls Tryz.prog 45 #[.pointer (some ⟨b, 0, none⟩)] W (RPost b cs T C A W 0 strN (badStr 300000) (K.name (S cs (i + 2)))) := fun W h1 h2 => name_rf h1 h2 hi2
  have HN := Lib.hid hn
  have HR := Lib.hid hr
  obtain ⟨R, hR⟩ : ∃ R, K.instruction (S cs i) = R := ⟨_, rfl⟩
  rw [hR]
  cases hk : K.name (S cs (i + 2)) with
  | error er =>
    rw [hk] at hnm
    have HRES : Hid (R = .error er) := Lib.hid (hR.symm.trans (instr_err hk))
    have HNM := Lib.hid hnm
    clear hn hr hno hsee hk hR hnm
    go_enter Tryz.func24, Tryz.ntmps24
    go_wp2_with (first
      | (go_at_call 23; refine hh1.mono ?_; rintro e w1 ⟨rfl, n1, rfl⟩)
      | (go_at_call 45; refine (HNM.out _ ((HN.out.drew _).setz _ (i + 2) (by omega)) (HR.out.bar ((bar_drew b w _).trans (Bar.set _ 3 _)))).mono ?_; rintro e w2 ⟨hb2, z, j, rfl, ⟨zo, rfl, hzo⟩, hj, he1, he2, hs2⟩; have hsm := small_rf zo.data.toList (by have : zo.data.toList.length = zo.size := Array.length_toList; omega) w2; rw [bs_data] at hsm; have HS2 := Lib.hid hs2; have HB2 := Lib.hid hb2; clear hs2 hb2)
      | (go_at_call 44; refine hsm.mono ?_; rintro e w3 ⟨rfl, hb3⟩; have hs3 := HS2.out.keep hb3; obtain ⟨_, _, _, d3, d4⟩ := hs3.cells; have g3 := hs3.free 3; have hno3 := bad_no hs3 (show er.1 ≠ 0 by omega) (i : Int) 21; have HS3 := Lib.hid hs3; have HB3 := Lib.hid hb3; have hne : ((er.1 : Int) == 0) = false := (by rw [beq_eq_false_iff_ne]; omega); have hne2 : ((er.1 : Int) != 0) = true := (by rw [bne_iff_ne]; omega); clear hs3 hb3)
      | (go_at_call 26; refine hno3.mono ?_; rintro e w4 ⟨rfl, rfl⟩))
    all_goals (refine bodyPost_ret (results_none rfl _ _ _) rfl ?_; rw [HRES.out]; exact ⟨((((bar_drew b w _).trans (Bar.set _ 3 _)).trans HB2.out).bel HB3.out).trans (Bar.set _ 3 _), _, j + 2, rfl, rfl, by omega, he1, he2, HS3.out.setz _ (j + 2) (by omega)⟩)
  | ok q =>
    obtain ⟨n, s1⟩ := q
    obtain ⟨j, rfl, hij, hjl⟩ := S_goes (name_goes hk) hi2
    rw [hk] at hnm
    have hscn : K.Sc n := (name_facts hk (hr.sc.drop _)).1
    have hin := instr_S hk
    rw [hR] at hin
    have hnl : (U.n8 n).length ≤ 300000 := by
      have h1 := n8_len4 n
      have h2 : n.length ≤ cs.length := by
        have h3 : n = (S cs (i + 2)).1.takeWhile K.goes := by
          unfold K.name at hk
          split at hk
          · split at hk
            · cases hk
            · simp only [Except.ok.injEq, Prod.mk.injEq] at hk; exact hk.1.symm
          · cases hk
        rw [h3]
        have := (takeWhile_run K.goes (S cs (i + 2)).1).1
        rw [S_eq] at this ⊢
        simp only [List.length_drop] at this ⊢
        omega
      omega
    have HSM := Lib.hid (fun W => small_rf (U.n8 n) hnl W)
    have HNM := Lib.hid hnm
    have HH := Lib.hid (fun W (h1 : Sn b T C A j 0 (0, 0) W) (h2 : Sr b cs T C A W) => here_any h1 h2 (by omega) [63, 62] (by unfold Small; decide) (by decide) ⟨#[63, 62]⟩ rfl)
    have HBD := Lib.hid (fun W (h1 : Sn b T C A j 0 (0, 0) W) (h2 : Sr b cs T C A W) => bad_ok h1 h2 i (by omega) 21)
    have hq := cmp_low hscn (t := [120, 109, 108]) (by unfold Small; decide) [120, 109, 108] rfl _ rfl
    by_cases hx : n.map K.low = [120, 109, 108]
    · rw [if_pos hx] at hin
      have HRES := Lib.hid hin
      rw [decide_eq_true hx] at hq
      clear hn hr hno hsee hk hR hnm hscn hin hnl hx
      go_enter Tryz.func24, Tryz.ntmps24
      go_wp2_with (first
        | (go_at_call 23; first
          | (with_reducible refine hh1.mono ?_; rintro e w1 ⟨rfl, n1, rfl⟩)
          | (with_reducible refine (HH.out _ HS3.out HR3.out).mono ?_; rintro e w4 ⟨rfl, n2, rfl⟩))
        | (go_at_call 45; refine (HNM.out _ ((HN.out.drew _).setz _ (i + 2) (by omega)) (HR.out.bar ((bar_drew b w _).trans (Bar.set _ 3 _)))).mono ?_; rintro e w2 ⟨hb2, j2, hj2, hjl2, rfl, hs2⟩; obtain rfl := S_inj hjl hjl2 hj2; have hsm := HSM.out w2; have HS2 := Lib.hid hs2; have HB2 := Lib.hid (((bar_drew b w _).trans (Bar.set _ 3 _)).trans hb2); clear hs2 hb2 hj2 hjl2)
        | (go_at_call 44; refine hsm.mono ?_; rintro e w3 ⟨rfl, hb3⟩; have hs3 := HS2.out.keep hb3; obtain ⟨_, _, _, d3, d4⟩ := hs3.cells; have g3 := hs3.free 3; have HS3 := Lib.hid hs3; have HB3 := Lib.hid (HB2.out.bel hb3); have HR3 := Lib.hid (HR.out.bar HB3.out); have hbd := HBD.out w3 HS3.out HR3.out; rw [Nat.min_eq_left (by omega)] at hbd; clear hs3 hb3)
        | (go_at_call 26; refine hbd.mono ?_; rintro e w4 ⟨rfl, hs4, hb4⟩; obtain ⟨_, _, _, k3, k4⟩ := hs4.cells; have m3 := hs4.free 3; have HS4 := Lib.hid hs4; have HB4 := Lib.hid hb4; clear hs4 hb4))
      refine bodyPost_ret (results_none rfl _ _ _) rfl ?_
      rw [HRES.out]
      exact ⟨(HB3.out.trans HB4.out).trans (Bar.set _ 3 _), _, j + 2, rfl, rfl, by omega, by simp, by simp, HS4.out.setz _ (j + 2) (by omega)⟩
    · rw [if_neg hx] at hin
      rw [decide_eq_false hx] at hq
      have hbl0 := fun W => refBlank_any (cs.drop j) W
      have hbl1 : ∀ W, Calls Tryz.prog 41 #[.int .i64 (cnum cs j)] W fun e w' => e = .returned (.bool (!decide (K.nblank (S cs j) = 0))) ∧ W = w' := by
        intro W
        rw [← nblank_zero]
        exact hbl0 W
      have HCc := Lib.hid (fun W (h1 : Sn b T C A j 0 (0, 0) W) (h2 : Sr b cs T C A W) => c_any h1 h2 j (by omega))
      cases hs : K.sees [63, 62] (S cs j) with
      | true =>
        have HP2 : Hid (j + 2 ≤ cs.length) := Lib.hid (by
          have := (List.isPrefixOf_iff_prefix.1 hs).length_le
          rw [S_eq] at this
          simp only [List.length_drop, List.length_cons, List.length_nil] at this
          omega)
        rw [hs, if_pos rfl] at hin
        rw [hs] at HH
        have HRES := Lib.hid hin
        have HBl := Lib.hid hbl1
        clear hn hr hno hsee hk hR hnm hscn hin hnl hx hbl0 hbl1 hs
        go_enter Tryz.func24, Tryz.ntmps24
        go_wp2_with (first
          | (go_at_call 23; first
            | (with_reducible refine hh1.mono ?_; rintro e w1 ⟨rfl, n1, rfl⟩)
            | (with_reducible refine (HH.out _ HS3.out HR3.out).mono ?_; rintro e w4 ⟨rfl, n2, rfl⟩))
          | (go_at_call 45; refine (HNM.out _ ((HN.out.drew _).setz _ (i + 2) (by omega)) (HR.out.bar ((bar_drew b w _).trans (Bar.set _ 3 _)))).mono ?_; rintro e w2 ⟨hb2, j2, hj2, hjl2, rfl, hs2⟩; obtain rfl := S_inj hjl hjl2 hj2; have hsm := HSM.out w2; have HS2 := Lib.hid hs2; have HB2 := Lib.hid (((bar_drew b w _).trans (Bar.set _ 3 _)).trans hb2); clear hs2 hb2 hj2 hjl2)
          | (go_at_call 44; refine hsm.mono ?_; rintro e w3 ⟨rfl, hb3⟩; have hs3 := HS2.out.keep hb3; obtain ⟨_, _, _, d3, d4⟩ := hs3.cells; have g3 := hs3.free 3; have HS3 := Lib.hid hs3; have HB3 := Lib.hid (HB2.out.bel hb3); have HR3 := Lib.hid (HR.out.bar HB3.out); clear hs3 hb3)
          | (go_at_call 42; refine (HCc.out _ (HS3.out.drew _) (HR3.out.bar (bar_drew b w3 _))).mono ?_; rintro e w5 ⟨rfl, rfl⟩)
          | (go_at_call 41; refine (HBl.out _).mono ?_; rintro e w5 ⟨rfl, rfl⟩)
    )
        refine bodyPost_ret (results_none rfl _ _ _) rfl ?_
        rw [HRES.out]
        exact ⟨HB3.out.trans ((bar_drew b w3 _).trans (Bar.set _ 3 _)), j + 2, rfl, by have := HP2.out; omega, rfl, (HS3.out.drew _).setz _ (j + 2) (by omega)⟩
      | false =>
        rw [hs, if_neg Bool.false_ne_true] at hin
        rw [hs] at HH
        by_cases hnb : K.nblank (S cs j) = 0
        · rw [if_pos hnb] at hin
          rw [decide_eq_true hnb] at hbl1
          have HRES := Lib.hid hin
          have HBl := Lib.hid hbl1
          have HBJ := Lib.hid (fun W (h1 : Sn b T C A j 0 (0, 0) W) (h2 : Sr b cs T C A W) => bad_ok h1 h2 j (by omega) 21)
          clear hn hr hno hsee hk hR hnm hscn hin hnl hx hbl0 hbl1 hs hnb
          go_enter Tryz.func24, Tryz.ntmps24
          go_wp2_with (first
            | (go_at_call 23; first
              | (with_reducible refine hh1.mono ?_; rintro e w1 ⟨rfl, n1, rfl⟩)
              | (with_reducible refine (HH.out _ HS3.out HR3.out).mono ?_; rintro e w4 ⟨rfl, n2, rfl⟩))
            | (go_at_call 45; refine (HNM.out _ ((HN.out.drew _).setz _ (i + 2) (by omega)) (HR.out.bar ((bar_drew b w _).trans (Bar.set _ 3 _)))).mono ?_; rintro e w2 ⟨hb2, j2, hj2, hjl2, rfl, hs2⟩; obtain rfl := S_inj hjl hjl2 hj2; have hsm := HSM.out w2; have HS2 := Lib.hid hs2; have HB2 := Lib.hid (((bar_drew b w _).trans (Bar.set _ 3 _)).trans hb2); clear hs2 hb2 hj2 hjl2)
            | (go_at_call 44; refine hsm.mono ?_; rintro e w3 ⟨rfl, hb3⟩; have hs3 := HS2.out.keep hb3; obtain ⟨_, _, _, d3, d4⟩ := hs3.cells; have g3 := hs3.free 3; have HS3 := Lib.hid hs3; have HB3 := Lib.hid (HB2.out.bel hb3); have HR3 := Lib.hid (HR.out.bar HB3.out); clear hs3 hb3)
            | (go_at_call 42; refine (HCc.out _ (HS3.out.drew _) (HR3.out.bar (bar_drew b w3 _))).mono ?_; rintro e w5 ⟨rfl, rfl⟩)
            | (go_at_call 41; refine (HBl.out _).mono ?_; rintro e w5 ⟨rfl, rfl⟩)
            | (go_at_call 26; refine (HBJ.out _ (HS3.out.drew _) (HR3.out.bar (bar_drew b w3 _))).mono ?_; rintro e w6 ⟨rfl, hs6, hb6⟩; rw [Nat.min_eq_left hjl] at hs6; have HB6 := Lib.hid (HB3.out.trans ((bar_drew b w3 _).trans hb6)); have hto := to_bad (show (21 : Nat) ≠ 0 by decide) hs6 (HR.out.bar HB6.out) hjl [63, 62] (by unfold Small; decide) (by simp) (by decide) ⟨#[63, 62]⟩ rfl; clear hs6 hb6)
            | (go_at_call 25; refine hto.mono ?_; rintro e w7 ⟨⟨z, rfl⟩, hb7, j7, hj7, hs7⟩))
          go_end0
          rw [HRES.out]
          exact ⟨HB6.out.trans hb7, _, j7, rfl, rfl, by omega, by simp, by simp, hs7⟩
        · rw [if_neg hnb] at hin
          rw [decide_eq_false hnb] at hbl1
          have HBl := Lib.hid hbl1
          have hto : ∀ W, Sn b T C A j 0 (0, 0) W → Sr b cs T C A W → Calls Tryz.prog 25 #[.pointer (some ⟨b, 0, none⟩), .string ⟨#[63, 62]⟩] W (RPost b cs T C A W 0 strN (badStr 300000) (K.upTo [63, 62] (S cs j))) := fun W h1 h2 => to_rf h1 h2 hjl [63, 62] (by unfold Small; decide) (by simp) (by decide) ⟨#[63, 62]⟩ rfl
          cases hu : K.upTo [63, 62] (S cs j) with
          | error er =>
            rw [hu] at hin hto
            have HRES : Hid (R = .error er) := Lib.hid hin
            have HTO := Lib.hid hto
            clear hn hr hno hsee hk hR hnm hscn hin hnl hx hbl0 hbl1 hs hnb hto hu
            go_enter Tryz.func24, Tryz.ntmps24
            go_wp2_with (first
              | (go_at_call 23; first
                | (with_reducible refine hh1.mono ?_; rintro e w1 ⟨rfl, n1, rfl⟩)
                | (with_reducible refine (HH.out _ HS3.out HR3.out).mono ?_; rintro e w4 ⟨rfl, n2, rfl⟩))
              | (go_at_call 45; refine (HNM.out _ ((HN.out.drew _).setz _ (i + 2) (by omega)) (HR.out.bar ((bar_drew b w _).trans (Bar.set _ 3 _)))).mono ?_; rintro e w2 ⟨hb2, j2, hj2, hjl2, rfl, hs2⟩; obtain rfl := S_inj hjl hjl2 hj2; have hsm := HSM.out w2; have HS2 := Lib.hid hs2; have HB2 := Lib.hid (((bar_drew b w _).trans (Bar.set _ 3 _)).trans hb2); clear hs2 hb2 hj2 hjl2)
              | (go_at_call 44; refine hsm.mono ?_; rintro e w3 ⟨rfl, hb3⟩; have hs3 := HS2.out.keep hb3; obtain ⟨_, _, _, d3, d4⟩ := hs3.cells; have g3 := hs3.free 3; have HS3 := Lib.hid hs3; have HB3 := Lib.hid (HB2.out.bel hb3); have HR3 := Lib.hid (HR.out.bar HB3.out); clear hs3 hb3)
              | (go_at_call 42; refine (HCc.out _ (HS3.out.drew _) (HR3.out.bar (bar_drew b w3 _))).mono ?_; rintro e w5 ⟨rfl, rfl⟩)
              | (go_at_call 41; refine (HBl.out _).mono ?_; rintro e w5 ⟨rfl, rfl⟩)
              | (go_at_call 25; refine (HTO.out _ (HS3.out.drew _) (HR3.out.bar (bar_drew b w3 _))).mono ?_; rintro e w7 ⟨hb7, z, j7, rfl, ⟨zo, rfl, hzo⟩, hj7, he1, he2, hs7⟩))
            go_end0
            rw [HRES.out]
            exact ⟨HB3.out.trans ((bar_drew b w3 _).trans hb7), _, j7, rfl, rfl, by omega, he1, he2, hs7⟩
          | ok z =>
            obtain ⟨m, s2⟩ := z
            rw [hu] at hin hto
            have HRES : Hid (R = .ok s2) := Lib.hid hin
            have HTO := Lib.hid hto
            clear hn hr hno hsee hk hR hnm hscn hin hnl hx hbl0 hbl1 hs hnb hto hu
            go_enter Tryz.func24, Tryz.ntmps24
            go_wp2_with (first
              | (go_at_call 23; first
                | (with_reducible refine hh1.mono ?_; rintro e w1 ⟨rfl, n1, rfl⟩)
                | (with_reducible refine (HH.out _ HS3.out HR3.out).mono ?_; rintro e w4 ⟨rfl, n2, rfl⟩))
              | (go_at_call 45; refine (HNM.out _ ((HN.out.drew _).setz _ (i + 2) (by omega)) (HR.out.bar ((bar_drew b w _).trans (Bar.set _ 3 _)))).mono ?_; rintro e w2 ⟨hb2, j2, hj2, hjl2, rfl, hs2⟩; obtain rfl := S_inj hjl hjl2 hj2; have hsm := HSM.out w2; have HS2 := Lib.hid hs2; have HB2 := Lib.hid (((bar_drew b w _).trans (Bar.set _ 3 _)).trans hb2); clear hs2 hb2 hj2 hjl2)
              | (go_at_call 44; refine hsm.mono ?_; rintro e w3 ⟨rfl, hb3⟩; have hs3 := HS2.out.keep hb3; obtain ⟨_, _, _, d3, d4⟩ := hs3.cells; have g3 := hs3.free 3; have HS3 := Lib.hid hs3; have HB3 := Lib.hid (HB2.out.bel hb3); have HR3 := Lib.hid (HR.out.bar HB3.out); clear hs3 hb3)
              | (go_at_call 42; refine (HCc.out _ (HS3.out.drew _) (HR3.out.bar (bar_drew b w3 _))).mono ?_; rintro e w5 ⟨rfl, rfl⟩)
              | (go_at_call 41; refine (HBl.out _).mono ?_; rintro e w5 ⟨rfl, rfl⟩)
              | (go_at_call 25; refine (HTO.out _ (HS3.out.drew _) (HR3.out.bar (bar_drew b w3 _))).mono ?_; rintro e w7 ⟨hb7, j7, rfl, hj7, rfl, hs7⟩))
            go_end0
            rw [HRES.out]
            exact ⟨HB3.out.trans ((bar_drew b w3 _).trans hb7), j7, rfl, hj7, rfl, hs7⟩
end Go.Proofs.YtdilngjolhmjnaaGreatDoor
