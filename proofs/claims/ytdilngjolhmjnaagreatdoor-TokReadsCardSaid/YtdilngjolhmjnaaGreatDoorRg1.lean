/- The document's own reading, by places in a list of characters: plain facts. No conditions but those that each fact names. The document's own reading: its block and its rows, and the small looks: C, Here, Bad. Conditions: those that each theorem names. The document's own reading: Bad, Blanks, One, Part, Name, To. Conditions: those that each theorem names. The document's own reading: Name, To, small. Conditions: those that each theorem names. The document's own reading: To, small. Conditions: those that each theorem names. The document's own reckoning of a reference's digits. Conditions: those that each theorem names. -/
import Derived.Test.YtdilngjolhmjnaaGreatDoorRemK
import Derived.Test.YtdilngjolhmjnaaGreatDoorRisesP
import Derived.Test.YtdilngjolhmjnaaGreatDoorSame
import Derived.Test.YtdilngjolhmjnaaGreatDoorLawLines
import Derived.Deep.QuietTactic
import Derived.BigQuiet
import Derived.IntWalk
import Derived.StillTailTactics
namespace Go.Proofs.YtdilngjolhmjnaaGreatDoor
open Go.RowKit Go.Shelf
set_option linter.all false

/-- The characters from a place on, and where they stand. -/
def S (cs : List Nat) (i : Nat) : K.St := K.skip (cs, (1, 1)) i
def pl (cs : List Nat) (i : Nat) : K.Pl := K.advs (1, 1) (cs.take i)
theorem S_eq (cs : List Nat) (i : Nat) : S cs i = (cs.drop i, pl cs i) := rfl
theorem S_zero (cs : List Nat) : S cs 0 = (cs, (1, 1)) := rfl
theorem S_skip (cs : List Nat) (i k : Nat) : K.skip (S cs i) k = S cs (i + k) := K.skip_skip _ i k
theorem drop_at {cs : List Nat} {i : Nat} {c : Nat} {r : List Nat} (h : cs.drop i = c :: r) : i < cs.length ∧ cs[i]? = some c ∧ cs.drop (i + 1) = r := by
  have h1 : i < cs.length := by
    rcases Nat.lt_or_ge i cs.length with h1 | h1
    · exact h1
    · rw [List.drop_eq_nil_of_le h1] at h; cases h
  rw [List.drop_eq_getElem_cons h1] at h
  obtain ⟨h2, h3⟩ := List.cons.inj h
  exact ⟨h1, by rw [List.getElem?_eq_getElem h1, h2], h3⟩
theorem drop_of {cs : List Nat} {i : Nat} {c : Nat} (h : cs[i]? = some c) : cs.drop i = c :: cs.drop (i + 1) := by
  obtain ⟨h1, h2⟩ := List.getElem?_eq_some_iff.1 h
  rw [List.drop_eq_getElem_cons h1, h2]
theorem pl_next {cs : List Nat} {i : Nat} {c : Nat} (h : cs[i]? = some c) : pl cs (i + 1) = K.adv (pl cs i) c := by
  unfold pl
  obtain ⟨h1, h2⟩ := List.getElem?_eq_some_iff.1 h
  rw [List.take_succ_eq_append_getElem h1, K.advs_append, h2]
  rfl
theorem S_cons {cs : List Nat} {i : Nat} {c : Nat} {r : List Nat} (h : cs.drop i = c :: r) : S cs i = (c :: r, pl cs i) ∧ S cs (i + 1) = (r, K.adv (pl cs i) c) := by
  obtain ⟨h1, h2, h3⟩ := drop_at h
  exact ⟨by rw [S_eq, h], by rw [S_eq, h3, pl_next h2]⟩
/-- What is eaten leads from place to place. -/
theorem S_goes {cs : List Nat} {i : Nat} {s1 : K.St} (h : Goes (S cs i) s1) (hi : i ≤ cs.length) : ∃ j, s1 = S cs j ∧ i ≤ j ∧ j ≤ cs.length := by
  obtain ⟨a, h1, h2⟩ := h
  have h3 : cs.drop i = a ++ s1.1 := h1
  have hl : cs.length - i = a.length + s1.1.length := by have := congrArg List.length h3; rwa [List.length_drop, List.length_append] at this
  refine ⟨i + a.length, ?_, by omega, by omega⟩
  rw [← S_skip]
  unfold K.skip
  refine Prod.ext ?_ ?_
  · show s1.1 = (cs.drop i).drop a.length
    rw [h3]; simp
  · show s1.2 = K.advs (S cs i).2 ((cs.drop i).take a.length)
    rw [h3, h2]; simp
theorem S_inj {cs : List Nat} {i j : Nat} (hi : i ≤ cs.length) (hj : j ≤ cs.length) (h : S cs i = S cs j) : i = j := by
  have := congrArg (fun s => s.1.length) h
  simp only [S_eq, List.length_drop] at this
  omega
/-- A character's number, -1 at the end. -/
abbrev cnum (cs : List Nat) (i : Nat) : Int := num (cs.drop i)
theorem cnum_none {cs : List Nat} {i : Nat} (h : cs.drop i = []) : cnum cs i = -1 := by unfold cnum; rw [h]; rfl
theorem cnum_some {cs : List Nat} {i c : Nat} {r : List Nat} (h : cs.drop i = c :: r) : cnum cs i = (c : Int) := by unfold cnum; rw [h]; rfl
theorem cnum_cases (cs : List Nat) (i : Nat) : (cs.drop i = [] ∧ cnum cs i = -1) ∨ ∃ c r, cs.drop i = c :: r ∧ cnum cs i = (c : Int) := by
  cases h : cs.drop i with
  | nil => exact .inl ⟨rfl, cnum_none h⟩
  | cons c r => exact .inr ⟨c, r, rfl, cnum_some h⟩
theorem sees_empty (s : K.St) : K.sees [] s = true := by unfold K.sees; simp [List.isPrefixOf]
theorem sees_step (x : Nat) (t : List Nat) (cs : List Nat) (i : Nat) : K.sees (x :: t) (S cs i) = (decide (cnum cs i = (x : Int)) && K.sees t (S cs (i + 1))) := by
  rcases cnum_cases cs i with ⟨h, e⟩ | ⟨c, r, h, e⟩
  · rw [e]
    have : ¬ ((-1 : Int) = (x : Int)) := by omega
    rw [decide_eq_false this]
    unfold K.sees
    rw [S_eq, h]
    rfl
  · rw [e]
    obtain ⟨h1, h2⟩ := S_cons h
    unfold K.sees
    rw [h1, h2]
    simp only [List.isPrefixOf]
    by_cases hx : x = c
    · subst hx; simp
    · have : ¬ ((c : Int) = (x : Int)) := by omega
      rw [decide_eq_false this]
      simp [hx]
/-- Up to which place blanks stand. -/
theorem tw_at (p : Nat → Bool) (l : List Nat) (k : Nat) (hk : k ≤ (l.takeWhile p).length) : (k < (l.takeWhile p).length ∧ ∃ c r, l.drop k = c :: r ∧ p c = true) ∨
    (k = (l.takeWhile p).length ∧ (l.drop k = [] ∨ ∃ c r, l.drop k = c :: r ∧ p c = false)) := by
  obtain ⟨s, h1, h2⟩ := takeWhile_split p l
  have hm := takeWhile_mem p l
  obtain ⟨u, hu⟩ : ∃ u, l.takeWhile p = u := ⟨_, rfl⟩
  rw [hu] at h1 hm hk ⊢
  rcases Nat.lt_or_ge k u.length with hlt | hge
  · refine .inl ⟨hlt, u[k], u.drop (k + 1) ++ s, ?_, hm _ (List.getElem_mem hlt)⟩
    rw [h1, List.drop_append_of_le_length (by omega), List.drop_eq_getElem_cons hlt]
    rfl
  · obtain rfl : k = u.length := by omega
    refine .inr ⟨rfl, ?_⟩
    have hd : l.drop u.length = s := by rw [h1]; simp
    rw [hd]
    cases s with
    | nil => exact .inl rfl
    | cons c r => exact .inr ⟨c, r, rfl, h2 c r rfl⟩
theorem meant_low {B : List Nat} {x : Nat} (h : K.meant B = some x) : ∀ c ∈ B, c ≤ 127 := by
  have hdig : ∀ {base c d : Nat}, K.digit base c = some d → c ≤ 127 := by
    intro base c d h
    unfold K.digit at h
    split at h
    · omega
    · split at h
      · omega
      · split at h
        · omega
        · cases h
  have hnf : ∀ (base : Nat) (l : List Nat) (v x : Nat), K.numF base l v = some x → ∀ c ∈ l, c ≤ 127 := by
    intro base l
    induction l with
    | nil => intro v x _ c hc; simp at hc
    | cons a l ih =>
      intro v x h c hc
      unfold K.numF at h
      split at h
      · cases h
      · rename_i d hd
        rcases List.mem_cons.1 hc with rfl | hc
        · exact hdig hd
        · exact ih _ x h c hc
  have hni : ∀ {base : Nat} {l : List Nat} {x : Nat}, K.numIn base l = some x → ∀ c ∈ l, c ≤ 127 := by
    intro base l x h
    unfold K.numIn at h
    split at h
    · cases h
    · split at h
      · cases h
      · rename_i v hv
        exact hnf base l 0 v hv
  unfold K.meant at h
  split at h
  · rename_i e; subst e; decide
  split at h
  · rename_i e; subst e; decide
  split at h
  · rename_i e; subst e; decide
  split at h
  · rename_i e; subst e; decide
  split at h
  · rename_i e; subst e; decide
  split at h
  · rename_i ds _ _ _ _ _
    have hds : ∀ c ∈ ds, c ≤ 127 := by
      unfold K.numOf at h
      split at h
      · rename_i r
        intro c hc
        rcases List.mem_cons.1 hc with rfl | hc
        · decide
        · exact hni h c hc
      · exact hni h
    intro c hc
    rcases List.mem_cons.1 hc with rfl | hc
    · decide
    · exact hds c hc
  · cases h
/-- A reference, by the place of its end. -/
theorem ref_end (l : List Nat) (k : Nat) (h59 : ∀ y ∈ l.take k, y ≠ 59) : (∀ r, l.drop k = 59 :: r → K.refOf l = (K.meant (l.take k)).map fun c => (c, k + 2)) ∧ (l.drop k = [] → K.refOf l = none) ∧
    (∀ c r, l.drop k = c :: r → 127 < c → K.refOf l = none) := by
  have hy : ∀ y ∈ l.take k, (y != 59) = true := fun y hy => by simpa using h59 y hy
  refine ⟨fun r h => ?_, fun h => ?_, fun c r h hc => ?_⟩
  · have hl : l = l.take k ++ 59 :: r := by rw [← h, List.take_append_drop]
    have ht : l.takeWhile (fun c : Nat => c != 59) = l.take k := by
      conv => lhs; rw [hl]
      exact takeWhile_stop _ 59 (by decide) _ _ hy
    have hk : (l.take k).length = k := by
      have : k < l.length := (drop_at h).1
      rw [List.length_take]; omega
    have hlen : l.length ≠ k := by have := (drop_at h).1; omega
    unfold K.refOf
    rw [ht, hk, if_neg (fun e => hlen e.symm)]
    cases K.meant (l.take k) <;> rfl
  · have hl : l.take k = l := List.take_of_length_le (by simpa using h)
    rw [hl] at hy
    have ht : l.takeWhile (fun c : Nat => c != 59) = l := by
      have := K.takeWhile_all (fun c : Nat => c != 59) l [] hy
      simpa using this
    unfold K.refOf
    rw [ht, if_pos rfl]
  · unfold K.refOf
    split
    · rfl
    · cases hm : K.meant (l.takeWhile (fun c : Nat => c != 59)) with
      | none => rfl
      | some x =>
        exfalso
        have hl : l = l.take k ++ c :: r := by rw [← h, List.take_append_drop]
        have hmem : c ∈ l.takeWhile (fun c : Nat => c != 59) := by
          rw [hl, K.takeWhile_all _ _ _ hy, List.takeWhile_cons, if_pos (by simp; omega)]
          simp
        have := meant_low hm c hmem
        omega
/-- The document's own reckoning of digits: never beyond 110000 (in sixteens). -/
def numC (base : Nat) : List Nat → Nat → Option Nat
  | [], v => some v
  | c :: r, v => match K.digit base c with
    | none => none
    | some d => numC base r (min (v * base + d) 1114112)
theorem numC_num (base : Nat) (hb : 2 ≤ base) : ∀ (l : List Nat) (v : Nat), numC base l (min v 1114112) = (K.numF base l v).map (min · 1114112)
  | [], v => rfl
  | c :: l, v => by
    unfold numC K.numF
    cases K.digit base c with
    | none => rfl
    | some d =>
      simp only
      rw [← numC_num base hb l (v * base + d)]
      congr 1
      have h1 : v * 2 ≤ v * base := Nat.mul_le_mul_left v hb
      have h2 : 1114112 * 2 ≤ 1114112 * base := Nat.mul_le_mul_left _ hb
      rcases Nat.le_total v 1114112 with h | h
      · rw [Nat.min_eq_left h]
      · rw [Nat.min_eq_right h]
        have h3 : 1114112 * base ≤ v * base := Nat.mul_le_mul_right _ h
        omega
theorem cap_allowed (v : Nat) : (K.allowed (min v 1114112) || decide (min v 1114112 = 13)) = (K.allowed v || decide (v = 13)) := by
  rcases Nat.lt_or_ge v 1114112 with h | h
  · rw [Nat.min_eq_left (by omega)]
  · rw [Nat.min_eq_right h]
    have h1 : K.allowed v = false := by unfold K.allowed; rw [if_neg (by omega)]; simp; omega
    have h2 : decide (v = 13) = false := by simp; omega
    rw [h1, h2]
    decide
theorem numIn_C (base : Nat) (hb : 2 ≤ base) (l : List Nat) : K.numIn base l = if l = [] then none else match numC base l 0 with
    | none => none
    | some v => if K.allowed v || decide (v = 13) then some v else none := by
  unfold K.numIn
  split
  · rfl
  · have h := numC_num base hb l 0
    rw [Nat.min_eq_left (by omega)] at h
    rw [h]
    cases hn : K.numF base l 0 with
    | none => rfl
    | some v =>
      simp only [Option.map_some]
      rw [cap_allowed]
      rcases Nat.lt_or_ge v 1114112 with hv | hv
      · rw [Nat.min_eq_left (by omega)]
      · have h1 : K.allowed v = false := by unfold K.allowed; rw [if_neg (by omega)]; simp; omega
        have h2 : decide (v = 13) = false := by simp; omega
        rw [h1, h2]
        rfl
/-- The document's own look at a declaration's attributes, one by one: what is wanted next, and whether all was right. -/
def dclNext (q : Nat × Bool) (a : K.At) : Nat × Bool :=
  if a.1 = K.kVersion ∧ q.1 = 0 ∧ a.2.1 = K.k10 then (1, q.2)
  else if a.1 = K.kEncoding ∧ q.1 = 1 ∧ a.2.1.map K.low = K.kUtf8 then (2, q.2)
  else if a.1 = K.kStandalone ∧ (q.1 = 1 ∨ q.1 = 2) ∧ (a.2.1 = K.kYes ∨ a.2.1 = K.kNo) then (3, q.2)
  else (q.1, false)
def dclAll (l : List K.At) (q : Nat × Bool) : Nat × Bool := l.foldl dclNext q
theorem dclAll_false : ∀ (l : List K.At) (q : Nat × Bool), q.2 = false → (dclAll l q).2 = false
  | [], q, h => h
  | a :: l, q, h => by
    have : (dclNext q a).2 = false := by
      unfold dclNext
      repeat' split
      all_goals first | exact h | rfl
    exact dclAll_false l _ this
theorem dclAll_3 : ∀ (l : List K.At) (b : Bool), (dclAll l (3, b)).2 = (b && decide (l = [])) ∧ (dclAll l (3, b)).1 = 3
  | [], b => by simp [dclAll]
  | a :: l, b => by
    have hn : dclNext (3, b) a = (3, false) := by
      unfold dclNext
      rw [if_neg (by simp), if_neg (by simp), if_neg (by simp)]
    obtain ⟨h1, h2⟩ := dclAll_3 l false
    have : dclAll (a :: l) (3, b) = dclAll l (3, false) := by show dclAll l (dclNext (3, b) a) = _; rw [hn]
    rw [this]
    exact ⟨by rw [h1]; simp, h2⟩
theorem kx : K.kVersion ≠ K.kEncoding ∧ K.kVersion ≠ K.kStandalone ∧ K.kEncoding ≠ K.kStandalone := by decide
theorem noAlone_pos {n v : List Nat} {p : K.Pl} {l : List K.At} (h : n = K.kStandalone ∧ (v = K.kYes ∨ v = K.kNo)) : K.noAlone ((n, v, p) :: l) = l := by
  unfold K.noAlone; simp only; rw [if_pos h]
theorem noAlone_neg {n v : List Nat} {p : K.Pl} {l : List K.At} (h : ¬ (n = K.kStandalone ∧ (v = K.kYes ∨ v = K.kNo))) : K.noAlone ((n, v, p) :: l) = (n, v, p) :: l := by
  unfold K.noAlone; simp only; rw [if_neg h]
theorem noEnc_pos {n v : List Nat} {p : K.Pl} {l : List K.At} (h : n = K.kEncoding ∧ v.map K.low = K.kUtf8) : K.noEnc ((n, v, p) :: l) = l := by
  unfold K.noEnc; simp only; rw [if_pos h]
theorem dclAll_2 (l : List K.At) (b : Bool) : (dclAll l (2, b)).2 = (b && decide (K.noAlone l = [])) ∧ (dclAll l (2, b)).1 ≠ 0 := by
  match l with
  | [] => simp [dclAll, K.noAlone]
  | (n, v, p) :: l =>
    by_cases h : n = K.kStandalone ∧ (v = K.kYes ∨ v = K.kNo)
    · have hn : dclNext (2, b) (n, v, p) = (3, b) := by
        unfold dclNext
        rw [if_neg (by simp), if_neg (by simp), if_pos ⟨h.1, .inr rfl, h.2⟩]
      have : dclAll ((n, v, p) :: l) (2, b) = dclAll l (3, b) := by show dclAll l (dclNext (2, b) (n, v, p)) = _; rw [hn]
      rw [this]
      obtain ⟨h1, h2⟩ := dclAll_3 l b
      refine ⟨?_, by rw [h2]; decide⟩
      rw [h1, noAlone_pos h]
    · have hn : dclNext (2, b) (n, v, p) = (2, false) := by
        unfold dclNext
        rw [if_neg (by simp), if_neg (by simp), if_neg (by simp only; rintro ⟨h1, _, h2⟩; exact h ⟨h1, h2⟩)]
      have : dclAll ((n, v, p) :: l) (2, b) = dclAll l (2, false) := by show dclAll l (dclNext (2, b) (n, v, p)) = _; rw [hn]
      rw [this]
      refine ⟨?_, ?_⟩
      · rw [dclAll_false l _ rfl, noAlone_neg h]
        simp
      · exact (dclAll_2 l false).2
termination_by l.length
theorem dclAll_1 (l : List K.At) (b : Bool) : (dclAll l (1, b)).2 = (b && decide (K.noAlone (K.noEnc l) = [])) ∧ (dclAll l (1, b)).1 ≠ 0 := by
  match l with
  | [] => simp [dclAll, K.noAlone, K.noEnc]
  | (n, v, p) :: l =>
    by_cases h : n = K.kEncoding ∧ v.map K.low = K.kUtf8
    · have hn : dclNext (1, b) (n, v, p) = (2, b) := by
        unfold dclNext
        rw [if_neg (by simp), if_pos ⟨h.1, rfl, h.2⟩]
      have : dclAll ((n, v, p) :: l) (1, b) = dclAll l (2, b) := by show dclAll l (dclNext (1, b) (n, v, p)) = _; rw [hn]
      rw [this]
      obtain ⟨h1, h2⟩ := dclAll_2 l b
      refine ⟨?_, h2⟩
      rw [h1, noEnc_pos h]
    · have he : K.noEnc ((n, v, p) :: l) = (n, v, p) :: l := by unfold K.noEnc; simp only; rw [if_neg h]
      rw [he]
      by_cases h3 : n = K.kStandalone ∧ (v = K.kYes ∨ v = K.kNo)
      · have hn : dclNext (1, b) (n, v, p) = (3, b) := by
          unfold dclNext
          rw [if_neg (by simp), if_neg (by simp only; rintro ⟨h1, _, h2⟩; exact h ⟨h1, h2⟩), if_pos ⟨h3.1, .inl rfl, h3.2⟩]
        have : dclAll ((n, v, p) :: l) (1, b) = dclAll l (3, b) := by show dclAll l (dclNext (1, b) (n, v, p)) = _; rw [hn]
        rw [this]
        obtain ⟨h1, h2⟩ := dclAll_3 l b
        refine ⟨?_, by rw [h2]; decide⟩
        rw [h1, noAlone_pos h3]
      · have hn : dclNext (1, b) (n, v, p) = (1, false) := by
          unfold dclNext
          rw [if_neg (by simp), if_neg (by simp only; rintro ⟨h1, _, h2⟩; exact h ⟨h1, h2⟩), if_neg (by simp only; rintro ⟨h1, _, h2⟩; exact h3 ⟨h1, h2⟩)]
        have : dclAll ((n, v, p) :: l) (1, b) = dclAll l (1, false) := by show dclAll l (dclNext (1, b) (n, v, p)) = _; rw [hn]
        rw [this]
        refine ⟨?_, (dclAll_1 l false).2⟩
        rw [dclAll_false l _ rfl, noAlone_neg h3]
        simp
termination_by l.length
theorem dclAll_0 (l : List K.At) (b : Bool) : ((dclAll l (0, b)).2 && decide ((dclAll l (0, b)).1 ≠ 0)) = (b && K.declared l) := by
  match l with
  | [] => simp [dclAll, K.declared]
  | (n, v, p) :: l =>
    by_cases h : n = K.kVersion ∧ v = K.k10
    · have hn : dclNext (0, b) (n, v, p) = (1, b) := by
        unfold dclNext
        rw [if_pos ⟨h.1, rfl, h.2⟩]
      have : dclAll ((n, v, p) :: l) (0, b) = dclAll l (1, b) := by show dclAll l (dclNext (0, b) (n, v, p)) = _; rw [hn]
      rw [this]
      obtain ⟨h1, h2⟩ := dclAll_1 l b
      rw [h1, decide_eq_true h2, Bool.and_true]
      unfold K.declared
      simp only
      rw [decide_eq_decide.2 (show (n = K.kVersion ∧ v = K.k10 ∧ K.noAlone (K.noEnc l) = []) ↔ K.noAlone (K.noEnc l) = [] from ⟨fun e => e.2.2, fun e => ⟨h.1, h.2, e⟩⟩)]
    · have hn : dclNext (0, b) (n, v, p) = (0, false) := by
        unfold dclNext
        rw [if_neg (by simp only; rintro ⟨h1, _, h2⟩; exact h ⟨h1, h2⟩), if_neg (by simp), if_neg (by simp)]
      have : dclAll ((n, v, p) :: l) (0, b) = dclAll l (0, false) := by show dclAll l (dclNext (0, b) (n, v, p)) = _; rw [hn]
      rw [this, dclAll_false l _ rfl, Bool.false_and]
      unfold K.declared
      simp only
      rw [decide_eq_false (by rintro ⟨h1, h2, _⟩; exact h ⟨h1, h2⟩)]
      simp
end Go.Proofs.YtdilngjolhmjnaaGreatDoor
namespace Go.Proofs.YtdilngjolhmjnaaGreatDoor
open Go.RowKit Go.Shelf
set_option linter.all false

def snCells (T C A : Value) (i e : Nat) (p : K.Pl) : Array Value := #[T, C, A, .int .i64 (i : Int), .int .i64 (e : Int), .int .i64 (p.1 : Int), .int .i64 (p.2 : Int)]
/-- The scan's block: its three rows, the place at hand, the first fault and its place. -/
def Sn (b : Nat) (T C A : Value) (i e : Nat) (p : K.Pl) (w : World) : Prop := w.heap[b]? = some (.cells (snCells T C A i e p) 64 (0, 0))
/-- The rows hold a document's characters. -/
structure Sr (b : Nat) (cs : List Nat) (T C A : Value) (w : World) : Prop where
  sc : K.Sc cs
  len : cs.length ≤ 65536
  text : ∃ p c, T = .slice p cs.length c
  char : ∃ p c, C = .slice p cs.length c
  texts : ∀ (k c : Nat), cs[k]? = some c → ∃ g n, T = .slice (some ⟨g, 0, none⟩) cs.length n ∧ ∀ W, Bar b w W → W.cell? ⟨g, k, none⟩ = some (.string (bs (U.enc c)))
  chars : ∀ (k c : Nat), cs[k]? = some c → ∃ g n, C = .slice (some ⟨g, 0, none⟩) cs.length n ∧ ∀ W, Bar b w W → W.cell? ⟨g, k, none⟩ = some (.int .i64 (c : Int))
  place : ∃ g n, A = .slice (some ⟨g, 0, none⟩) (cs.length + 1) n ∧ ∀ k, k ≤ cs.length → ∀ W, Bar b w W → W.cell? ⟨g, k * 2, none⟩ = some (.int .i64 ((pl cs k).1 : Int)) ∧ W.cell? ⟨g, k * 2 + 1, none⟩ = some (.int .i64 ((pl cs k).2 : Int))
theorem Sr.bar {b : Nat} {cs : List Nat} {T C A : Value} {w w' : World} (h : Sr b cs T C A w) (k : Bar b w w') : Sr b cs T C A w' := by
  obtain ⟨h1, h2, h3, h4, h5, h6, g, n, h7, h8⟩ := h
  refine ⟨h1, h2, h3, h4, fun j c hc => ?_, fun j c hc => ?_, g, n, h7, fun j hj W hW => h8 j hj W (k.trans hW)⟩
  · obtain ⟨g, n, e1, e2⟩ := h5 j c hc
    exact ⟨g, n, e1, fun W hW => e2 W (k.trans hW)⟩
  · obtain ⟨g, n, e1, e2⟩ := h6 j c hc
    exact ⟨g, n, e1, fun W hW => e2 W (k.trans hW)⟩
theorem Sn.cells {b : Nat} {T C A : Value} {i e : Nat} {p : K.Pl} {w : World} (h : Sn b T C A i e p w) :
    w.cell? ⟨b, 0, none⟩ = some T ∧ w.cell? ⟨b, 1, none⟩ = some C ∧ w.cell? ⟨b, 2, none⟩ = some A ∧ w.cell? ⟨b, 3, none⟩ = some (.int .i64 (i : Int)) ∧ w.cell? ⟨b, 4, none⟩ = some (.int .i64 (e : Int)) := by
  refine ⟨?_, ?_, ?_, ?_, ?_⟩ <;> rw [Lib.cell_of_heap h] <;> rfl
theorem Sn.free {b : Nat} {T C A : Value} {i e : Nat} {p : K.Pl} {w : World} (h : Sn b T C A i e p w) (k : Nat) : w.frozen? ⟨b, k, none⟩ = false := Lib.frozen_of_heap h k
theorem Sn.keep {b : Nat} {T C A : Value} {i e : Nat} {p : K.Pl} {w w' : World} (h : Sn b T C A i e p w) (k : Below w.heap.size w w') : Sn b T C A i e p w' := Below.keep k h
theorem quiet_on {P : Program} {f : FuncId} {args : Array Value} {w : World} {a n : Nat} {v : Value} (c : Calls P f args (w.drewN (a + n)) fun e w' => e = .returned v ∧ w.drewN (a + n) = w') :
    Calls P f args (w.drewN (a + n)) fun e w'' => e = .returned v ∧ ∃ m, w'' = w.drewN (a + m) := c.mono fun _ _ ⟨he, hm⟩ => ⟨he, n, hm.symm⟩
theorem Sn.drew {b : Nat} {T C A : Value} {i e : Nat} {p : K.Pl} {w : World} (h : Sn b T C A i e p w) (n : Nat) : Sn b T C A i e p (w.drewN n) := h
theorem bar_drew (b : Nat) (w : World) (n : Nat) : Bar b w (w.drewN n) := ⟨rfl, rfl, rfl, Nat.le_refl _, fun _ _ _ => rfl⟩
theorem Sn.set3 {b : Nat} {T C A : Value} {i e : Nat} {p : K.Pl} {w : World} (h : Sn b T C A i e p w) (j : Nat) : Sn b T C A j e p (w.setCell ⟨b, 3, none⟩ (.int .i64 (j : Int))) := by
  unfold Sn
  rw [heap_set h]
  rfl
theorem Sn.mk {b : Nat} {T C A : Value} {i e : Nat} {p : K.Pl} {w : World} {c : Array Value} (h : w.heap[b]? = some (.cells c 64 (0, 0))) (hc : c = snCells T C A i e p) : Sn b T C A i e p w := by rw [hc] at h; exact h

set_option maxHeartbeats 1000000 in
theorem c_any {b : Nat} {cs : List Nat} {T C A : Value} {j e : Nat} {p : K.Pl} {w : World} (hn : Sn b T C A j e p w) (hr : Sr b cs T C A w) (i : Nat) (hi : i ≤ 200000) :
    Calls Tryz.prog 42 #[.pointer (some ⟨b, 0, none⟩), .int .i64 (i : Int)] w fun e w' => e = .returned (.int .i64 (cnum cs i)) ∧ w = w' := by
  obtain ⟨_, c1, _⟩ := hn.cells
  have hlen := hr.len
  rcases cnum_cases cs i with ⟨h, e⟩ | ⟨c, r, h, e⟩
  · rw [e]
    obtain ⟨q, n, rfl⟩ := hr.char
    have hge : cs.length ≤ i := by simpa using h
    have hge2 : ¬ ((i : Int) < (cs.length : Int)) := by omega
    clear hn hr h
    go_enter Tryz.func42, Tryz.ntmps42
    go_wp2
    go_ret
    exact ⟨rfl, rfl⟩
  · rw [e]
    obtain ⟨hlt, hsome, _⟩ := drop_at h
    obtain ⟨g, n, rfl, hc⟩ := hr.chars i c hsome
    have hcell := hc w (Bar.refl _ _)
    have hlt2 : ((i : Int) < (cs.length : Int)) := by omega
    clear hn hr h hc
    go_enter Tryz.func42, Tryz.ntmps42
    go_wp2
    go_ret
    exact ⟨rfl, rfl⟩
theorem map_get : ∀ (t : List Nat), Small t → ∀ (k : Nat) (hk : k < t.length) (h : k < (t.map UInt8.ofNat).length), ((t.map UInt8.ofNat)[k]).toNat = t[k] := by
  intro t ht k hk h
  rw [List.getElem_map, K.toNat_ofNat (by have := ht _ (List.getElem_mem hk); omega)]
theorem b8_get (t : List Nat) (ht : Small t) (k : Nat) (hk : k < t.length) (h2 : k < (bs (K.b8 t)).size) : (bs (K.b8 t))[k].toNat = t[k] := by
  have hl : k < (K.b8 t).length := by unfold K.b8; simpa using hk
  exact (congrArg UInt8.toNat (bs_get (K.b8 t) k h2 hl)).trans (map_get t ht k hk hl)

set_option maxHeartbeats 2000000 in
theorem here_any {b : Nat} {cs : List Nat} {T C A : Value} {i e : Nat} {p : K.Pl} {w : World} (hn : Sn b T C A i e p w) (hr : Sr b cs T C A w) (hi : i ≤ 100000) (t : List Nat) (ht : Small t) (htl : t.length ≤ 1000) (q : ByteArray) (hq : q = bs (K.b8 t)) :
    Calls Tryz.prog 23 #[.pointer (some ⟨b, 0, none⟩), .string q] w fun e w' => e = .returned (.bool (K.sees t (S cs i))) ∧ ∃ n, w' = w.drewN n := by
  obtain ⟨_, _, _, c3, _⟩ := hn.cells
  have hsz : (bs (K.b8 t)).size = t.length := by rw [bs_size]; simp [K.b8]
  subst hq
  have hget := b8_get t ht
  have hC := fun k (hk : k ≤ 200000) n => c_any (hn.drew n) (hr.bar (bar_drew b w n)) k hk
  have HT := Lib.hid ht
  have HGet := Lib.hid hget
  have HC := Lib.hid hC
  clear hget hC hn hr
  go_enter Tryz.func23, Tryz.ntmps23
  go_wp2
  go_loopg [5] t.length (fun g kv wr => ∃ k : Nat, kv = .int .i64 (k : Int) ∧ t.length - k = g ∧ k ≤ t.length ∧ K.sees t (S cs i) = K.sees (t.drop k) (S cs (i + k)) ∧ ∃ n, wr = w.drewN n)
  case atStart => exact ⟨0, rfl, rfl, Nat.zero_le _, rfl, 0, rfl⟩
  case round =>
    obtain ⟨k, rfl, hg, hk, hs, nd, rfl⟩ := hrel
    by_cases hlt : k < t.length
    · have hk2 : k < (bs (K.b8 t)).size := by omega
      have hkl : (k : Int) < ((bs (K.b8 t)).size : Int) := by omega
      obtain ⟨x, hx⟩ : ∃ x, t[k] = x := ⟨_, rfl⟩
      have hd : t.drop k = x :: t.drop (k + 1) := by rw [List.drop_eq_getElem_cons hlt, hx]
      rw [hd, sees_step] at hs
      have hg0 : (bs (K.b8 t))[k].toNat = x := (HGet.out k hlt hk2).trans hx
      have hc := HC.out (i + k) (by omega)
      have hik : ((i + k : Nat) : Int) = (i : Int) + (k : Int) := by omega
      have hwr : IntKind.i64.wrap ((i : Int) + (k : Int)) = (i : Int) + (k : Int) := IntWalk.i64_in _ (by omega)
      rw [hik] at hc
      have hx128 : x < 128 := by have := HT.out t[k] (List.getElem_mem hlt); omega
      have hw64 : wrap64 (x : Int) = (x : Int) := by unfold wrap64; omega
      have hS := Lib.hid hs
      clear hs hx hd
      by_cases he : cnum cs (i + k) = (x : Int)
      · rw [he] at hc
        have hs2 := hS.out
        rw [decide_eq_true he, Bool.true_and] at hs2
        have HS2 := Lib.hid hs2
        clear hs2 he hS
        go_wp2
        go_quiet ((go_at_call 42; exact quiet_on (hc _)))
        go_wp2
        go_roundg (t.length - (k + 1))
        case measure => omega
        case rel => exact ⟨k + 1, by go_num, rfl, by omega, HS2.out, _, rfl⟩
      · have hs2 := hS.out
        rw [decide_eq_false he, Bool.false_and] at hs2
        have hne : (cnum cs (i + k) == (x : Int)) = false := by simpa using he
        go_wp2
        go_quiet ((go_at_call 42; exact quiet_on (hc _)))
        go_wp2
        go_ret
        exact ⟨ret_bool hs2.symm, _, World.drewN_drewN ..⟩
    · have hge : ¬ ((k : Int) < ((bs (K.b8 t)).size : Int)) := by omega
      have hd : t.drop k = [] := List.drop_eq_nil_of_le (by omega)
      rw [hd, sees_empty] at hs
      go_wp2
      go_ret
      first | exact ⟨ret_bool hs.symm, _, rfl⟩ | exact ⟨rfl, _, rfl⟩
end Go.Proofs.YtdilngjolhmjnaaGreatDoor
namespace Go.Proofs.YtdilngjolhmjnaaGreatDoor
open Go.RowKit Go.Shelf
set_option linter.all false

set_option maxHeartbeats 2000000 in
set_option maxRecDepth 100000 in
theorem bad_ok {b : Nat} {cs : List Nat} {T C A : Value} {i : Nat} {p : K.Pl} {w : World} (hn : Sn b T C A i 0 p w) (hr : Sr b cs T C A w) (k : Nat) (hk : k ≤ 200000) (e : Nat) :
    Calls Tryz.prog 26 #[.pointer (some ⟨b, 0, none⟩), .int .i64 (k : Int), .int .i64 (e : Int)] w fun en w' => en = .returned (.tuple #[]) ∧ Sn b T C A i e (pl cs (min k cs.length)) w' ∧ Bar b w w' := by
  obtain ⟨c0, c1, c2, c3, c4⟩ := hn.cells
  have f4 := hn.free 4
  have hlen := hr.len
  obtain ⟨q, n, rfl⟩ := hr.char
  obtain ⟨g, m, rfl, hpl⟩ := hr.place
  have hmn : min k cs.length ≤ cs.length := Nat.min_le_right _ _
  have hb4 := Bar.set (b := b) w 4 (.int .i64 (e : Int))
  obtain ⟨p0, p1⟩ := hpl (min k cs.length) hmn _ hb4
  have hh : (w.setCell ⟨b, 4, none⟩ (.int .i64 (e : Int))).heap[b]? = some (.cells (snCells T (.slice q cs.length n) (.slice (some ⟨g, 0, none⟩) (cs.length + 1) m) i e p) 64 (0, 0)) := heap_set hn 4 _
  clear hn hr hpl
  obtain ⟨z, hz⟩ : ∃ z, min k cs.length = z := ⟨_, rfl⟩
  rw [hz] at p0 p1 hmn ⊢
  go_enter Tryz.func26, Tryz.ntmps26
  go_wp2
  generalize w.setCell ⟨b, 4, none⟩ (.int .i64 (e : Int)) = w2 at p0 p1 hb4 hh ⊢
  have d1 : w2.cell? ⟨b, 1, none⟩ = some (.slice q cs.length n) := by rw [Lib.cell_of_heap hh]; rfl
  have d2 : w2.cell? ⟨b, 2, none⟩ = some (.slice (some ⟨g, 0, none⟩) (cs.length + 1) m) := by rw [Lib.cell_of_heap hh]; rfl
  have f5 : w2.frozen? ⟨b, 5, none⟩ = false := Lib.frozen_of_heap hh 5
  have f6 : w2.frozen? ⟨b, 6, none⟩ = false := Lib.frozen_of_heap hh 6
  have hlt2 : ((z : Int) < ((cs.length : Int) + 1)) := by omega
  have hmi : min (k : Int) (cs.length : Int) = (z : Int) := by omega
  have HH := Lib.hid (show w2.drew.heap[b]? = _ from hh)
  have HB := Lib.hid (show Bar b w w2.drew from hb4.trans (bar_drew b w2 1))
  clear hh hb4
  go_still_tail 14, (by kernel_rfl)
  change wpList _ _ _ _ _ w2.drew
  clear d1 d2 p0 p1 hmi
  generalize w2.drew = w3 at HH HB ⊢
  have g5 : w3.frozen? ⟨b, 5, none⟩ = false := Lib.frozen_of_heap HH.out 5
  have g6 : w3.frozen? ⟨b, 6, none⟩ = false := Lib.frozen_of_heap HH.out 6
  have e5 : w3.cell? ⟨b, 5, none⟩ = some (.int .i64 (p.1 : Int)) := by rw [Lib.cell_of_heap HH.out]; rfl
  have e6 : w3.cell? ⟨b, 6, none⟩ = some (.int .i64 (p.2 : Int)) := by rw [Lib.cell_of_heap HH.out]; rfl
  go_wp2
  go_end0
  refine ⟨rfl, Sn.mk (heap_set (heap_set HH.out 5 _) 6 _) rfl, (HB.out.trans (Bar.set _ 5 _)).trans (Bar.set _ 6 _)⟩
theorem bad_no {b : Nat} {T C A : Value} {i e0 : Nat} {p : K.Pl} {w : World} (hn : Sn b T C A i e0 p w) (h0 : e0 ≠ 0) (k e : Int) :
    Calls Tryz.prog 26 #[.pointer (some ⟨b, 0, none⟩), .int .i64 k, .int .i64 e] w fun en w' => en = .returned (.tuple #[]) ∧ w = w' := by
  obtain ⟨_, _, _, _, c4⟩ := hn.cells
  have hne : ((e0 : Int) == 0) = false := by rw [beq_eq_false_iff_ne]; omega
  clear hn
  go_enter Tryz.func26, Tryz.ntmps26
  go_wp2
  go_end0
  exact ⟨rfl, rfl⟩

theorem nblank_eq (cs : List Nat) (i : Nat) : K.nblank (S cs i) = ((cs.drop i).takeWhile K.blank).length := rfl
theorem nblank_le (cs : List Nat) (i : Nat) : i + K.nblank (S cs i) ≤ max i cs.length := by
  have h := (takeWhile_run K.blank (cs.drop i)).1
  rw [nblank_eq]
  rw [List.length_drop] at h
  omega
set_option maxHeartbeats 2000000 in
theorem blanks_rf {b : Nat} {cs : List Nat} {T C A : Value} {i e : Nat} {p : K.Pl} {w : World} (hn : Sn b T C A i e p w) (hr : Sr b cs T C A w) (hi : i ≤ 100000) :
    Calls Tryz.prog 47 #[.pointer (some ⟨b, 0, none⟩)] w fun en w' => en = .returned (.bool (decide (0 < K.nblank (S cs i)))) ∧ Sn b T C A (i + K.nblank (S cs i)) e p w' ∧ Bar b w w' := by
  have hnl := nblank_le cs i
  have hlen := hr.len
  have htw := tw_at K.blank (cs.drop i)
  rw [← nblank_eq] at htw
  obtain ⟨m, hm⟩ : ∃ m, K.nblank (S cs i) = m := ⟨_, rfl⟩
  rw [hm] at hnl htw ⊢
  have HN := Lib.hid hn
  have HR := Lib.hid hr
  have HTW := Lib.hid htw
  clear hn hr htw hm
  go_enter Tryz.func47, Tryz.ntmps47
  go_wp2
  go_loopg [3] m (fun g nv wr => ∃ k : Nat, nv = .int .i64 (k : Int) ∧ m - k = g ∧ k ≤ m ∧ Sn b T C A (i + k) e p wr ∧ Bar b w wr)
  case atStart => exact ⟨0, rfl, rfl, Nat.zero_le _, HN.out, Bar.refl _ _⟩
  case round =>
    obtain ⟨k, rfl, hg, hk, hs, hbar⟩ := hrel
    have hr' := HR.out.bar hbar
    have hc := c_any hs hr' (i + k) (by omega)
    obtain ⟨_, _, _, c3, _⟩ := hs.cells
    have f3 := hs.free 3
    have hbl := refBlank_any (cs.drop (i + k)) wr
    have HS := Lib.hid hs
    have HB := Lib.hid hbar
    rcases HTW.out k hk with ⟨hlt, c, r, hd, hp⟩ | ⟨he, hd⟩
    · rw [List.drop_drop] at hd
      rw [hd] at hbl
      have hbl : Calls Tryz.prog 41 #[.int .i64 (num (c :: r))] wr fun e w' => e = .returned (.bool true) ∧ wr = w' := by
        rw [← hp]; exact hbl
      have hcn : cnum cs (i + k) = num (c :: r) := by unfold cnum; rw [hd]
      rw [hcn] at hc
      clear hd hs hbar hr'
      go_wp2_with (first | (go_at_call 42; refine hc.mono ?_; rintro e w' ⟨rfl, rfl⟩) | (go_at_call 41; refine hbl.mono ?_; rintro e w' ⟨rfl, rfl⟩))
      go_roundg (m - (k + 1))
      case measure => omega
      case rel => exact ⟨k + 1, by go_num, rfl, by omega, HS.out.set3 (i + k + 1), HB.out.trans (Bar.set _ 3 _)⟩
    · subst he
      rw [List.drop_drop] at hd
      have hbl : Calls Tryz.prog 41 #[.int .i64 (cnum cs (i + k))] wr fun e w' => e = .returned (.bool false) ∧ wr = w' := by
        unfold cnum
        rcases hd with hd | ⟨c, r, hd, hp⟩
        · rw [hd] at hbl ⊢; exact hbl
        · rw [hd] at hbl ⊢; rw [← hp]; exact hbl
      clear hd hs hbar hr'
      go_wp2_with (first | (go_at_call 42; refine hc.mono ?_; rintro e w' ⟨rfl, rfl⟩) | (go_at_call 41; refine hbl.mono ?_; rintro e w' ⟨rfl, rfl⟩))
      go_ret
      exact ⟨by simp, HS.out, HB.out⟩

theorem one_ok {b : Nat} {cs : List Nat} {T C A : Value} {i e : Nat} {p : K.Pl} {w : World} (hn : Sn b T C A i e p w) (hr : Sr b cs T C A w) (hi : i ≤ 100000) (c : Nat) (hc : cnum cs i = (c : Int)) :
    Calls Tryz.prog 48 #[.pointer (some ⟨b, 0, none⟩), .int .i64 (c : Int)] w fun en w' => en = .returned (.tuple #[]) ∧ Sn b T C A (i + 1) e p w' ∧ Bar b w w' := by
  have hC := c_any hn hr i (by omega)
  obtain ⟨_, _, _, c3, _⟩ := hn.cells
  have f3 := hn.free 3
  rw [hc] at hC
  have HN := Lib.hid hn
  clear hn hr hc
  go_enter Tryz.func48, Tryz.ntmps48
  go_wp2_with (go_at_call 42; refine hC.mono ?_; rintro e w' ⟨rfl, rfl⟩)
  go_end0
  exact ⟨rfl, HN.out.set3 (i + 1), Bar.set _ 3 _⟩
theorem one_bad {b : Nat} {cs : List Nat} {T C A : Value} {i : Nat} {p : K.Pl} {w : World} (hn : Sn b T C A i 0 p w) (hr : Sr b cs T C A w) (hi : i ≤ 100000) (c : Nat) (hc : cnum cs i ≠ (c : Int)) :
    Calls Tryz.prog 48 #[.pointer (some ⟨b, 0, none⟩), .int .i64 (c : Int)] w fun en w' => en = .returned (.tuple #[]) ∧ Sn b T C A i 21 (pl cs (min i cs.length)) w' ∧ Bar b w w' := by
  have hC := c_any hn hr i (by omega)
  have hB := bad_ok hn hr i (by omega) 21
  obtain ⟨_, _, _, c3, _⟩ := hn.cells
  have hne : (cnum cs i == (c : Int)) = false := by simpa using hc
  clear hn hr
  go_enter Tryz.func48, Tryz.ntmps48
  go_wp2_with (first | (go_at_call 42; refine hC.mono ?_; rintro e w' ⟨rfl, rfl⟩) | (go_at_call 26; refine hB.mono ?_; rintro e w' ⟨rfl, h1, h2⟩))
  refine bodyPost_ret (results_none rfl _ _ _) rfl ?_
  exact ⟨rfl, h1, h2⟩
/-- Where a fault has been found already. -/
theorem one_no {b : Nat} {cs : List Nat} {T C A : Value} {i e : Nat} {p : K.Pl} {w : World} (hn : Sn b T C A i e p w) (hr : Sr b cs T C A w) (hi : i ≤ 100000) (h0 : e ≠ 0) (c : Nat) :
    Calls Tryz.prog 48 #[.pointer (some ⟨b, 0, none⟩), .int .i64 (c : Int)] w fun en w' => en = .returned (.tuple #[]) ∧ ∃ j, j ≤ max i cs.length ∧ Sn b T C A j e p w' ∧ Bar b w w' := by
  by_cases hc : cnum cs i = (c : Int)
  · refine (one_ok hn hr hi c hc).mono ?_
    rintro en w' ⟨rfl, h1, h2⟩
    refine ⟨rfl, i + 1, ?_, h1, h2⟩
    rcases cnum_cases cs i with ⟨_, e2⟩ | ⟨x, r, h, _⟩
    · rw [e2] at hc; omega
    · have := (drop_at h).1; omega
  · have hC := c_any hn hr i (by omega)
    have hB := bad_no hn h0 (i : Int) 21
    obtain ⟨_, _, _, c3, _⟩ := hn.cells
    have hne : (cnum cs i == (c : Int)) = false := by simpa using hc
    have HN := Lib.hid hn
    clear hn hr
    go_enter Tryz.func48, Tryz.ntmps48
    go_wp2_with (first | (go_at_call 42; refine hC.mono ?_; rintro e w' ⟨rfl, rfl⟩) | (go_at_call 26; refine hB.mono ?_; rintro e w' ⟨rfl, rfl⟩))
    refine bodyPost_ret (results_none rfl _ _ _) rfl ?_
    exact ⟨rfl, i, by omega, HN.out, Bar.refl _ _⟩

set_option maxHeartbeats 2000000 in
theorem part_rf {b : Nat} {cs : List Nat} {T C A : Value} {i e : Nat} {p : K.Pl} {w : World} (hn : Sn b T C A i e p w) (hr : Sr b cs T C A w) (a : Nat) (n : Nat) (h : a + n ≤ cs.length) (z : Int) (hz : z = ((a + n : Nat) : Int)) :
    Calls Tryz.prog 46 #[.pointer (some ⟨b, 0, none⟩), .int .i64 (a : Int), .int .i64 z] w fun en w' => en = .returned (.string (bs (U.n8 ((cs.drop a).take n)))) ∧ w = w' := by
  obtain ⟨c0, _⟩ := hn.cells
  have hlen := hr.len
  have htx := hr.texts
  obtain ⟨q, cp, hT⟩ := hr.text
  have hle := fun k => n8_len4 ((cs.drop a).take k)
  have HTX := Lib.hid htx
  have HLE := Lib.hid hle
  subst hz
  clear hn hr htx hle
  go_enter Tryz.func46, Tryz.ntmps46
  go_wp2
  go_loopg [7, 8] n (fun g ov kv wr => ∃ k : Nat, kv = .int .i64 ((a + k : Nat) : Int) ∧ n - k = g ∧ k ≤ n ∧ ov = .string (bs (U.n8 ((cs.drop a).take k))) ∧ wr = w)
  case atStart => exact ⟨0, by simp, rfl, Nat.zero_le _, rfl, rfl⟩
  case round =>
    obtain ⟨k, rfl, hg, hk, rfl, rfl⟩ := hrel
    by_cases hlt : k < n
    · have hak : a + k < cs.length := by omega
      obtain ⟨g, m, hT2, hcell⟩ := HTX.out (a + k) cs[a + k] (List.getElem?_eq_getElem hak)
      obtain ⟨x, hx⟩ : ∃ x, cs[a + k] = x := ⟨_, rfl⟩
      rw [hx] at hcell
      have hcl := hcell wr (Bar.refl _ _)
      subst hT2
      have hl1 : (((a + k : Nat) : Int) < ((a + n : Nat) : Int)) := by omega
      have hl2 : (((a + k : Nat) : Int) < (cs.length : Int)) := by omega
      have h4 := HLE.out k
      have h42 := enc_len4 x
      have hsz := bs_size (U.n8 ((cs.drop a).take k))
      have hsz2 := bs_size (U.enc x)
      have htl : ((cs.drop a).take k).length ≤ cs.length := by rw [List.length_take, List.length_drop]; omega
      have hcat : ¬ ((bs (U.n8 ((cs.drop a).take k))).size + (bs (U.enc x)).size > 9223372036854775807) := by omega
      have heq : bs (U.n8 ((cs.drop a).take k)) ++ bs (U.enc x) = bs (U.n8 ((cs.drop a).take (k + 1))) := by
        have hkd : k < (cs.drop a).length := by rw [List.length_drop]; omega
        have hxd : (cs.drop a)[k] = x := by rw [List.getElem_drop]; exact hx
        rw [List.take_succ_eq_append_getElem hkd, U.n8_append, bs_append, hxd, one_n8]
      have HEQ := Lib.hid heq
      clear heq hx hcell
      go_wp2
      go_roundg (n - (k + 1))
      case measure => omega
      case rel => exact ⟨k + 1, by go_num, rfl, by omega, by rw [HEQ.out], rfl⟩
    · obtain rfl : k = n := by omega
      have hl1 : ¬ (((a + k : Nat) : Int) < ((a + k : Nat) : Int)) := by omega
      go_wp2
      go_ret
      exact ⟨rfl, rfl⟩
end Go.Proofs.YtdilngjolhmjnaaGreatDoor
namespace Go.Proofs.YtdilngjolhmjnaaGreatDoor
open Go.RowKit Go.Shelf
set_option linter.all false

/-- What a step of the document's own reading leaves: what it tells and the place behind it, or the first fault and its place. -/
def RPost (b : Nat) (cs : List Nat) (T C A : Value) (w : World) (sl : Nat) {α : Type} (ret : α → Value) (bad : Value → Prop) (r : Except K.Er (α × K.St)) (e : Ending) (w' : World) : Prop := Bar b w w' ∧ match r with
  | .ok (v, s) => ∃ j, s = S cs j ∧ j ≤ cs.length ∧ e = .returned (ret v) ∧ Sn b T C A j 0 (0, 0) w'
  | .error er => ∃ z j, e = .returned z ∧ bad z ∧ j ≤ cs.length + sl ∧ 1 ≤ er.1 ∧ er.1 ≤ 100 ∧ Sn b T C A j er.1 er.2 w'
abbrev strN : List Nat → Value := fun n => .string (bs (U.n8 n))
/-- A text that is no longer than a document's may be. -/
def badStr (n : Nat) (v : Value) : Prop := ∃ o : ByteArray, v = .string o ∧ o.size ≤ n

/-- How far a walk over a list of m has come. -/
def GoRel (b : Nat) (T C A : Value) (i m : Nat) (w : World) (g : Nat) (wr : World) : Prop := ∃ k : Nat, m - k = g ∧ k ≤ m ∧ Sn b T C A (i + k) 0 (0, 0) wr ∧ Bar b w wr
theorem goes_tw (cs : List Nat) (i : Nat) : (S cs i).1.takeWhile K.goes = (cs.drop i).takeWhile K.goes := rfl
set_option maxHeartbeats 4000000 in
set_option maxRecDepth 100000 in
theorem name_rf {b : Nat} {cs : List Nat} {T C A : Value} {i : Nat} {w : World} (hn : Sn b T C A i 0 (0, 0) w) (hr : Sr b cs T C A w) (hi : i ≤ cs.length) :
    Calls Tryz.prog 45 #[.pointer (some ⟨b, 0, none⟩)] w (RPost b cs T C A w 0 strN (badStr 300000) (K.name (S cs i))) := by
  have hlen := hr.len
  obtain ⟨_, _, _, c3, _⟩ := hn.cells
  have f3 := hn.free 3
  have hc := c_any hn hr i (by omega)
  have hbg := refBegins_any (cs.drop i) w
  have hname : K.name (S cs i) = if K.beginsS (S cs i) = true then (if 64 < ((cs.drop i).takeWhile K.goes).length then .error (2, pl cs i) else .ok ((cs.drop i).takeWhile K.goes, K.skip (S cs i) ((cs.drop i).takeWhile K.goes).length)) else .error (21, pl cs i) := rfl
  have hbg : Calls Tryz.prog 72 #[.int .i64 (cnum cs i)] w fun e w' => e = .returned (.bool (K.beginsS (S cs i))) ∧ w = w' := by
    rcases cnum_cases cs i with ⟨hd, _⟩ | ⟨c, r, hd, _⟩
    · unfold cnum; rw [S_eq, hd]; rw [hd] at hbg; exact hbg
    · unfold cnum; rw [S_eq, hd]; rw [hd] at hbg; exact hbg
  obtain ⟨R, hR⟩ : ∃ R, K.name (S cs i) = R := ⟨_, rfl⟩
  rw [hR] at hname ⊢
  clear hR
  by_cases hb : K.beginsS (S cs i) = true
  · rw [if_pos hb] at hname
    rw [hb] at hbg
    obtain ⟨htl, _, _⟩ := takeWhile_run K.goes (cs.drop i)
    have htw := tw_at K.goes (cs.drop i)
    have htk : (cs.drop i).take ((cs.drop i).takeWhile K.goes).length = (cs.drop i).takeWhile K.goes := takeWhile_take K.goes (cs.drop i)
    rw [S_skip] at hname
    obtain ⟨m, hm⟩ : ∃ m, ((cs.drop i).takeWhile K.goes).length = m := ⟨_, rfl⟩
    rw [hm] at htw htl htk hname
    rw [List.length_drop] at htl
    have HN := Lib.hid hn
    have HR := Lib.hid hr
    have HTW := Lib.hid htw
    have HTK := Lib.hid htk
    have HNm := Lib.hid hname
    clear hn hr htw htk hb hm hname
    go_enter Tryz.func45, Tryz.ntmps45
    go_wp2_with fail
    refine hc.mono ?_
    rintro e w' ⟨rfl, rfl⟩
    go_wp2_with fail
    refine hbg.mono ?_
    rintro e w' ⟨rfl, rfl⟩
    go_wp2
    go_loopg [] m (fun g wr => GoRel b T C A i m w g wr)
    case atStart => exact ⟨0, rfl, Nat.zero_le _, HN.out, Bar.refl _ _⟩
    case round =>
      obtain ⟨k, hg, hk, hs, hbar⟩ := hrel
      have hr' := HR.out.bar hbar
      have hc := c_any hs hr' (i + k) (by omega)
      obtain ⟨_, _, _, c3, _⟩ := hs.cells
      have f3 := hs.free 3
      have hgo := refGoes_any (cs.drop (i + k)) wr
      have HS := Lib.hid hs
      have HB := Lib.hid hbar
      rcases HTW.out k hk with ⟨hlt, c, r, hd, hp⟩ | ⟨he, hd⟩
      · rw [List.drop_drop] at hd
        have hgo : Calls Tryz.prog 74 #[.int .i64 (cnum cs (i + k))] wr fun e w' => e = .returned (.bool true) ∧ wr = w' := by
          unfold cnum
          rw [hd] at hgo ⊢
          rw [← hp]; exact hgo
        clear hd hs hbar hr'
        go_wp2_with (first | (go_at_call 42; refine hc.mono ?_; rintro e w' ⟨rfl, rfl⟩) | (go_at_call 74; refine hgo.mono ?_; rintro e w' ⟨rfl, rfl⟩))
        go_roundg (m - (k + 1))
        case measure => omega
        case rel => exact ⟨k + 1, rfl, by omega, HS.out.set3 (i + k + 1), HB.out.trans (Bar.set _ 3 _)⟩
      · subst he
        rw [List.drop_drop] at hd
        have hgo : Calls Tryz.prog 74 #[.int .i64 (cnum cs (i + k))] wr fun e w' => e = .returned (.bool false) ∧ wr = w' := by
          unfold cnum
          rcases hd with hd | ⟨c, r, hd, hp⟩
          · rw [hd] at hgo ⊢; exact hgo
          · rw [hd] at hgo ⊢; rw [← hp]; exact hgo
        have hpart := fun (W : World) (x e : Nat) (q : K.Pl) (h1 : Sn b T C A x e q W) (h2 : Sr b cs T C A W) => part_rf h1 h2 i k (by omega) ((i + k : Nat) : Int) rfl
        have HP := Lib.hid hpart
        clear hd hs hbar hpart
        by_cases h64 : 64 < k
        · have hbad := bad_ok HS.out hr' i (by omega) 2
          rw [Nat.min_eq_left hi] at hbad
          have HR' := Lib.hid hr'
          have hgt : ((64 : Int) < ((i + k : Nat) : Int) - (i : Int)) := by omega
          clear hr'
          have hres := HNm.out
          rw [if_pos h64] at hres
          have HRES := Lib.hid hres
          clear hres
          go_wp2_with (first
            | (go_at_call 42; refine hc.mono ?_; rintro e w' ⟨rfl, rfl⟩)
            | (go_at_call 74; refine hgo.mono ?_; rintro e w' ⟨rfl, rfl⟩)
            | (go_at_call 26; refine hbad.mono ?_; rintro e w2 ⟨rfl, hs2, hb2⟩; have d3 := hs2.cells.2.2.2.1; have hp2 := HP.out w2 _ _ _ hs2 (HR'.out.bar hb2); have HS2 := Lib.hid hs2; have HB2 := Lib.hid hb2; clear hs2 hb2)
            | (go_at_call 46; refine hp2.mono ?_; rintro e w3 ⟨rfl, rfl⟩))
          go_ret
          rw [HRES.out]
          refine ⟨HB.out.trans HB2.out, _, i + k, rfl, ⟨_, rfl, ?_⟩, by omega, by simp, by simp, HS2.out⟩
          rw [bs_size]
          have := n8_len4 ((cs.drop i).take k)
          rw [List.length_take, List.length_drop] at this
          omega
        · have hres := HNm.out
          rw [if_neg h64] at hres
          have HRES := Lib.hid hres
          clear hres
          have hle : ¬ ((64 : Int) < ((i + k : Nat) : Int) - (i : Int)) := by omega
          have hp2 := HP.out wr _ _ _ HS.out hr'
          clear hr'
          go_wp2_with (first
            | (go_at_call 42; refine hc.mono ?_; rintro e w' ⟨rfl, rfl⟩)
            | (go_at_call 74; refine hgo.mono ?_; rintro e w' ⟨rfl, rfl⟩)
            | (go_at_call 46; refine hp2.mono ?_; rintro e w3 ⟨rfl, rfl⟩))
          go_ret
          rw [HRES.out]
          exact ⟨HB.out, i + k, rfl, by omega, congrArg (fun x => Ending.returned (strN x)) HTK.out, HS.out⟩
  · rw [if_neg hb] at hname
    rw [hname]
    clear hname
    have hb' : K.beginsS (S cs i) = false := by simpa using hb
    rw [hb'] at hbg
    have hbad := bad_ok hn hr i (by omega) 21
    rw [Nat.min_eq_left hi] at hbad
    clear hn hr hb hb'
    go_enter Tryz.func45, Tryz.ntmps45
    go_wp2_with (first
      | (go_at_call 42; refine hc.mono ?_; rintro e w' ⟨rfl, rfl⟩)
      | (go_at_call 72; refine hbg.mono ?_; rintro e w' ⟨rfl, rfl⟩)
      | (go_at_call 26; refine hbad.mono ?_; rintro e w2 ⟨rfl, hs2, hb2⟩))
    go_ret
    exact ⟨hb2, _, i, rfl, ⟨⟨#[]⟩, rfl, by decide⟩, by omega, by simp, by simp, hs2⟩
end Go.Proofs.YtdilngjolhmjnaaGreatDoor
namespace Go.Proofs.YtdilngjolhmjnaaGreatDoor
open Go.RowKit Go.Shelf
set_option linter.all false

/-- Up to which place a text doesn't stand. -/
theorem idx_not {t : List Nat} : ∀ {l : List Nat} {n : Nat}, K.idx t l = some n → ∀ k, k < n → t.isPrefixOf (l.drop k) = false
  | [], n, h, k, hk => by simp [K.idx] at h
  | c :: l, n, h, k, hk => by
    unfold K.idx at h
    split at h
    · simp only [Option.some.injEq] at h; omega
    · rename_i hp
      cases hi : K.idx t l with
      | none => rw [hi] at h; cases h
      | some j =>
        rw [hi] at h
        simp only [Option.map_some, Option.some.injEq] at h
        cases k with
        | zero => rw [List.drop_zero]; exact Bool.eq_false_iff.2 hp
        | succ k =>
          rw [List.drop_succ_cons]
          exact idx_not hi k (by omega)
theorem idx_never {t : List Nat} : ∀ {l : List Nat}, K.idx t l = none → ∀ k, k < l.length → t.isPrefixOf (l.drop k) = false
  | [], h, k, hk => by simp at hk
  | c :: l, h, k, hk => by
    unfold K.idx at h
    split at h
    · cases h
    · rename_i hp
      cases hi : K.idx t l with
      | some j => rw [hi] at h; cases h
      | none =>
        cases k with
        | zero => rw [List.drop_zero]; exact Bool.eq_false_iff.2 hp
        | succ k =>
          rw [List.drop_succ_cons]
          exact idx_never hi k (by simpa using hk)
theorem pl_all (cs : List Nat) (i : Nat) : K.advs (pl cs i) (cs.drop i) = pl cs cs.length := by
  unfold pl
  rw [← K.advs_append, List.take_append_drop, List.take_length]
/-- Where the look for a text ends: its first place, or the end. -/
def toEnd (t : List Nat) (cs : List Nat) (i : Nat) : Nat := match K.idx t (cs.drop i) with
  | some n => n
  | none => cs.length - i
theorem toEnd_le {t : List Nat} (cs : List Nat) (i : Nat) (hi : i ≤ cs.length) : i + toEnd t cs i ≤ cs.length := by
  unfold toEnd
  cases h : K.idx t (cs.drop i) with
  | none => simp only; omega
  | some n =>
    have := (idx_pre h).2
    rw [List.length_drop] at this
    simp only
    omega
theorem toEnd_at {t : List Nat} (cs : List Nat) (i : Nat) (k : Nat) (hk : k < toEnd t cs i) : i + k < cs.length ∧ K.sees t (S cs (i + k)) = false := by
  unfold toEnd at hk
  cases h : K.idx t (cs.drop i) with
  | none =>
    rw [h] at hk
    simp only at hk
    have := idx_never h k (by rw [List.length_drop]; omega)
    rw [List.drop_drop] at this
    exact ⟨by omega, this⟩
  | some n =>
    rw [h] at hk
    simp only at hk
    have h1 := (idx_pre h).2
    rw [List.length_drop] at h1
    have := idx_not h k hk
    rw [List.drop_drop] at this
    exact ⟨by omega, this⟩

set_option maxHeartbeats 4000000 in
theorem to_rf {b : Nat} {cs : List Nat} {T C A : Value} {i : Nat} {w : World} (hn : Sn b T C A i 0 (0, 0) w) (hr : Sr b cs T C A w) (hi : i ≤ cs.length) (t : List Nat) (ht : Small t) (hne : t ≠ []) (htl : t.length ≤ 100) (q : ByteArray) (hq : q = bs (K.b8 t)) :
    Calls Tryz.prog 25 #[.pointer (some ⟨b, 0, none⟩), .string q] w (RPost b cs T C A w 0 strN (badStr 300000) (K.upTo t (S cs i))) := by
  have hlen := hr.len
  obtain ⟨_, c1, _, c3, _⟩ := hn.cells
  obtain ⟨pc, nc, hC⟩ := hr.char
  have hqs : q.size = t.length := by rw [hq, bs_size]; simp [K.b8]
  have htp : 0 < t.length := List.length_pos_iff.2 hne
  have hup : K.upTo t (S cs i) = match K.idx t (cs.drop i) with
    | none => .error (21, K.advs (pl cs i) (cs.drop i))
    | some n => .ok ((cs.drop i).take n, K.skip (S cs i) (n + t.length)) := rfl
  rw [pl_all] at hup
  obtain ⟨R, hR⟩ : ∃ R, K.upTo t (S cs i) = R := ⟨_, rfl⟩
  rw [hR] at hup ⊢
  have HUp := Lib.hid hup
  clear hup hR
  have hel := toEnd_le (t := t) cs i hi
  have hat := toEnd_at (t := t) cs i
  obtain ⟨m, hm⟩ : ∃ m, toEnd t cs i = m := ⟨_, rfl⟩
  rw [hm] at hel hat
  have HN := Lib.hid hn
  have HR := Lib.hid hr
  have HAT := Lib.hid hat
  have HM := Lib.hid hm
  have HQ := Lib.hid hq
  have HT := Lib.hid ht
  have HC := Lib.hid hC
  clear hn hr hat hm hq ht hC
  go_enter Tryz.func25, Tryz.ntmps25
  go_wp2
  go_loopg [] m (fun g wr => GoRel b T C A i m w g wr)
  case atStart => exact ⟨0, rfl, Nat.zero_le _, HN.out, Bar.refl _ _⟩
  case round =>
    obtain ⟨k, hg, hk, hs, hbar⟩ := hrel
    have hr' := HR.out.bar hbar
    obtain ⟨_, c1, _, c3, _⟩ := hs.cells
    rw [HC.out] at c1
    have f3 := hs.free 3
    have hh := fun n => here_any (hs.drew n) (hr'.bar (bar_drew b wr n)) (by omega) t HT.out (by omega) q HQ.out
    have HS := Lib.hid hs
    have HB := Lib.hid hbar
    have HR' := Lib.hid hr'
    clear hs hbar hr'
    by_cases hlt : k < m
    · obtain ⟨h1, h2⟩ := HAT.out k hlt
      rw [h2] at hh
      have hl : (i : Int) + (k : Int) < (cs.length : Int) := by omega
      clear h2
      go_wp2
      go_quiet ((go_at_call 23; exact Calls.quiet_of (hh _)))
      go_wp2
      go_roundg (m - (k + 1))
      case measure => omega
      case rel => exact ⟨k + 1, rfl, by omega, (HS.out.drew _).set3 (i + k + 1), HB.out.trans ((bar_drew b wr _).trans (Bar.set _ 3 _))⟩
    · obtain rfl : k = m := by omega
      cases hi2 : K.idx t (cs.drop i) with
      | none =>
        have hmm : i + k = cs.length := by have := HM.out; unfold toEnd at this; rw [hi2] at this; simp only at this; omega
        have hbad := fun n => bad_ok (HS.out.drew n) (HR'.out.bar (bar_drew b wr n)) (i + k) (by omega) 21
        rw [Nat.min_eq_left (by omega), hmm] at hbad
        have hl : decide ((cs.length : Int) < (cs.length : Int)) = false := by simp
        rw [hmm] at c3
        have hres := HUp.out
        rw [hi2] at hres
        have HRES := Lib.hid hres
        clear hh hi2 hres
        go_wp2
        go_quiet (fail)
        go_wp2
        go_quiet (fail)
        go_wp2_with (go_at_call 26; refine (hbad _).mono ?_; rintro e w2 ⟨rfl, hs2, hb2⟩)
        go_ret
        rw [HRES.out]
        exact ⟨HB.out.trans ((bar_drew b wr _).trans hb2), _, _, rfl, ⟨⟨#[]⟩, rfl, by decide⟩, by omega, by simp, by simp, hs2⟩
      | some n =>
        have hkn : k = n := by have := HM.out; unfold toEnd at this; rw [hi2] at this; simp only at this; omega
        subst hkn
        obtain ⟨hpre, hle⟩ := idx_pre hi2
        rw [List.drop_drop] at hpre
        have hse : K.sees t (S cs (i + k)) = true := hpre
        have hp2 : i + k + t.length ≤ cs.length := by
          have := (List.isPrefixOf_iff_prefix.1 hpre).length_le
          rw [List.length_drop] at this
          omega
        rw [hse] at hh
        have hl : (i : Int) + (k : Int) < (cs.length : Int) := by omega
        have hl2 : decide ((cs.length : Int) ≤ (i : Int) + (k : Int)) = false := by simp; omega
        have hpart := fun n => part_rf (HS.out.drew n) (HR'.out.bar (bar_drew b wr n)) i k (by omega) ((i : Int) + (k : Int)) (by omega)
        have hres := HUp.out
        rw [hi2] at hres
        have HRES := Lib.hid hres
        clear hpre hse hi2 hres
        go_wp2
        go_quiet ((go_at_call 23; exact Calls.quiet_of (hh _)))
        go_wp2
        go_quiet (fail)
        go_wp2_with (go_at_call 46; refine (hpart _).mono ?_; rintro e w3 ⟨rfl, rfl⟩)
        go_ret
        rw [HRES.out]
        refine ⟨HB.out.trans ((bar_drew b wr _).trans (Bar.set _ 3 _)), i + k + t.length, by rw [S_skip, Nat.add_assoc], hp2, rfl, ?_⟩
        exact (HS.out.drew _).set3 (i + k + t.length)
end Go.Proofs.YtdilngjolhmjnaaGreatDoor
namespace Go.Proofs.YtdilngjolhmjnaaGreatDoor
open Go.RowKit Go.Shelf
set_option linter.all false

/-- What it tells: the character, or -1. -/
def numRet (r : Option Nat) : Int := match r with
  | none => -1
  | some v => (v : Int)
theorem digit_cases (base : Nat) (hb : base = 10 ∨ base = 16) (x : Nat) : (48 ≤ x ∧ x ≤ 57 ∧ K.digit base x = some (x - 48)) ∨ (97 ≤ x ∧ x ≤ 102 ∧ K.digit base x = if base = 16 then some (x - 87) else none) ∨
    (65 ≤ x ∧ x ≤ 70 ∧ K.digit base x = if base = 16 then some (x - 55) else none) ∨ (¬ (48 ≤ x ∧ x ≤ 57) ∧ ¬ (97 ≤ x ∧ x ≤ 102) ∧ ¬ (65 ≤ x ∧ x ≤ 70) ∧ K.digit base x = none) := by
  unfold K.digit
  by_cases h1 : 48 ≤ x ∧ x ≤ 57
  · exact .inl ⟨h1.1, h1.2, if_pos h1⟩
  · by_cases h2 : 97 ≤ x ∧ x ≤ 102
    · refine .inr (.inl ⟨h2.1, h2.2, ?_⟩)
      rw [if_neg h1]
      rcases hb with rfl | rfl
      · rw [if_neg (by omega), if_neg (by omega), if_neg (by omega)]
      · rw [if_pos ⟨rfl, h2.1, h2.2⟩, if_pos rfl]
    · by_cases h3 : 65 ≤ x ∧ x ≤ 70
      · refine .inr (.inr (.inl ⟨h3.1, h3.2, ?_⟩))
        rw [if_neg h1]
        rcases hb with rfl | rfl
        · rw [if_neg (by omega), if_neg (by omega), if_neg (by omega)]
        · rw [if_neg (by omega), if_pos ⟨rfl, h3.1, h3.2⟩, if_pos rfl]
      · refine .inr (.inr (.inr ⟨h1, h2, h3, ?_⟩))
        rw [if_neg h1, if_neg (by rintro ⟨_, h⟩; exact h2 h), if_neg (by rintro ⟨_, h⟩; exact h3 h)]
def numOk (r : Option Nat) : Int := match r with
  | none => -1
  | some v => if K.allowed v || decide (v = 13) then (v : Int) else -1
theorem numIn_of (base : Nat) (hb : 2 ≤ base) (l : List Nat) (h0 : l ≠ []) (r : Option Nat) (h : numC base l 0 = r) : numRet (K.numIn base l) = numOk r := by
  rw [numIn_C base hb, if_neg h0, h]
  unfold numOk
  cases r with
  | none => rfl
  | some v =>
    simp only
    split <;> rfl
theorem ret_i {a b : Int} (h : a = b) : Ending.returned (.int .i64 a) = .returned (.int .i64 b) := by rw [h]

set_option maxHeartbeats 8000000 in
set_option maxRecDepth 100000 in
theorem num16_rf (dl : List Nat) (hs : Small dl) (hl : dl.length ≤ 70000) (hne : dl ≠ []) (q : ByteArray) (hq : q = bs (K.b8 (120 :: dl))) (w : World) :
    Calls Tryz.prog 75 #[.string q] w fun e w' => e = .returned (.int .i64 (numRet (K.numIn 16 dl))) ∧ w = w' := by
  have hsz : q.size = dl.length + 1 := by rw [hq, bs_size]; simp [K.b8]
  have hsm : Small (120 :: dl) := by
    intro c hc
    rcases List.mem_cons.1 hc with rfl | hc
    · decide
    · exact hs c hc
  have hget : ∀ (k : Nat) (hk : k < dl.length) (h2 : k + 1 < q.size), q[k + 1].toNat = dl[k] := by
    subst hq
    intro k hk h2
    rw [b8_get (120 :: dl) hsm (k + 1) (by simp; omega) h2]
    exact List.getElem_cons_succ ..
  have h0s : 0 < q.size := by omega
  have h00 : q[0] = 120 := by
    refine UInt8.toNat_inj.1 ?_
    subst hq
    rw [b8_get (120 :: dl) hsm 0 (by simp) h0s]
    rfl
  have h0i : (0 : Int) < (q.size : Int) := by omega
  have HGet := Lib.hid hget
  have HS := Lib.hid hs
  have HNE := Lib.hid hne
  have HAL := Lib.hid (fun v (h : v < 2147483648) W => refAllowed_any v h W)
  clear hget hs hq hne
  go_enter Tryz.func75, Tryz.ntmps75
  go_wp2
  go_loopg [5, 6] dl.length (fun g vv iv wr => ∃ k v : Nat, iv = .int .i64 ((k : Int) + 1) ∧ vv = .int .i64 (v : Int) ∧ dl.length - k = g ∧ k ≤ dl.length ∧ v ≤ 1114112 ∧ numC 16 dl 0 = numC 16 (dl.drop k) v ∧ wr = w)
  case atStart => exact ⟨0, 0, rfl, rfl, rfl, Nat.zero_le _, by omega, rfl, rfl⟩
  case round =>
    obtain ⟨k, v, rfl, rfl, hg, hk, hv, hN, rfl⟩ := hrel
    have HN := Lib.hid hN
    clear hN
    by_cases hlt : k < dl.length
    · have hk2 : k + 1 < q.size := by omega
      have hkl : (k : Int) + 1 < (q.size : Int) := by omega
      obtain ⟨x, hx⟩ : ∃ x, dl[k] = x := ⟨_, rfl⟩
      have hg0 : q[k + 1].toNat = x := (HGet.out k hlt hk2).trans hx
      have hd : dl.drop k = x :: dl.drop (k + 1) := by rw [List.drop_eq_getElem_cons hlt, hx]
      obtain ⟨c, hc⟩ : ∃ c : UInt8, q[k + 1] = c := ⟨_, rfl⟩
      have hcx : c.toNat = x := by rw [← hc]; exact hg0
      have hnum : numC 16 (dl.drop k) v = match K.digit 16 x with
        | none => none
        | some d => numC 16 (dl.drop (k + 1)) (min (v * 16 + d) 1114112) := by rw [hd]; rfl
      have HH := Lib.hid (HN.out.trans hnum)
      clear hnum hd hx hg0
      subst hcx
      have hc8 := UInt8.toNat_lt c
      rcases digit_cases 16 (.inr rfl) c.toNat with ⟨h1, h2, hdig⟩ | ⟨h1, h2, hdig⟩ | ⟨h1, h2, hdig⟩ | ⟨h1, h2, h3, hdig⟩
      · have hd : K.digit 16 c.toNat = some (c.toNat - 48) := hdig
        have hN2 : numC 16 dl 0 = numC 16 (dl.drop (k + 1)) (min (v * 16 + (c.toNat - 48)) 1114112) := by
          have := HH.out
          rw [hd] at this
          exact this
        have HN2 := Lib.hid hN2
        have i1 : (48 : Int) ≤ (c.toNat : Int) := by omega
        have i2 : (c.toNat : Int) ≤ 57 := by omega
        clear hN2 hd hdig h1 h2
        rcases Nat.le_total (v * 16 + (c.toNat - 48)) 1114112 with hle | hle
        · have hmin := Lib.hid (Nat.min_eq_left hle)
          have hle2 : (v : Int) * 16 + ((c.toNat : Int) - 48) ≤ 1114112 := by omega
          clear hle
          go_wp2
          go_roundg (dl.length - (k + 1))
          case measure => omega
          case rel => exact ⟨k + 1, v * 16 + (c.toNat - 48), by go_num, by first | rfl | (congr 1; omega), rfl, by omega, by omega, by rw [HN2.out, hmin.out], rfl⟩
        · have hmin := Lib.hid (Nat.min_eq_right hle)
          have hle2 : (1114112 : Int) ≤ (v : Int) * 16 + ((c.toNat : Int) - 48) := by omega
          clear hle
          go_wp2
          go_roundg (dl.length - (k + 1))
          case measure => omega
          case rel => exact ⟨k + 1, 1114112, by go_num, by first | rfl | (congr 1; omega), rfl, by omega, by omega, by rw [HN2.out, hmin.out], rfl⟩

      · have hd : K.digit 16 c.toNat = some (c.toNat - 87) := hdig.trans (if_pos rfl)
        have hN2 : numC 16 dl 0 = numC 16 (dl.drop (k + 1)) (min (v * 16 + (c.toNat - 87)) 1114112) := by
          have := HH.out
          rw [hd] at this
          exact this
        have HN2 := Lib.hid hN2
        have i1 : (97 : Int) ≤ (c.toNat : Int) := by omega
        have i2 : (c.toNat : Int) ≤ 102 := by omega
        clear hN2 hd hdig h1 h2
        rcases Nat.le_total (v * 16 + (c.toNat - 87)) 1114112 with hle | hle
        · have hmin := Lib.hid (Nat.min_eq_left hle)
          have hle2 : (v : Int) * 16 + ((c.toNat : Int) - 87) ≤ 1114112 := by omega
          clear hle
          go_wp2
          go_roundg (dl.length - (k + 1))
          case measure => omega
          case rel => exact ⟨k + 1, v * 16 + (c.toNat - 87), by go_num, by first | rfl | (congr 1; omega), rfl, by omega, by omega, by rw [HN2.out, hmin.out], rfl⟩
        · have hmin := Lib.hid (Nat.min_eq_right hle)
          have hle2 : (1114112 : Int) ≤ (v : Int) * 16 + ((c.toNat : Int) - 87) := by omega
          clear hle
          go_wp2
          go_roundg (dl.length - (k + 1))
          case measure => omega
          case rel => exact ⟨k + 1, 1114112, by go_num, by first | rfl | (congr 1; omega), rfl, by omega, by omega, by rw [HN2.out, hmin.out], rfl⟩

      · have hd : K.digit 16 c.toNat = some (c.toNat - 55) := hdig.trans (if_pos rfl)
        have hN2 : numC 16 dl 0 = numC 16 (dl.drop (k + 1)) (min (v * 16 + (c.toNat - 55)) 1114112) := by
          have := HH.out
          rw [hd] at this
          exact this
        have HN2 := Lib.hid hN2
        have i1 : (65 : Int) ≤ (c.toNat : Int) := by omega
        have i2 : (c.toNat : Int) ≤ 70 := by omega
        clear hN2 hd hdig h1 h2
        rcases Nat.le_total (v * 16 + (c.toNat - 55)) 1114112 with hle | hle
        · have hmin := Lib.hid (Nat.min_eq_left hle)
          have hle2 : (v : Int) * 16 + ((c.toNat : Int) - 55) ≤ 1114112 := by omega
          clear hle
          go_wp2
          go_roundg (dl.length - (k + 1))
          case measure => omega
          case rel => exact ⟨k + 1, v * 16 + (c.toNat - 55), by go_num, by first | rfl | (congr 1; omega), rfl, by omega, by omega, by rw [HN2.out, hmin.out], rfl⟩
        · have hmin := Lib.hid (Nat.min_eq_right hle)
          have hle2 : (1114112 : Int) ≤ (v : Int) * 16 + ((c.toNat : Int) - 55) := by omega
          clear hle
          go_wp2
          go_roundg (dl.length - (k + 1))
          case measure => omega
          case rel => exact ⟨k + 1, 1114112, by go_num, by first | rfl | (congr 1; omega), rfl, by omega, by omega, by rw [HN2.out, hmin.out], rfl⟩

      · have hN2 : numC 16 dl 0 = none := by
          have := HH.out
          rw [hdig] at this
          exact this
        have hr : numRet (K.numIn 16 dl) = -1 := numIn_of 16 (by decide) dl HNE.out none hN2
        have HRr := Lib.hid hr
        have i1 : (decide ((48 : Int) ≤ (c.toNat : Int)) && decide ((c.toNat : Int) ≤ 57)) = false := by simp; omega
        have i2 : (decide ((97 : Int) ≤ (c.toNat : Int)) && decide ((c.toNat : Int) ≤ 102)) = false := by simp; omega
        have i3 : (decide ((65 : Int) ≤ (c.toNat : Int)) && decide ((c.toNat : Int) ≤ 70)) = false := by simp; omega
        clear hN2 hdig hr
        go_wp2
        all_goals (go_ret; exact ⟨ret_i HRr.out.symm, rfl⟩)
    · have hkk : k = dl.length := by omega
      subst hkk
      have hN2 : numC 16 dl 0 = some v := by
        have := HN.out
        rw [List.drop_length] at this
        exact this
      have hr := numIn_of 16 (by decide) dl HNE.out _ hN2
      have HRr := Lib.hid hr
      have hge : ¬ (((dl.length : Nat) : Int) + 1 < (q.size : Int)) := by omega
      have hal := HAL.out v (by omega) wr
      have hp : 0 < dl.length := List.length_pos_iff.2 HNE.out
      have hqf : ((q.size : Int) == 1) = false := by rw [beq_eq_false_iff_ne]; omega
      clear hN2 hr
      by_cases hA : K.allowed v = true
      · have hv : numOk (some v) = (v : Int) := by unfold numOk; simp only; rw [hA]; rfl
        have HV := Lib.hid (HRr.out.trans hv)
        rw [hA] at hal
        clear hv
        go_wp2_with (go_at_call 32; refine hal.mono ?_; rintro e w' ⟨rfl, rfl⟩)
        go_ret
        exact ⟨ret_i HV.out.symm, rfl⟩
      · have hA' : K.allowed v = false := by simpa using hA
        rw [hA'] at hal
        by_cases h13 : v = 13
        · subst h13
          have hv : numOk (some 13) = 13 := by decide
          have HV := Lib.hid (HRr.out.trans hv)
          clear hv
          go_wp2_with (go_at_call 32; refine hal.mono ?_; rintro e w' ⟨rfl, rfl⟩)
          go_ret
          exact ⟨ret_i HV.out.symm, rfl⟩
        · have n13 : ((v : Int) == 13) = false := by rw [beq_eq_false_iff_ne]; omega
          have n13b : ((v : Int) != 13) = true := by rw [bne_iff_ne]; omega
          have hv : numOk (some v) = -1 := by unfold numOk; simp only; rw [hA', Bool.false_or, if_neg (by simpa using h13)]
          have HV := Lib.hid (HRr.out.trans hv)
          clear hv
          go_wp2_with (go_at_call 32; refine hal.mono ?_; rintro e w' ⟨rfl, rfl⟩)
          go_ret
          exact ⟨ret_i HV.out.symm, rfl⟩

set_option maxHeartbeats 8000000 in
set_option maxRecDepth 100000 in
theorem num10_rf (dl : List Nat) (hs : Small dl) (hl : dl.length ≤ 70000) (hne : dl ≠ []) (hx : ∀ r, dl ≠ 120 :: r) (q : ByteArray) (hq : q = bs (K.b8 (dl))) (w : World) :
    Calls Tryz.prog 75 #[.string q] w fun e w' => e = .returned (.int .i64 (numRet (K.numIn 10 dl))) ∧ w = w' := by
  have hsz : q.size = dl.length := by rw [hq, bs_size]; simp [K.b8]
  have hget : ∀ (k : Nat) (hk : k < dl.length) (h2 : k < q.size), q[k].toNat = dl[k] := by
    subst hq
    intro k hk h2
    rw [b8_get (dl) hs (k) hk h2]
  have hlp := List.length_pos_iff.2 hne
  have h0s : 0 < q.size := by omega
  have h0i : (0 : Int) < (q.size : Int) := by omega
  obtain ⟨c0, hc0⟩ : ∃ c0, q[0] = c0 := ⟨_, rfl⟩
  have n120 : ((c0.toNat : Int) == 120) = false := by
    rw [beq_eq_false_iff_ne]
    intro e
    have h1 := hget 0 hlp h0s
    rw [hc0] at h1
    cases dl with
    | nil => exact hne rfl
    | cons a r =>
      have : a = 120 := by have : c0.toNat = a := h1; omega
      exact hx r (by rw [this])
  clear hx
  have HGet := Lib.hid hget
  have HS := Lib.hid hs
  have HNE := Lib.hid hne
  have HAL := Lib.hid (fun v (h : v < 2147483648) W => refAllowed_any v h W)
  clear hget hs hq hne
  go_enter Tryz.func75, Tryz.ntmps75
  go_wp2
  go_loopg [5, 6] dl.length (fun g vv iv wr => ∃ k v : Nat, iv = .int .i64 ((k : Int)) ∧ vv = .int .i64 (v : Int) ∧ dl.length - k = g ∧ k ≤ dl.length ∧ v ≤ 1114112 ∧ numC 10 dl 0 = numC 10 (dl.drop k) v ∧ wr = w)
  case atStart => exact ⟨0, 0, rfl, rfl, rfl, Nat.zero_le _, by omega, rfl, rfl⟩
  case round =>
    obtain ⟨k, v, rfl, rfl, hg, hk, hv, hN, rfl⟩ := hrel
    have HN := Lib.hid hN
    clear hN
    by_cases hlt : k < dl.length
    · have hk2 : k < q.size := by omega
      have hkl : (k : Int) < (q.size : Int) := by omega
      obtain ⟨x, hx⟩ : ∃ x, dl[k] = x := ⟨_, rfl⟩
      have hg0 : q[k].toNat = x := (HGet.out k hlt hk2).trans hx
      have hd : dl.drop k = x :: dl.drop (k + 1) := by rw [List.drop_eq_getElem_cons hlt, hx]
      obtain ⟨c, hc⟩ : ∃ c : UInt8, q[k] = c := ⟨_, rfl⟩
      have hcx : c.toNat = x := by rw [← hc]; exact hg0
      have hnum : numC 10 (dl.drop k) v = match K.digit 10 x with
        | none => none
        | some d => numC 10 (dl.drop (k + 1)) (min (v * 10 + d) 1114112) := by rw [hd]; rfl
      have HH := Lib.hid (HN.out.trans hnum)
      clear hnum hd hx hg0
      subst hcx
      have hc8 := UInt8.toNat_lt c
      rcases digit_cases 10 (.inl rfl) c.toNat with ⟨h1, h2, hdig⟩ | ⟨h1, h2, hdig⟩ | ⟨h1, h2, hdig⟩ | ⟨h1, h2, h3, hdig⟩
      · have hd : K.digit 10 c.toNat = some (c.toNat - 48) := hdig
        have hN2 : numC 10 dl 0 = numC 10 (dl.drop (k + 1)) (min (v * 10 + (c.toNat - 48)) 1114112) := by
          have := HH.out
          rw [hd] at this
          exact this
        have HN2 := Lib.hid hN2
        have i1 : (48 : Int) ≤ (c.toNat : Int) := by omega
        have i2 : (c.toNat : Int) ≤ 57 := by omega
        clear hN2 hd hdig h1 h2
        rcases Nat.le_total (v * 10 + (c.toNat - 48)) 1114112 with hle | hle
        · have hmin := Lib.hid (Nat.min_eq_left hle)
          have hle2 : (v : Int) * 10 + ((c.toNat : Int) - 48) ≤ 1114112 := by omega
          clear hle
          go_wp2
          go_roundg (dl.length - (k + 1))
          case measure => omega
          case rel => exact ⟨k + 1, v * 10 + (c.toNat - 48), by go_num, by first | rfl | (congr 1; omega), rfl, by omega, by omega, by rw [HN2.out, hmin.out], rfl⟩
        · have hmin := Lib.hid (Nat.min_eq_right hle)
          have hle2 : (1114112 : Int) ≤ (v : Int) * 10 + ((c.toNat : Int) - 48) := by omega
          clear hle
          go_wp2
          go_roundg (dl.length - (k + 1))
          case measure => omega
          case rel => exact ⟨k + 1, 1114112, by go_num, by first | rfl | (congr 1; omega), rfl, by omega, by omega, by rw [HN2.out, hmin.out], rfl⟩

      · have hd : K.digit 10 c.toNat = none := hdig.trans (if_neg (by decide))
        have hN2 : numC 10 dl 0 = none := by
          have := HH.out
          rw [hd] at this
          exact this
        have hr : numRet (K.numIn 10 dl) = -1 := numIn_of 10 (by decide) dl HNE.out none hN2
        have i1 : (97 : Int) ≤ (c.toNat : Int) := by omega
        have i2 : (c.toNat : Int) ≤ 102 := by omega
        have HRr := Lib.hid hr
        clear hN2 hd hdig h1 h2 hr
        go_wp2
        go_ret
        exact ⟨ret_i HRr.out.symm, rfl⟩

      · have hd : K.digit 10 c.toNat = none := hdig.trans (if_neg (by decide))
        have hN2 : numC 10 dl 0 = none := by
          have := HH.out
          rw [hd] at this
          exact this
        have hr : numRet (K.numIn 10 dl) = -1 := numIn_of 10 (by decide) dl HNE.out none hN2
        have i1 : (65 : Int) ≤ (c.toNat : Int) := by omega
        have i2 : (c.toNat : Int) ≤ 70 := by omega
        have HRr := Lib.hid hr
        clear hN2 hd hdig h1 h2 hr
        go_wp2
        go_ret
        exact ⟨ret_i HRr.out.symm, rfl⟩

      · have hN2 : numC 10 dl 0 = none := by
          have := HH.out
          rw [hdig] at this
          exact this
        have hr : numRet (K.numIn 10 dl) = -1 := numIn_of 10 (by decide) dl HNE.out none hN2
        have HRr := Lib.hid hr
        have i1 : (decide ((48 : Int) ≤ (c.toNat : Int)) && decide ((c.toNat : Int) ≤ 57)) = false := by simp; omega
        have i2 : (decide ((97 : Int) ≤ (c.toNat : Int)) && decide ((c.toNat : Int) ≤ 102)) = false := by simp; omega
        have i3 : (decide ((65 : Int) ≤ (c.toNat : Int)) && decide ((c.toNat : Int) ≤ 70)) = false := by simp; omega
        clear hN2 hdig hr
        go_wp2
        all_goals (go_ret; exact ⟨ret_i HRr.out.symm, rfl⟩)
    · have hkk : k = dl.length := by omega
      subst hkk
      have hN2 : numC 10 dl 0 = some v := by
        have := HN.out
        rw [List.drop_length] at this
        exact this
      have hr := numIn_of 10 (by decide) dl HNE.out _ hN2
      have HRr := Lib.hid hr
      have hge : ¬ (((dl.length : Nat) : Int) < (q.size : Int)) := by omega
      have hal := HAL.out v (by omega) wr
      have hp : 0 < dl.length := List.length_pos_iff.2 HNE.out
      have hqf : ((q.size : Int) == 0) = false := by rw [beq_eq_false_iff_ne]; omega
      clear hN2 hr
      by_cases hA : K.allowed v = true
      · have hv : numOk (some v) = (v : Int) := by unfold numOk; simp only; rw [hA]; rfl
        have HV := Lib.hid (HRr.out.trans hv)
        rw [hA] at hal
        clear hv
        go_wp2_with (go_at_call 32; refine hal.mono ?_; rintro e w' ⟨rfl, rfl⟩)
        go_ret
        exact ⟨ret_i HV.out.symm, rfl⟩
      · have hA' : K.allowed v = false := by simpa using hA
        rw [hA'] at hal
        by_cases h13 : v = 13
        · subst h13
          have hv : numOk (some 13) = 13 := by decide
          have HV := Lib.hid (HRr.out.trans hv)
          clear hv
          go_wp2_with (go_at_call 32; refine hal.mono ?_; rintro e w' ⟨rfl, rfl⟩)
          go_ret
          exact ⟨ret_i HV.out.symm, rfl⟩
        · have n13 : ((v : Int) == 13) = false := by rw [beq_eq_false_iff_ne]; omega
          have n13b : ((v : Int) != 13) = true := by rw [bne_iff_ne]; omega
          have hv : numOk (some v) = -1 := by unfold numOk; simp only; rw [hA', Bool.false_or, if_neg (by simpa using h13)]
          have HV := Lib.hid (HRr.out.trans hv)
          clear hv
          go_wp2_with (go_at_call 32; refine hal.mono ?_; rintro e w' ⟨rfl, rfl⟩)
          go_ret
          exact ⟨ret_i HV.out.symm, rfl⟩
end Go.Proofs.YtdilngjolhmjnaaGreatDoor
