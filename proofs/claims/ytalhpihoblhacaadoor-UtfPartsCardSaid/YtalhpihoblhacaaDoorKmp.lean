/- Plain facts on a search that keeps how many first items of a part a text ends with: lists alone, no program, no conditions. -/
import Init.Data.List
namespace Go.Proofs.YtalhpihoblhacaaDoor
namespace U

/-- T ends with the first k of P. -/
def Suf (P T : List Nat) (k : Nat) : Prop := k ≤ P.length ∧ P.take k <:+ T
/-- .. and with no more of them than h. -/
def Best (P T : List Nat) (h : Nat) : Prop := Suf P T h ∧ ∀ k, Suf P T k → k ≤ h
/-- What stands in P behind its first, ahead of place i. -/
def mid (P : List Nat) (i : Nat) : List Nat := (P.take i).drop 1

theorem suf_zero (P T : List Nat) : Suf P T 0 := ⟨Nat.zero_le _, by simp⟩
theorem suf_len {P T : List Nat} {k : Nat} (h : Suf P T k) : k ≤ T.length := by
  have := h.2.length_le
  rw [List.length_take] at this
  have := h.1
  omega
theorem best_nil (P : List Nat) : Best P [] 0 := ⟨suf_zero _ _, fun k hk => by have := suf_len hk; simpa using this⟩
theorem best_le {P T : List Nat} {h : Nat} (hb : Best P T h) : h ≤ P.length ∧ h ≤ T.length := ⟨hb.1.1, suf_len hb.1⟩

/-- One item more. -/
theorem suf_succ {P T : List Nat} {k u : Nat} : Suf P (T ++ [u]) (k + 1) ↔ Suf P T k ∧ k < P.length ∧ P.getD k 0 = u := by
  constructor
  · rintro ⟨h1, h2⟩
    have hk : k < P.length := by omega
    rw [List.take_succ_eq_append_getElem hk] at h2
    obtain ⟨t, ht⟩ := h2
    rw [← List.append_assoc] at ht
    have := List.append_inj' ht rfl
    refine ⟨⟨by omega, t, this.1⟩, hk, ?_⟩
    rw [List.getD_eq_getElem?_getD, List.getElem?_eq_getElem hk]
    simpa using this.2
  · rintro ⟨⟨h1, t, ht⟩, hk, hu⟩
    refine ⟨by omega, t, ?_⟩
    rw [List.take_succ_eq_append_getElem hk, ← List.append_assoc, ht]
    rw [List.getD_eq_getElem?_getD, List.getElem?_eq_getElem hk] at hu
    simp at hu
    rw [hu]

/-- What ends P.take h, and what T ends with, is what T ends with. -/
theorem suf_below {P T : List Nat} {h k : Nat} (hh : Suf P T h) (hk : k ≤ h) : Suf P T k ↔ Suf P (P.take h) k := by
  constructor
  · rintro ⟨h1, h2⟩
    refine ⟨h1, ?_⟩
    exact List.suffix_of_suffix_length_le h2 hh.2 (by simp only [List.length_take]; omega)
  · rintro ⟨h1, h2⟩
    exact ⟨h1, h2.trans hh.2⟩

/-- Of the first h of P, shorter ends: those of what stands behind its first. -/
theorem suf_mid {P : List Nat} {h k : Nat} (hP : h ≤ P.length) (h1 : 1 ≤ h) (hk : k < h) : Suf P (P.take h) k ↔ Suf P (mid P h) k := by
  have hne : P.take h = (P.take h).take 1 ++ mid P h := by unfold mid; rw [List.take_append_drop]
  constructor
  · rintro ⟨a, b⟩
    refine ⟨a, List.suffix_of_suffix_length_le b ⟨(P.take h).take 1, hne.symm⟩ ?_⟩
    unfold mid
    simp only [List.length_take, List.length_drop]
    omega
  · rintro ⟨a, b⟩
    exact ⟨a, b.trans ⟨(P.take h).take 1, hne.symm⟩⟩
theorem mid_length (P : List Nat) (h : Nat) (hP : h ≤ P.length) : (mid P h).length = h - 1 := by
  unfold mid
  simp only [List.length_drop, List.length_take]
  omega
theorem mid_one (P : List Nat) : mid P 1 = [] := by
  unfold mid
  cases P <;> simp
theorem mid_succ (P : List Nat) (i : Nat) (h1 : 1 ≤ i) (h : i < P.length) : mid P (i + 1) = mid P i ++ [P.getD i 0] := by
  unfold mid
  rw [List.take_succ_eq_append_getElem h, List.drop_append_of_le_length (by rw [List.length_take]; omega)]
  rw [List.getD_eq_getElem?_getD, List.getElem?_eq_getElem h]
  rfl

/-- Where the search stands within one item: T ends with h of P; more of them, up to the best, don't go on with u. -/
def Held (P T : List Nat) (u h : Nat) : Prop := Suf P T h ∧ ∀ k, Suf P T k → h < k → ¬ (k < P.length ∧ P.getD k 0 = u)
theorem held_best {P T : List Nat} {u h : Nat} (hb : Best P T h) : Held P T u h := ⟨hb.1, fun k hk hlt => by have := hb.2 k hk; omega⟩
theorem held_down {P T : List Nat} {u h f : Nat} (hh : Held P T u h) (h1 : 1 ≤ h) (hu : P.getD h 0 ≠ u) (hf : Best P (mid P h) f) : Held P T u f ∧ f < h := by
  have hP : h ≤ P.length := hh.1.1
  have hfl : f < h := by
    have := best_le hf
    rw [mid_length P h hP] at this
    omega
  refine ⟨⟨(suf_below hh.1 (by omega)).2 ((suf_mid hP h1 hfl).2 hf.1), fun k hk hlt => ?_⟩, hfl⟩
  by_cases hkh : h < k
  · exact hh.2 k hk hkh
  · by_cases e : k = h
    · subst e
      exact fun hc => hu hc.2
    · have hk2 : k < h := by omega
      have := hf.2 k ((suf_mid hP h1 hk2).1 ((suf_below hh.1 (by omega)).1 hk))
      omega
theorem held_yes {P T : List Nat} {u h : Nat} (hh : Held P T u h) (hP : h < P.length) (hu : P.getD h 0 = u) : Best P (T ++ [u]) (h + 1) := by
  refine ⟨suf_succ.2 ⟨hh.1, hP, hu⟩, fun k hk => ?_⟩
  cases k with
  | zero => omega
  | succ k =>
    obtain ⟨a, b, c⟩ := suf_succ.1 hk
    have := hh.2 k a
    by_cases hlt : h < k
    · exact absurd ⟨b, c⟩ (this hlt)
    · omega
theorem held_no {P T : List Nat} {u : Nat} (hh : Held P T u 0) (hu : P.getD 0 0 ≠ u) : Best P (T ++ [u]) 0 := by
  refine ⟨suf_zero _ _, fun k hk => ?_⟩
  cases k with
  | zero => omega
  | succ k =>
    obtain ⟨a, b, c⟩ := suf_succ.1 hk
    cases k with
    | zero => exact absurd c hu
    | succ k => exact absurd ⟨b, c⟩ (hh.2 (k + 1) a (by omega))

/-- P stands in W at place i. -/
def StandsAt (W P : List Nat) (i : Nat) : Prop := i + P.length ≤ W.length ∧ (W.drop i).take P.length = P
theorem stands_suf (W P : List Nat) (f i : Nat) (hfi : f ≤ i) : (StandsAt W P i → Suf P ((W.take (i + P.length)).drop f) P.length) ∧
    (i + P.length ≤ W.length → Suf P ((W.take (i + P.length)).drop f) P.length → StandsAt W P i) := by
  have e : ∀ (hl : i + P.length ≤ W.length), (W.take (i + P.length)).drop f = ((W.take i).drop f) ++ (W.drop i).take P.length := by
    intro hl
    rw [List.take_add, List.drop_append_of_le_length (by rw [List.length_take]; omega)]
  constructor
  · rintro ⟨hl, hs⟩
    refine ⟨Nat.le_refl _, ?_⟩
    rw [e hl, hs, List.take_length]
    exact ⟨_, rfl⟩
  · rintro hl ⟨_, h2⟩
    refine ⟨hl, ?_⟩
    rw [e hl, List.take_length] at h2
    obtain ⟨t, ht⟩ := h2
    exact (List.append_inj' ht (by rw [List.length_take, List.length_drop]; omega)).2.symm
theorem take_drop_succ (W : List Nat) (f i : Nat) (hf : f ≤ i) (hi : i < W.length) : (W.take (i + 1)).drop f = (W.take i).drop f ++ [W.getD i 0] := by
  rw [List.take_succ_eq_append_getElem hi, List.drop_append_of_le_length (by rw [List.length_take]; omega)]
  rw [List.getD_eq_getElem?_getD, List.getElem?_eq_getElem hi]
  rfl
end U
end Go.Proofs.YtalhpihoblhacaaDoor
