/- A comment and an instruction put in ahead of each tag leave a document's tokens as they are, but for places. Plain facts. No conditions but those that each fact names. -/
import Derived.Test.YtobndhjcimafgaaGreatDoorRemK
import Derived.Test.YtobndhjcimafgaaGreatDoorSame
namespace Go.Proofs.YtobndhjcimafgaaGreatDoor
open Go.RowKit Go.Shelf
set_option linter.all false

/-- The comment and the instruction. -/
def rem : List Nat := [60, 33, 45, 45, 32, 60, 97, 62, 32, 45, 32, 38, 32, 45, 45, 62, 60, 63, 112, 105, 32, 60, 98, 62, 32, 63, 62]
def bang (r : List Nat) : Prop := r.head? = some 33 ∨ r.head? = some 63
instance (r : List Nat) : Decidable (bang r) := by unfold bang; exact inferInstance
/-- The characters with the two put in; true: in what begins with ! or ?. -/
def rkN : Bool → List Nat → List Nat
  | _, [] => []
  | true, c :: r => c :: rkN (decide (c ≠ 62)) r
  | false, c :: r => if c = 60 then (if bang r then 60 :: rkN true r else rem ++ 60 :: rkN false r) else c :: rkN false r
/-- The beginnings of which the law asks. -/
def cks : Bool → List Nat → List (List Nat)
  | _, [] => []
  | true, c :: r => if c = 62 then [c] :: (cks false r).map (c :: ·) else (cks true r).map (c :: ·)
  | false, c :: r => if c = 60 ∧ bang r then (cks true r).map (c :: ·) else (cks false r).map (c :: ·)

theorem rkN_no60 : ∀ (u l : List Nat), (∀ x ∈ u, x ≠ 60) → rkN false (u ++ l) = u ++ rkN false l
  | [], l, _ => rfl
  | c :: u, l, h => by
    have hc : c ≠ 60 := h c List.mem_cons_self
    rw [List.cons_append, rkN, if_neg hc, rkN_no60 u l (fun x hx => h x (List.mem_cons_of_mem _ hx))]
    rfl
theorem rkN_no62 : ∀ (u l : List Nat), (∀ x ∈ u, x ≠ 62) → rkN true (u ++ 62 :: l) = u ++ 62 :: rkN false l
  | [], l, _ => by rw [List.nil_append, rkN]; rfl
  | c :: u, l, h => by
    have hc : c ≠ 62 := h c List.mem_cons_self
    rw [List.cons_append, rkN, decide_eq_true hc, rkN_no62 u l (fun x hx => h x (List.mem_cons_of_mem _ hx))]
    rfl
theorem cks_no60 : ∀ (u l : List Nat), (∀ x ∈ u, x ≠ 60) → ∀ a ∈ cks false l, u ++ a ∈ cks false (u ++ l)
  | [], l, _, a, ha => ha
  | c :: u, l, h, a, ha => by
    have hc : c ≠ 60 := h c List.mem_cons_self
    rw [List.cons_append, cks, if_neg (by rintro ⟨e, _⟩; exact hc e)]
    exact List.mem_map.2 ⟨u ++ a, cks_no60 u l (fun x hx => h x (List.mem_cons_of_mem _ hx)) a ha, rfl⟩
theorem cks_no62 : ∀ (u l : List Nat), (∀ x ∈ u, x ≠ 62) → u ++ [62] ∈ cks true (u ++ 62 :: l) ∧ ∀ a ∈ cks false l, u ++ 62 :: a ∈ cks true (u ++ 62 :: l)
  | [], l, _ => by
    rw [List.nil_append, cks, if_pos rfl]
    exact ⟨List.mem_cons_self, fun a ha => List.mem_cons_of_mem _ (List.mem_map.2 ⟨a, ha, rfl⟩)⟩
  | c :: u, l, h => by
    have hc : c ≠ 62 := h c List.mem_cons_self
    obtain ⟨h1, h2⟩ := cks_no62 u l (fun x hx => h x (List.mem_cons_of_mem _ hx))
    rw [List.cons_append, cks, if_neg hc]
    exact ⟨List.mem_map.2 ⟨_, h1, rfl⟩, fun a ha => List.mem_map.2 ⟨_, h2 a ha, rfl⟩⟩
theorem cks_pre : ∀ (b : Bool) (l a : List Nat), a ∈ cks b l → a ≠ [] ∧ ∃ r, l = a ++ r
  | _, [], a, h => by cases ‹Bool› <;> simp [cks] at h
  | true, c :: l, a, h => by
    rw [cks] at h
    split at h
    · rcases List.mem_cons.1 h with rfl | h
      · exact ⟨by simp, l, rfl⟩
      · obtain ⟨a', h', rfl⟩ := List.mem_map.1 h
        obtain ⟨_, r, rfl⟩ := cks_pre false l a' h'
        exact ⟨by simp, r, rfl⟩
    · obtain ⟨a', h', rfl⟩ := List.mem_map.1 h
      obtain ⟨_, r, rfl⟩ := cks_pre true l a' h'
      exact ⟨by simp, r, rfl⟩
  | false, c :: l, a, h => by
    rw [cks] at h
    split at h
    · obtain ⟨a', h', rfl⟩ := List.mem_map.1 h
      obtain ⟨_, r, rfl⟩ := cks_pre true l a' h'
      exact ⟨by simp, r, rfl⟩
    · obtain ⟨a', h', rfl⟩ := List.mem_map.1 h
      obtain ⟨_, r, rfl⟩ := cks_pre false l a' h'
      exact ⟨by simp, r, rfl⟩
theorem rkN_stop {s : List Nat} (h : Stop60 s) : Stop60 (rkN false s) := by
  rcases h with rfl | h
  · exact .inl rfl
  · cases s with
    | nil => cases h
    | cons c r =>
      simp only [List.head?_cons, Option.some.injEq] at h
      subst h
      rw [rkN, if_pos rfl]
      split
      · exact .inr rfl
      · exact .inr rfl

/-- Alike but for places. -/
def LikeTold (t t' : K.Told) : Prop := t'.toks.map stT = t.toks.map stT ∧ t'.text = t.text
theorem LikeTold.say {t t' : K.Told} (h : LikeTold t t') (x : List Nat) (p p' : K.Pl) : LikeTold (K.say t x p) (K.say t' x p') := ⟨h.1, by show t'.text ++ x = t.text ++ x; rw [h.2]⟩
theorem LikeTold.ended {t t' : K.Told} (h : LikeTold t t') : (K.endText t').map stT = (K.endText t).map stT := by
  unfold K.endText
  rw [h.2]
  split
  · exact h.1
  · rw [List.map_append, List.map_append, h.1]
    rfl
theorem LikeTold.tag {t t' : K.Told} (h : LikeTold t t') {k k' : K.Tk} (hk : stT k' = stT k) : LikeTold (K.tag t k) (K.tag t' k') := by
  refine ⟨?_, rfl⟩
  show (K.endText t' ++ [k']).map stT = (K.endText t ++ [k]).map stT
  rw [List.map_append, List.map_append, h.ended]
  simp [hk]
theorem sees_two {t l : List Nat} {p : K.Pl} (h : K.sees t (l, p) = true) : ∃ r, l = t ++ r := by
  obtain ⟨r, hr⟩ := List.isPrefixOf_iff_prefix.1 h
  exact ⟨r, hr.symm⟩
theorem sees_app (t r : List Nat) (p : K.Pl) : K.sees t (t ++ r, p) = true := List.isPrefixOf_iff_prefix.2 ⟨r, rfl⟩

/-- Which part it is doesn't hang on what was told. -/
theorem part_told {s s1 : K.St} {t t1 : K.Told} (h : K.part s t = .ok (t1, s1)) (t' : K.Told) : ∃ t1', K.part s t' = .ok (t1', s1) := by
  rw [part_eq] at h ⊢
  split at h
  · rename_i hs; rw [if_pos hs]
    have := onS_ok h; rw [this]; exact ⟨_, rfl⟩
  rename_i hs; rw [if_neg hs]
  split at h
  · rename_i hs; rw [if_pos hs]
    have := onS_ok h; rw [this]; exact ⟨_, rfl⟩
  rename_i hs; rw [if_neg hs]
  split at h
  · rename_i hs; rw [if_pos hs]
    obtain ⟨m, this⟩ := onM_ok h; rw [this]; exact ⟨_, rfl⟩
  rename_i hs; rw [if_neg hs]
  split at h
  · cases h
  rename_i hs; rw [if_neg hs]
  split at h
  · cases h
  rename_i hs; rw [if_neg hs]
  split at h
  · rename_i hs; rw [if_pos hs]
    obtain ⟨m, this⟩ := onT_ok h; rw [this]; exact ⟨_, rfl⟩
  rename_i hs; rw [if_neg hs]
  split at h
  · rename_i hs; rw [if_pos hs]
    obtain ⟨m, this⟩ := onT_ok h; rw [this]; exact ⟨_, rfl⟩
  rename_i hs; rw [if_neg hs]
  obtain ⟨m, this⟩ := onM_ok h; rw [this]; exact ⟨_, rfl⟩
/-- A part that begins with ! or ? behind its mark is eaten up to a last mark. -/
theorem part_rem {h0 : Nat} {l r : List Nat} {p q : K.Pl} {t t1 : K.Told} (hh : h0 = 33 ∨ h0 = 63) (h : K.part (60 :: h0 :: l, p) t = .ok (t1, (r, q))) : ∃ u, l = u ++ 62 :: r ∧
    ∀ r' p' t', LikeTold t t' → ∃ t1' q', K.part (60 :: h0 :: (u ++ 62 :: r'), p') t' = .ok (t1', (r', q')) ∧ LikeTold t1 t1' := by
  rw [part_eq] at h
  split at h
  · rename_i hs
    obtain ⟨z, hz⟩ := sees_two hs
    obtain ⟨rfl, rfl⟩ : h0 = 63 ∧ l = z := by simpa using hz
    have ht := onS_ok h
    rw [ht] at h
    simp only [onS, Except.ok.injEq, Prod.mk.injEq] at h
    obtain ⟨rfl, _⟩ := h
    obtain ⟨u, rfl, hk⟩ := instruction_cl ht
    refine ⟨u, rfl, fun r' p' t' hl => ?_⟩
    obtain ⟨q', e⟩ := hk r' p'
    refine ⟨t', q', ?_, hl⟩
    rw [part_eq, if_pos (show K.sees [60, 63] (60 :: 63 :: (u ++ 62 :: r'), p') = true from rfl), e]
    rfl
  · rename_i hns
    split at h
    · rename_i hs
      obtain ⟨z, hz⟩ := sees_two hs
      obtain ⟨rfl, rfl⟩ : h0 = 33 ∧ l = 45 :: 45 :: z := by simpa using hz
      have ht := onS_ok h
      rw [ht] at h
      simp only [onS, Except.ok.injEq, Prod.mk.injEq] at h
      obtain ⟨rfl, _⟩ := h
      obtain ⟨u, rfl, hk⟩ := comment_cl ht
      refine ⟨45 :: 45 :: u, rfl, fun r' p' t' hl => ?_⟩
      obtain ⟨q', e⟩ := hk r' p'
      refine ⟨t', q', ?_, hl⟩
      show K.part (60 :: 33 :: 45 :: 45 :: (u ++ 62 :: r'), p') t' = _
      rw [part_eq, if_neg (show ¬ K.sees [60, 63] (60 :: 33 :: 45 :: 45 :: (u ++ 62 :: r'), p') = true from Bool.false_ne_true), if_pos (show K.sees [60, 33, 45, 45] (60 :: 33 :: 45 :: 45 :: (u ++ 62 :: r'), p') = true from rfl), e]
      rfl
    · rename_i hns2
      split at h
      · rename_i hs
        obtain ⟨z, hz⟩ := sees_two hs
        obtain ⟨rfl, rfl⟩ : h0 = 33 ∧ l = 91 :: 67 :: 68 :: 65 :: 84 :: 65 :: 91 :: z := by simpa using hz
        obtain ⟨m, hm⟩ := onM_ok h
        rw [hm] at h
        simp only [onM, Except.ok.injEq, Prod.mk.injEq] at h
        obtain ⟨rfl, _⟩ := h
        obtain ⟨u, rfl, hk⟩ := section_cl hm
        refine ⟨91 :: 67 :: 68 :: 65 :: 84 :: 65 :: 91 :: u, rfl, fun r' p' t' hl => ?_⟩
        obtain ⟨q', e⟩ := hk r' p'
        refine ⟨K.say t' m p', q', ?_, hl.say _ _ _⟩
        show K.part (60 :: 33 :: 91 :: 67 :: 68 :: 65 :: 84 :: 65 :: 91 :: (u ++ 62 :: r'), p') t' = _
        rw [part_eq, if_neg (show ¬ K.sees [60, 63] (60 :: 33 :: 91 :: 67 :: 68 :: 65 :: 84 :: 65 :: 91 :: (u ++ 62 :: r'), p') = true from Bool.false_ne_true),
          if_neg (show ¬ K.sees [60, 33, 45, 45] (60 :: 33 :: 91 :: 67 :: 68 :: 65 :: 84 :: 65 :: 91 :: (u ++ 62 :: r'), p') = true from Bool.false_ne_true), if_pos (show K.sees [60, 33, 91, 67, 68, 65, 84, 65, 91] (60 :: 33 :: 91 :: 67 :: 68 :: 65 :: 84 :: 65 :: 91 :: (u ++ 62 :: r'), p') = true from rfl), e]
        rfl
      · rename_i hns3
        split at h
        · cases h
        · split at h
          · cases h
          · rename_i hns4
            exfalso
            rcases hh with rfl | rfl
            · exact hns4 rfl
            · exact hns rfl
/-- A tag is eaten up to its end. -/
theorem part_tag_cl {l r : List Nat} {p q : K.Pl} {t t1 : K.Told} (hb : ¬ bang l) (h : K.part (60 :: l, p) t = .ok (t1, (r, q))) : ∃ b u, l = b :: (u ++ r) ∧ (∀ x ∈ b :: u, x ≠ 60) ∧
    ∀ r' p' t', LikeTold t t' → ∃ t1' q', K.part (60 :: b :: (u ++ r'), p') t' = .ok (t1', (r', q')) ∧ LikeTold t1 t1' := by
  have hno : ∀ (x : Nat) (y : List Nat) (b : Nat) (s : List Nat) (p : K.Pl), b ≠ x → ¬ K.sees (60 :: x :: y) (60 :: b :: s, p) = true := by
    intro x y b s p hbx e
    obtain ⟨z, hz⟩ := sees_two e
    simp at hz
    exact hbx hz.1
  rw [part_eq] at h
  split at h
  · rename_i hs
    obtain ⟨z, hz⟩ := sees_two hs
    exact absurd (.inr (by simp at hz; rw [hz]; rfl)) hb
  split at h
  · rename_i hs
    obtain ⟨z, hz⟩ := sees_two hs
    exact absurd (.inl (by simp at hz; rw [hz]; rfl)) hb
  split at h
  · rename_i hs
    obtain ⟨z, hz⟩ := sees_two hs
    exact absurd (.inl (by simp at hz; rw [hz]; rfl)) hb
  split at h
  · cases h
  split at h
  · cases h
  split at h
  · rename_i hs
    obtain ⟨z, hz⟩ := sees_two hs
    have hz : l = 47 :: z := by simpa using hz
    subst hz
    obtain ⟨k, hk⟩ := onT_ok h
    rw [hk] at h
    simp only [onT, Except.ok.injEq, Prod.mk.injEq] at h
    obtain ⟨rfl, _⟩ := h
    obtain ⟨b, u, rfl, hu, hcl⟩ := endTag_cl hk
    refine ⟨47, b :: u, rfl, ?_, fun r' p' t' hl => ?_⟩
    · intro x hx
      rcases List.mem_cons.1 hx with rfl | hx
      · decide
      · exact hu x hx
    · obtain ⟨k', q', e, hk'⟩ := hcl r' p'
      refine ⟨K.tag t' k', q', ?_, hl.tag hk'⟩
      show K.part (60 :: 47 :: b :: (u ++ r'), p') t' = _
      rw [part_eq, if_neg (hno _ _ _ _ _ (by decide)), if_neg (hno _ _ _ _ _ (by decide)), if_neg (hno _ _ _ _ _ (by decide)), if_neg (hno _ _ _ _ _ (by decide)), if_neg (hno _ _ _ _ _ (by decide)), if_pos (show K.sees [60, 47] (60 :: 47 :: b :: (u ++ r'), p') = true from rfl), e]
      rfl
  split at h
  · obtain ⟨k, hk⟩ := onT_ok h
    rw [hk] at h
    simp only [onT, Except.ok.injEq, Prod.mk.injEq] at h
    obtain ⟨rfl, _⟩ := h
    obtain ⟨b, u, rfl, hu, hbeg, hcl⟩ := startTag_cl hk
    obtain ⟨h33, h63, h47, _, _⟩ := begins_no hbeg
    refine ⟨b, u, rfl, hu, fun r' p' t' hl => ?_⟩
    obtain ⟨k', q', e, hk'⟩ := hcl r' p'
    refine ⟨K.tag t' k', q', ?_, hl.tag hk'⟩
    rw [part_eq, if_neg (hno _ _ _ _ _ h63), if_neg (hno _ _ _ _ _ h33), if_neg (hno _ _ _ _ _ h33), if_neg (hno _ _ _ _ _ h33), if_neg (hno _ _ _ _ _ h33), if_neg (hno _ _ _ _ _ h47), if_pos (show K.sees [60] (60 :: b :: (u ++ r'), p') = true from rfl), e]
    rfl
  · rename_i hs
    exact absurd (sees_app [60] l p) hs
theorem part_words_cl {c : Nat} {l r : List Nat} {p q : K.Pl} {t t1 : K.Told} (h60 : c ≠ 60) (h : K.part (c :: l, p) t = .ok (t1, (r, q))) : ∃ u, l = u ++ r ∧ (∀ x ∈ u, x ≠ 60) ∧ Stop60 r ∧
    ∀ r' p' t', Stop60 r' → LikeTold t t' → ∃ t1' q', K.part (c :: (u ++ r'), p') t' = .ok (t1', (r', q')) ∧ LikeTold t1 t1' := by
  have hno : ∀ (y l : List Nat) (p : K.Pl), ¬ K.sees (60 :: y) (c :: l, p) = true := fun y l p => sees_not h60 y l p
  have hlt := part_lt h
  rw [part_eq, if_neg (hno _ _ _), if_neg (hno _ _ _), if_neg (hno _ _ _), if_neg (hno _ _ _), if_neg (hno _ _ _), if_neg (hno _ _ _), if_neg (hno _ _ _)] at h
  obtain ⟨m, hm⟩ := onM_ok h
  rw [hm] at h
  simp only [onM, Except.ok.injEq, Prod.mk.injEq] at h
  obtain ⟨rfl, _⟩ := h
  obtain ⟨u, hu, hu60, hst, hcl⟩ := words_cl hm
  cases u with
  | nil =>
    exfalso
    rw [List.nil_append] at hu
    rw [← hu] at hlt
    simp at hlt
    omega
  | cons d u =>
    rw [List.cons_append] at hu
    obtain ⟨rfl, rfl⟩ := List.cons.inj hu
    refine ⟨u, rfl, fun x hx => hu60 x (List.mem_cons_of_mem _ hx), hst, fun r' p' t' hs hl => ?_⟩
    obtain ⟨q', e⟩ := hcl r' p' hs
    refine ⟨K.say t' m p', q', ?_, hl.say _ _ _⟩
    rw [part_eq, if_neg (hno _ _ _), if_neg (hno _ _ _), if_neg (hno _ _ _), if_neg (hno _ _ _), if_neg (hno _ _ _), if_neg (hno _ _ _), if_neg (hno _ _ _)]
    rw [List.cons_append] at e
    rw [e]
    rfl
theorem DF_ok2 {s s1 : K.St} {t t1 : K.Told} (h : K.part s t = .ok (t1, s1)) (hs : s.1 ≠ []) : DF s t = DF s1 t1 := by
  obtain ⟨l, p⟩ := s
  cases l with
  | nil => exact absurd rfl hs
  | cons c r => exact DF_ok h
/-- The two are gone over. -/
theorem DF_rem (l : List Nat) (p : K.Pl) (t : K.Told) : ∃ p', DF (rem ++ l, p) t = DF (l, p') t := by
  have h1 : K.part (rem ++ l, p) t = .ok (t, ([60, 63, 112, 105, 32, 60, 98, 62, 32, 63, 62] ++ l, K.advs p [60, 33, 45, 45, 32, 60, 97, 62, 32, 45, 32, 38, 32, 45, 45, 62])) := by
    unfold K.part
    rw [if_neg (show ¬ K.sees [60, 63] (rem ++ l, p) = true from Bool.false_ne_true), if_pos (show K.sees [60, 33, 45, 45] (rem ++ l, p) = true from rfl)]
    have : K.comment (rem ++ l, p) = .ok ([60, 63, 112, 105, 32, 60, 98, 62, 32, 63, 62] ++ l, K.advs p [60, 33, 45, 45, 32, 60, 97, 62, 32, 45, 32, 38, 32, 45, 45, 62]) := by
      unfold K.comment
      have hi : K.idx [45, 45] ((rem ++ l, p).1.drop 4) = some 9 := rfl
      simp only [hi]
      rw [if_neg (by simp [rem])]
      rfl
    rw [this]
  have h2 : ∀ p, ∃ p', K.part ([60, 63, 112, 105, 32, 60, 98, 62, 32, 63, 62] ++ l, p) t = .ok (t, (l, p')) := by
    intro p
    unfold K.part
    rw [if_pos (show K.sees [60, 63] ([60, 63, 112, 105, 32, 60, 98, 62, 32, 63, 62] ++ l, p) = true from rfl)]
    have : ∃ p', K.instruction ([60, 63, 112, 105, 32, 60, 98, 62, 32, 63, 62] ++ l, p) = .ok (l, p') := ⟨_, rfl⟩
    obtain ⟨p', e⟩ := this
    exact ⟨p', by rw [e]⟩
  obtain ⟨p', e2⟩ := h2 (K.advs p [60, 33, 45, 45, 32, 60, 97, 62, 32, 45, 32, 38, 32, 45, 45, 62])
  refine ⟨p', ?_⟩
  rw [DF_ok2 h1 (by simp [rem]), DF_ok2 e2 (by simp)]
/-- A list's first 62, if there is one. -/
theorem split62 : ∀ l : List Nat, 62 ∈ l → ∃ u r, l = u ++ 62 :: r ∧ ∀ x ∈ u, x ≠ 62
  | [], h => by simp at h
  | c :: l, h => by
    by_cases hc : c = 62
    · exact ⟨[], l, by rw [hc]; rfl, by simp⟩
    · rcases List.mem_cons.1 h with h | h
      · exact absurd h.symm hc
      · obtain ⟨u, r, rfl, hu⟩ := split62 l h
        refine ⟨c :: u, r, rfl, fun x hx => ?_⟩
        rcases List.mem_cons.1 hx with rfl | hx
        · exact hc
        · exact hu x hx
theorem bang_app {u r r' : List Nat} (h : bang (u ++ 62 :: r)) : ∃ h0 u', u = h0 :: u' ∧ (h0 = 33 ∨ h0 = 63) := by
  cases u with
  | nil =>
    rcases h with h | h <;> cases h
  | cons h0 u =>
    refine ⟨h0, u, rfl, ?_⟩
    rcases h with h | h
    · exact .inl (Option.some.inj h)
    · exact .inr (Option.some.inj h)
/-- The document's part behind its declaration. -/
theorem DF_rk : ∀ (n : Nat) (l : List Nat), l.length ≤ n → ∀ (p p' : K.Pl) (t t' : K.Told) (L : List K.Tk), LikeTold t t' → DF (l, p) t = .ok L → (∀ a ∈ cks false l, ∃ p0 t0 L0, DF (a, p0) t0 = .ok L0) →
    ∃ L', DF (rkN false l, p') t' = .ok L' ∧ L'.map stT = L.map stT
  | n, [], _, p, p', t, t', L, hl, h, _ => by
    rw [DF_nil] at h
    simp only [Except.ok.injEq] at h
    subst h
    exact ⟨K.endText t', by rw [rkN, DF_nil], hl.ended⟩
  | 0, c :: l, hn, _, _, _, _, _, _, _, _ => by simp at hn
  | n + 1, c :: l, hn, p, p', t, t', L, hl, h, hck => by
    cases hp : K.part (c :: l, p) t with
    | error e => rw [DF_err hp] at h; cases h
    | ok z =>
      obtain ⟨t1, r, q⟩ := z
      have hlt := part_lt hp
      rw [DF_ok hp] at h
      simp only [List.length_cons] at hn hlt
      by_cases h60 : c = 60
      · subst h60
        by_cases hb : bang l
        · -- what begins with ! or ?
          have h62 : 62 ∈ l := by
            obtain ⟨h0, l0, rfl, hh⟩ : ∃ h0 l0, l = h0 :: l0 ∧ (h0 = 33 ∨ h0 = 63) := by
              cases l with
              | nil => rcases hb with hb | hb <;> cases hb
              | cons a b =>
                refine ⟨a, b, rfl, ?_⟩
                rcases hb with hb | hb
                · exact .inl (Option.some.inj hb)
                · exact .inr (Option.some.inj hb)
            obtain ⟨u, rfl, _⟩ := part_rem hh hp
            simp
          obtain ⟨u, r2, rfl, hu⟩ := split62 l h62
          obtain ⟨h0, u', rfl, hh⟩ := bang_app (r' := r2) hb
          have hb2 : bang ((h0 :: u') ++ 62 :: []) := hb
          -- the beginning of which the law asks
          obtain ⟨p0, ta, L0, hD⟩ := hck (60 :: ((h0 :: u') ++ [62])) (by
            rw [cks, if_pos ⟨rfl, hb⟩]
            exact List.mem_map.2 ⟨_, (cks_no62 (h0 :: u') r2 hu).1, rfl⟩)
          cases hpa : K.part (60 :: ((h0 :: u') ++ [62]), p0) ta with
          | error e => rw [DF_err hpa] at hD; cases hD
          | ok z =>
            obtain ⟨tb, rb, qb⟩ := z
            obtain ⟨w, hw, hcl⟩ := part_rem hh (show K.part (60 :: h0 :: (u' ++ [62]), p0) ta = .ok (tb, (rb, qb)) from hpa)
            -- nothing is left of it
            have hrb : w = u' ∧ rb = [] := by
              have hlen := congrArg List.length hw
              rcases List.append_eq_append_iff.1 hw with ⟨z, h1, h2⟩ | ⟨z, h1, h2⟩
              · cases z with
                | nil => rw [List.append_nil] at h1; subst h1; simp at h2; exact ⟨rfl, h2⟩
                | cons a z => simp at h2
              · cases z with
                | nil => rw [List.append_nil] at h1; subst h1; simp at h2; exact ⟨rfl, h2⟩
                | cons a z =>
                  exfalso
                  simp only [List.cons_append, List.cons.injEq] at h2
                  have : (62 : Nat) ∈ u' := by rw [h1, ← h2.1]; simp
                  exact hu 62 (List.mem_cons_of_mem _ this) rfl
            obtain ⟨rfl, rfl⟩ := hrb
            -- the document itself
            have hfull := part_rem hh (show K.part (60 :: h0 :: (w ++ 62 :: r2), p) t = .ok (t1, (r, q)) from hp)
            obtain ⟨w2, hw2, hcl2⟩ := hfull
            obtain ⟨t3, q3, e3, _⟩ := hcl r2 p ⟨ta.toks, ta.text, ta.place⟩ ⟨rfl, rfl⟩
            have hr2 : w2 = w ∧ r = r2 := by
              have e4 := part_told e3 t
              obtain ⟨tc, e4⟩ := e4
              have e5 := hp
              rw [show (60 :: ((h0 :: w) ++ 62 :: r2), p) = (60 :: h0 :: (w ++ 62 :: r2), p) from rfl, e4] at e5
              simp only [Except.ok.injEq, Prod.mk.injEq] at e5
              have hr : r2 = r := e5.2.1
              subst hr
              exact ⟨(List.append_cancel_right hw2).symm, rfl⟩
            obtain ⟨rfl, rfl⟩ := hr2
            obtain ⟨t5, q5, e5, hl5⟩ := hcl2 (rkN false r) p' t' hl
            obtain ⟨L', e6, h6⟩ := DF_rk n r (by omega) q q5 t1 t5 L hl5 h (by
              intro a ha
              obtain ⟨pa, tq, La, hDa⟩ := hck (60 :: ((h0 :: w2) ++ 62 :: a)) (by
                rw [cks, if_pos ⟨rfl, hb⟩]
                exact List.mem_map.2 ⟨_, (cks_no62 (h0 :: w2) r hu).2 a ha, rfl⟩)
              obtain ⟨t7, q7, e7, _⟩ := hcl a pa ⟨ta.toks, ta.text, ta.place⟩ ⟨rfl, rfl⟩
              cases hpx : K.part (60 :: ((h0 :: w2) ++ 62 :: a), pa) tq with
              | error e => rw [DF_err hpx] at hDa; cases hDa
              | ok z =>
                obtain ⟨t8, r8, q8⟩ := z
                obtain ⟨w8, hw8, _⟩ := part_rem hh (show K.part (60 :: h0 :: (w2 ++ 62 :: a), pa) tq = .ok (t8, (r8, q8)) from hpx)
                have e8 : ∃ tc, K.part (60 :: h0 :: (w2 ++ 62 :: a), pa) tq = .ok (tc, (a, q7)) := part_told e7 tq
                obtain ⟨tc, e8⟩ := e8
                rw [DF_ok (show K.part (60 :: ((h0 :: w2) ++ 62 :: a), pa) tq = .ok (tc, (a, q7)) from e8)] at hDa
                exact ⟨_, _, _, hDa⟩)
            refine ⟨L', ?_, h6⟩
            rw [rkN, if_pos rfl, if_pos hb, rkN_no62 (h0 :: w2) r hu]
            rw [show 60 :: ((h0 :: w2) ++ 62 :: rkN false r) = 60 :: h0 :: (w2 ++ 62 :: rkN false r) from rfl, DF_ok e5]
            exact e6
        · obtain ⟨b, u, rfl, hu, hcl⟩ := part_tag_cl hb hp
          have hnb : ∀ x, ¬ bang (b :: x) := fun x hx => hb (by rcases hx with hx | hx; exact .inl hx; exact .inr hx)
          obtain ⟨p2, e2⟩ := DF_rem (60 :: b :: (u ++ rkN false r)) p' t'
          obtain ⟨t5, q5, e5, hl5⟩ := hcl (rkN false r) p2 t' hl
          obtain ⟨L', e6, h6⟩ := DF_rk n r (by omega) q q5 t1 t5 L hl5 h (by
            intro a ha
            obtain ⟨pa, tq, La, hDa⟩ := hck (60 :: ((b :: u) ++ a)) (by
              rw [cks, if_neg (by rintro ⟨_, e⟩; exact hb e)]
              exact List.mem_map.2 ⟨_, cks_no60 (b :: u) r hu a ha, rfl⟩)
            cases hpx : K.part (60 :: ((b :: u) ++ a), pa) tq with
            | error e => rw [DF_err hpx] at hDa; cases hDa
            | ok z =>
              obtain ⟨t8, r8, q8⟩ := z
              obtain ⟨t7, q7, e3, _⟩ := hcl a pa t ⟨rfl, rfl⟩
              have e8 : ∃ tc, K.part (60 :: b :: (u ++ a), pa) tq = .ok (tc, (a, q7)) := part_told e3 tq
              obtain ⟨tc, e8⟩ := e8
              rw [DF_ok (show K.part (60 :: ((b :: u) ++ a), pa) tq = .ok (tc, (a, q7)) from e8)] at hDa
              exact ⟨_, _, _, hDa⟩)
          refine ⟨L', ?_, h6⟩
          rw [rkN, if_pos rfl, if_neg hb, show b :: (u ++ r) = (b :: u) ++ r from rfl, rkN_no60 (b :: u) r hu, show rem ++ 60 :: ((b :: u) ++ rkN false r) = rem ++ 60 :: b :: (u ++ rkN false r) from rfl, e2, DF_ok e5]
          exact e6
      · obtain ⟨u, rfl, hu, hst, hcl⟩ := part_words_cl h60 hp
        obtain ⟨t5, q5, e5, hl5⟩ := hcl (rkN false r) p' t' (rkN_stop hst) hl
        have hcu : ∀ x ∈ c :: u, x ≠ 60 := by
          intro x hx
          rcases List.mem_cons.1 hx with rfl | hx
          · exact h60
          · exact hu x hx
        obtain ⟨L', e6, h6⟩ := DF_rk n r (by omega) q q5 t1 t5 L hl5 h (by
          intro a ha
          obtain ⟨pa, tq, La, hDa⟩ := hck ((c :: u) ++ a) (cks_no60 (c :: u) r hcu a ha)
          obtain ⟨hane, r9, hr9⟩ := cks_pre false r a ha
          have hsta : Stop60 a := by
            cases a with
            | nil => exact absurd rfl hane
            | cons d a =>
              rcases hst with hst | hst
              · rw [hst] at hr9; cases hr9
              · rw [hr9] at hst; exact .inr hst
          cases hpx : K.part ((c :: u) ++ a, pa) tq with
          | error e => rw [show (c :: u) ++ a = c :: (u ++ a) from rfl] at hpx hDa; rw [DF_err hpx] at hDa; cases hDa
          | ok z =>
            obtain ⟨t7, q7, e3, _⟩ := hcl a pa t hsta ⟨rfl, rfl⟩
            have e8 : ∃ tc, K.part (c :: (u ++ a), pa) tq = .ok (tc, (a, q7)) := part_told e3 tq
            obtain ⟨tc, e8⟩ := e8
            rw [show (c :: u) ++ a = c :: (u ++ a) from rfl, DF_ok e8] at hDa
            exact ⟨_, _, _, hDa⟩)
        refine ⟨L', ?_, h6⟩
        rw [show c :: (u ++ r) = (c :: u) ++ r from rfl, rkN_no60 (c :: u) r hcu, show (c :: u) ++ rkN false r = c :: (u ++ rkN false r) from rfl, DF_ok e5]
        exact e6
end Go.Proofs.YtobndhjcimafgaaGreatDoor
