/- The tokens of the document that the law TokTexts builds. Plain facts. No conditions but those that each fact names. -/
import Derived.Test.YtdilngjolhmjnaaGreatDoorTextsP
import Derived.Test.YtdilngjolhmjnaaGreatDoorB9
namespace Go.Proofs.YtdilngjolhmjnaaGreatDoor
open Go.RowKit Go.Shelf
set_option linter.all false

theorem attr1_one (vs R : List Nat) (q : K.Pl) : K.attr1 (98 :: 61 :: 34 :: (escN true vs ++ 34 :: R), q) = .ok (([98], vs, q), (R, K.adv (K.advs (K.adv (K.adv (K.adv q 98) 61) 34) (escN true vs)) 34)) := by
  have h1 : K.name (98 :: 61 :: 34 :: (escN true vs ++ 34 :: R), q) = .ok ([98], (61 :: 34 :: (escN true vs ++ 34 :: R), K.adv q 98)) := rfl
  have h2 : K.want [61] (K.blanks (61 :: 34 :: (escN true vs ++ 34 :: R), K.adv q 98)) = .ok (34 :: (escN true vs ++ 34 :: R), K.adv (K.adv q 98) 61) := rfl
  have h3 : K.value (K.blanks (34 :: (escN true vs ++ 34 :: R), K.adv (K.adv q 98) 61)) = K.valueF 34 ((escN true vs ++ 34 :: R).length + 1) (escN true vs ++ 34 :: R, K.adv (K.adv (K.adv q 98) 61) 34) [] := rfl
  unfold K.attr1
  rw [h1]
  simp only
  rw [h2]
  simp only
  rw [h3, valueF_esc _ _ _ _ _ (by simp; omega)]
  rfl
theorem attrs_one (vs R : List Nat) (p : K.Pl) : ∃ q, K.attrs (32 :: 98 :: 61 :: 34 :: (escN true vs ++ 34 :: 62 :: R), p) = .ok ([([98], vs, K.adv p 32)], (62 :: R, q)) := by
  refine ⟨K.adv (K.advs (K.adv (K.adv (K.adv (K.adv p 32) 98) 61) 34) (escN true vs)) 34, ?_⟩
  have hb : K.blanks (32 :: 98 :: 61 :: 34 :: (escN true vs ++ 34 :: 62 :: R), p) = (98 :: 61 :: 34 :: (escN true vs ++ 34 :: 62 :: R), K.adv p 32) := rfl
  have hn : ¬ (K.nblank (32 :: 98 :: 61 :: 34 :: (escN true vs ++ 34 :: 62 :: R), p) = 0 ∨ ¬ K.beginsS (98 :: 61 :: 34 :: (escN true vs ++ 34 :: 62 :: R), K.adv p 32) = true) := by
    rintro (h | h)
    · have : K.nblank (32 :: 98 :: 61 :: 34 :: (escN true vs ++ 34 :: 62 :: R), p) = 1 := rfl
      omega
    · exact h rfl
  unfold K.attrs
  unfold K.attrsF
  rw [hb, if_neg hn, attr1_one vs (62 :: R)]
  simp only [List.nil_append]
  show K.attrsF ((98 :: 61 :: 34 :: (escN true vs ++ 34 :: 62 :: R)).length + 1) _ _ = _
  unfold K.attrsF
  rw [if_pos (.inl rfl)]
  rfl
theorem startTag_one (vs R : List Nat) (p : K.Pl) : ∃ pa q, K.startTag (60 :: 97 :: 32 :: 98 :: 61 :: 34 :: (escN true vs ++ 34 :: 62 :: R), p) = .ok (⟨1, [97], [([98], vs, pa)], [], p, false⟩, (R, q)) := by
  have h1 : K.name (K.skip (60 :: 97 :: 32 :: 98 :: 61 :: 34 :: (escN true vs ++ 34 :: 62 :: R), p) 1) = .ok ([97], (32 :: 98 :: 61 :: 34 :: (escN true vs ++ 34 :: 62 :: R), K.adv (K.adv p 60) 97)) := rfl
  obtain ⟨q, hq⟩ := attrs_one vs R (K.adv (K.adv p 60) 97)
  refine ⟨K.adv (K.adv (K.adv p 60) 97) 32, K.adv q 62, ?_⟩
  unfold K.startTag
  rw [h1]
  simp only
  rw [hq]
  rfl
theorem endTag_one (p : K.Pl) : ∃ q, K.endTag ([60, 47, 97, 32, 62], p) = .ok (⟨2, [97], [], [], p, false⟩, ([], q)) := ⟨_, rfl⟩
theorem words_one (ss : List Nat) (p : K.Pl) (R : List Nat) : K.words (escN false ss ++ 60 :: R, p) = .ok (ss, (60 :: R, K.advs p (escN false ss))) := by
  unfold K.words
  rw [wordsF_esc _ _ _ _ _ (by simp; omega)]
  rfl
theorem part_start (R : List Nat) (p : K.Pl) (t : K.Told) (k : K.Tk) (s1 : K.St) (h : K.startTag (60 :: 97 :: R, p) = .ok (k, s1)) : K.part (60 :: 97 :: R, p) t = .ok (K.tag t k, s1) := by
  unfold K.part
  rw [if_neg (show ¬ K.sees [60, 63] (60 :: 97 :: R, p) = true from Bool.false_ne_true), if_neg (show ¬ K.sees [60, 33, 45, 45] (60 :: 97 :: R, p) = true from Bool.false_ne_true), if_neg (show ¬ K.sees [60, 33, 91, 67, 68, 65, 84, 65, 91] (60 :: 97 :: R, p) = true from Bool.false_ne_true),
    if_neg (show ¬ K.sees [60, 33, 68, 79, 67, 84, 89, 80, 69] (60 :: 97 :: R, p) = true from Bool.false_ne_true), if_neg (show ¬ K.sees [60, 33] (60 :: 97 :: R, p) = true from Bool.false_ne_true), if_neg (show ¬ K.sees [60, 47] (60 :: 97 :: R, p) = true from Bool.false_ne_true),
    if_pos (show K.sees [60] (60 :: 97 :: R, p) = true from rfl), h]
theorem part_end (R : List Nat) (p : K.Pl) (t : K.Told) (k : K.Tk) (s1 : K.St) (h : K.endTag (60 :: 47 :: R, p) = .ok (k, s1)) : K.part (60 :: 47 :: R, p) t = .ok (K.tag t k, s1) := by
  unfold K.part
  rw [if_neg (show ¬ K.sees [60, 63] (60 :: 47 :: R, p) = true from Bool.false_ne_true), if_neg (show ¬ K.sees [60, 33, 45, 45] (60 :: 47 :: R, p) = true from Bool.false_ne_true), if_neg (show ¬ K.sees [60, 33, 91, 67, 68, 65, 84, 65, 91] (60 :: 47 :: R, p) = true from Bool.false_ne_true),
    if_neg (show ¬ K.sees [60, 33, 68, 79, 67, 84, 89, 80, 69] (60 :: 47 :: R, p) = true from Bool.false_ne_true), if_neg (show ¬ K.sees [60, 33] (60 :: 47 :: R, p) = true from Bool.false_ne_true), if_pos (show K.sees [60, 47] (60 :: 47 :: R, p) = true from rfl), h]
theorem sees_not {y : Nat} (h : y ≠ 60) (t l : List Nat) (p : K.Pl) : ¬ K.sees (60 :: t) (y :: l, p) = true := by
  unfold K.sees
  simp [List.isPrefixOf]
  intro e
  exact absurd e.symm h
theorem part_words {y : Nat} (h : y ≠ 60) (l : List Nat) (p : K.Pl) (t : K.Told) (x : List Nat) (s1 : K.St) (hw : K.words (y :: l, p) = .ok (x, s1)) : K.part (y :: l, p) t = .ok (K.say t x p, s1) := by
  unfold K.part
  rw [if_neg (sees_not h _ l p), if_neg (sees_not h _ l p), if_neg (sees_not h _ l p), if_neg (sees_not h _ l p), if_neg (sees_not h _ l p), if_neg (sees_not h _ l p), if_neg (sees_not h _ l p), hw]
theorem escN_head (v : Bool) (c : Nat) (cs : List Nat) : ∃ y l, escN v (c :: cs) = y :: l ∧ y ≠ 60 := by
  rw [escN_cons]
  rcases escC_cases v c with ⟨e, h, _⟩ | ⟨B, e, _⟩
  · exact ⟨c, escN v cs, by rw [e]; rfl, h⟩
  · exact ⟨38, B ++ [59] ++ escN v cs, by rw [e]; rfl, by decide⟩
/-- The tokens that the law asks for. -/
theorem DF_texts (vs ss : List Nat) : ∃ pa p2 p3, DF (60 :: 97 :: 32 :: 98 :: 61 :: 34 :: (escN true vs ++ 34 :: 62 :: (escN false ss ++ [60, 47, 97, 32, 62])), (1, 1)) t0 =
    .ok (⟨1, [97], [([98], vs, pa)], [], (1, 1), false⟩ :: ((if ss = [] then [] else [⟨3, [], [], ss, p2, false⟩]) ++ [⟨2, [97], [], [], p3, false⟩])) := by
  obtain ⟨pa, q, hs⟩ := startTag_one vs (escN false ss ++ [60, 47, 97, 32, 62]) (1, 1)
  have h1 := DF_ok (part_start _ _ t0 _ _ hs)
  cases ss with
  | nil =>
    obtain ⟨q2, he⟩ := endTag_one q
    have h2 := DF_ok (part_end _ _ (K.tag t0 ⟨1, [97], [([98], vs, pa)], [], (1, 1), false⟩) _ _ he)
    refine ⟨pa, (1, 1), q, ?_⟩
    rw [h1]
    exact h2.trans (DF_nil _ _)
  | cons c cs =>
    obtain ⟨y, l, hy, h60⟩ := escN_head false c cs
    have hw := words_one (c :: cs) q [47, 97, 32, 62]
    obtain ⟨q2, he⟩ := endTag_one (K.advs q (escN false (c :: cs)))
    rw [hy, List.cons_append] at hw h1 ⊢
    rw [hy] at he
    have h2 := DF_ok (part_words h60 (l ++ [60, 47, 97, 32, 62]) q (K.tag t0 ⟨1, [97], [([98], vs, pa)], [], (1, 1), false⟩) _ _ hw)
    have h3 := DF_ok (part_end _ _ (K.say (K.tag t0 ⟨1, [97], [([98], vs, pa)], [], (1, 1), false⟩) (c :: cs) q) _ _ he)
    refine ⟨pa, q, K.advs q (y :: l), ?_⟩
    rw [h1]
    exact h2.trans (h3.trans (DF_nil _ _))
theorem escC_ok (v : Bool) (c : Nat) (h : U.scalar c ∧ (K.allowed c = true ∨ c = 13)) : ∀ x ∈ escC v c, U.scalar x ∧ K.allowed x = true := by
  have go : ∀ l : List Nat, (∀ x ∈ l, x < 55296 ∧ K.allowed x = true) → ∀ x ∈ l, U.scalar x ∧ K.allowed x = true := fun l hl x hx => ⟨.inl (hl x hx).1, (hl x hx).2⟩
  unfold escC
  split
  · exact go _ (by decide)
  split
  · exact go _ (by decide)
  split
  · exact go _ (by decide)
  split
  · exact go _ (by decide)
  split
  · exact go _ (by decide)
  rename_i h13
  split
  · exact go _ (by decide)
  split
  · exact go _ (by decide)
  · intro x hx
    simp only [List.mem_cons, List.not_mem_nil, or_false] at hx
    subst hx
    exact ⟨h.1, h.2.resolve_right h13⟩
theorem escN_ok (v : Bool) (cs : List Nat) (h : ∀ c ∈ cs, U.scalar c ∧ (K.allowed c = true ∨ c = 13)) : ∀ x ∈ escN v cs, U.scalar x ∧ K.allowed x = true := by
  intro x hx
  unfold escN at hx
  obtain ⟨c, hc, hx⟩ := List.mem_flatMap.1 hx
  exact escC_ok v c (h c hc) x hx
/-- What the law builds. -/
def textDoc (s v : List UInt8) : List UInt8 := 60 :: 97 :: 32 :: 98 :: 61 :: 34 :: (esc true v ++ 34 :: 62 :: (esc false s ++ [60, 47, 97, 32, 62]))
theorem tokens_texts (ss vs : List Nat) (hs : ∀ c ∈ ss, U.scalar c ∧ (K.allowed c = true ∨ c = 13)) (hv : ∀ c ∈ vs, U.scalar c ∧ (K.allowed c = true ∨ c = 13)) (ls : (U.n8 ss).length ≤ 1000) (lv : (U.n8 vs).length ≤ 1000) :
    ∃ pa p2 p3, K.tokens (textDoc (U.n8 ss) (U.n8 vs)) =
      .ok (⟨1, [97], [([98], vs, pa)], [], (1, 1), false⟩ :: ((if ss = [] then [] else [⟨3, [], [], ss, p2, false⟩]) ++ [⟨2, [97], [], [], p3, false⟩])) := by
  obtain ⟨pa, p2, p3, hD⟩ := DF_texts vs ss
  refine ⟨pa, p2, p3, ?_⟩
  obtain ⟨L, hL⟩ : ∃ L, 60 :: 97 :: 32 :: 98 :: 61 :: 34 :: (escN true vs ++ 34 :: 62 :: (escN false ss ++ [60, 47, 97, 32, 62])) = L := ⟨_, rfl⟩
  have hdoc : textDoc (U.n8 ss) (U.n8 vs) = U.n8 L := by
    unfold textDoc
    rw [esc_n8 true vs (fun c hc => (hv c hc).1), esc_n8 false ss (fun c hc => (hs c hc).1), ← hL]
    simp only [U.n8_cons, U.n8_append]
    rfl
  have hlen : (textDoc (U.n8 ss) (U.n8 vs)).length ≤ 65536 := by
    have h1 := esc_length true (U.n8 vs)
    have h2 := esc_length false (U.n8 ss)
    unfold textDoc
    simp
    omega
  have hok : ∀ c ∈ L, U.scalar c ∧ K.allowed c = true := by
    have hlit : ∀ l : List Nat, (∀ x ∈ l, x < 55296 ∧ K.allowed x = true) → ∀ x ∈ l, U.scalar x ∧ K.allowed x = true := fun l hl x hx => ⟨.inl (hl x hx).1, (hl x hx).2⟩
    intro c hc
    rw [← hL, show 60 :: 97 :: 32 :: 98 :: 61 :: 34 :: (escN true vs ++ 34 :: 62 :: (escN false ss ++ [60, 47, 97, 32, 62])) = [60, 97, 32, 98, 61, 34] ++ (escN true vs ++ ([34, 62] ++ (escN false ss ++ [60, 47, 97, 32, 62]))) from rfl] at hc
    rcases List.mem_append.1 hc with hc | hc
    · exact hlit _ (by decide) c hc
    rcases List.mem_append.1 hc with hc | hc
    · exact escN_ok true vs hv c hc
    rcases List.mem_append.1 hc with hc | hc
    · exact hlit _ (by decide) c hc
    rcases List.mem_append.1 hc with hc | hc
    · exact escN_ok false ss hs c hc
    · exact hlit _ (by decide) c hc
  have hcf : CF (textDoc (U.n8 ss) (U.n8 vs)) (1, 1) [] = .ok L := by
    have h := CF_n8 L [] (1, 1) [] hok
    rw [List.append_nil, CF_nil, List.nil_append] at h
    rw [hdoc]
    exact h
  rw [tokens_eq, if_neg (by omega), hcf]
  simp only
  rw [document_eq, if_neg (by rw [← hL]; exact Bool.false_ne_true), ← hL]
  exact hD
end Go.Proofs.YtdilngjolhmjnaaGreatDoor
