/- Words in a list of words with blanks: a text without blanks stands among them just if it is one of them. No program. -/
import Derived.Test.YthakjbmheoojeaaGreatDoorL1
namespace Go.Proofs.YthakjbmheoojeaaGreatDoor
set_option linter.all false
namespace X
/-- Does a text stand in a list, blanks at its sides? -/
def amongL (s : List UInt8) : List UInt8 → Bool
  | [] => false
  | b :: r => (b == 32 && (s ++ [32]).isPrefixOf r) || amongL s r
def spacedL (s : List UInt8) : Bool := s.any (· == 32)
def joined : List (List UInt8) → List UInt8
  | [] => []
  | w :: ws => w ++ 32 :: joined ws
theorem among_skip (s : List UInt8) : ∀ (a r : List UInt8), spacedL a = false → amongL s (a ++ r) = amongL s r
  | [], _, _ => rfl
  | b :: a, r, h => by
    simp only [spacedL, List.any_cons, Bool.or_eq_false_iff] at h
    show ((b == 32 && _) || amongL s (a ++ r)) = _
    rw [h.1, among_skip s a r h.2]
    rfl
theorem pre_word : ∀ (s w J : List UInt8), spacedL s = false → spacedL w = false → (s ++ [32]).isPrefixOf (w ++ 32 :: J) = (s == w)
  | [], [], J, _, _ => rfl
  | [], b :: w, J, _, h => by
    simp only [spacedL, List.any_cons, Bool.or_eq_false_iff] at h
    show ((32 == b) && _) = false
    have : ((32 : UInt8) == b) = false := by rw [beq_eq_false_iff_ne] at h ⊢; exact fun e => h.1 e.symm
    rw [this]; rfl
  | a :: s, [], J, h, _ => by
    simp only [spacedL, List.any_cons, Bool.or_eq_false_iff] at h
    show ((a == 32) && _) = false
    rw [h.1]; rfl
  | a :: s, b :: w, J, h, k => by
    simp only [spacedL, List.any_cons, Bool.or_eq_false_iff] at h k
    show ((a == b) && (s ++ [32]).isPrefixOf (w ++ 32 :: J)) = ((a == b) && (s == w))
    rw [pre_word s w J h.2 k.2]
theorem among_joined (s : List UInt8) (hs : spacedL s = false) : ∀ (ws : List (List UInt8)), (∀ w ∈ ws, spacedL w = false) → amongL s (32 :: joined ws) = ws.contains s
  | [], _ => by
    show ((32 == 32 && (s ++ [32]).isPrefixOf []) || false) = false
    cases s <;> rfl
  | w :: ws, h => by
    have ih := among_joined s hs ws (fun x hx => h x (List.mem_cons_of_mem _ hx))
    show (((32 : UInt8) == 32 && (s ++ [32]).isPrefixOf (w ++ 32 :: joined ws)) || amongL s (w ++ 32 :: joined ws)) = _
    rw [pre_word s w _ hs (h w (List.mem_cons_self ..)), among_skip s w _ (h w (List.mem_cons_self ..)), ih, List.contains_cons]
    rfl
def wordText : List UInt8 := 32 :: joined words
theorem words_flat : ∀ w ∈ words, spacedL w = false := by decide
/-- The document's own word. -/
def refWord (s : List UInt8) : Bool := !s.isEmpty && !spacedL s && amongL s wordText
theorem refWord_eq (s : List UInt8) : refWord s = word s := by
  unfold refWord word
  cases hs : spacedL s with
  | true =>
    have h1 : words.contains s = false := by
      rw [Bool.eq_false_iff]
      intro h
      have := words_flat s (List.contains_iff_mem.1 h)
      rw [hs] at this; cases this
    rw [h1]; simp
  | false =>
    unfold wordText
    rw [among_joined s hs words words_flat]
    cases s with
    | nil => rfl
    | cons a s => simp
/-- .. in a loop's terms: the first k places looked at, nothing found. -/
theorem among_iff (s : List UInt8) : ∀ (l : List UInt8), amongL s l = true ↔ ∃ i, i + s.length + 2 ≤ l.length ∧ l[i]? = some 32 ∧ (l.drop (i + 1)).take s.length = s ∧ l[i + 1 + s.length]? = some 32
  | [] => by simp [amongL]
  | b :: r => by
    unfold amongL
    rw [Bool.or_eq_true, among_iff s r, Bool.and_eq_true, beq_iff_eq, List.isPrefixOf_iff_prefix]
    constructor
    · rintro (⟨rfl, hp⟩ | ⟨i, h1, h2, h3, h4⟩)
      · obtain ⟨t, rfl⟩ := hp
        refine ⟨0, by simp, rfl, by simp, ?_⟩
        rw [show 0 + 1 + s.length = s.length + 1 by omega, List.getElem?_cons_succ, List.append_assoc, List.getElem?_append_right (Nat.le_refl _)]
        simp
      · refine ⟨i + 1, by simp only [List.length_cons]; omega, by simpa using h2, by simpa using h3, ?_⟩
        rw [show i + 1 + 1 + s.length = (i + 1 + s.length) + 1 by omega, List.getElem?_cons_succ]
        exact h4
    · rintro ⟨i, h1, h2, h3, h4⟩
      cases i with
      | zero =>
        left
        simp only [List.getElem?_cons_zero, Option.some.injEq] at h2
        refine ⟨h2, ?_⟩
        simp only [Nat.zero_add, List.drop_succ_cons, List.drop_zero] at h3
        rw [show 0 + 1 + s.length = s.length + 1 by omega, List.getElem?_cons_succ] at h4
        refine ⟨r.drop (s.length + 1), ?_⟩
        have e1 : r.take (s.length + 1) = s ++ [32] := by rw [List.take_succ, h3, h4]; rfl
        rw [← e1, List.take_append_drop]
      | succ i =>
        right
        refine ⟨i, by simp only [List.length_cons] at h1; omega, by simpa using h2, by simpa using h3, ?_⟩
        rw [show i + 1 + 1 + s.length = (i + 1 + s.length) + 1 by omega, List.getElem?_cons_succ] at h4
        exact h4
end X
end Go.Proofs.YthakjbmheoojeaaGreatDoor
