/- How many bytes a lexeme has: one at least, and no more than there are. No program. -/
import Derived.Test.YthakjbmheoojeaaGreatDoorLe
namespace Go.Proofs.YthakjbmheoojeaaGreatDoor
set_option linter.all false

theorem past_pos {p : Nat → Bool} {l : List UInt8} (h0 : 0 < l.length) (h : p (U.g l 0) = true) : 1 ≤ X.past p l := by
  cases l with
  | nil => simp at h0
  | cons b r =>
    have hb : p b.toNat = true := h
    unfold X.past
    rw [List.takeWhile_cons, if_pos hb]
    simp
theorem textF_le : ∀ (f q : Nat) (l : List UInt8) (u : List UInt8) (n : Nat), q ≠ 0 → X.textF f q l = some (u, n) → n ≤ l.length
  | 0, _, _, _, _, _, h => by cases h
  | f + 1, q, l, u, n, hq, h => by
    rw [text_step] at h
    split at h
    · rename_i hg
      simp only [Option.some.injEq, Prod.mk.injEq] at h
      have := g_pos (l := l) (i := 0) (by omega)
      omega
    · cases hs : X.said l with
      | none => rw [hs] at h; cases h
      | some r =>
        obtain ⟨u1, n1⟩ := r
        rw [hs] at h
        obtain ⟨_, h2, _⟩ := said_some hs
        simp only at h2
        cases ht : X.textF f q (l.drop n1) with
        | none => simp only [ht] at h; cases h
        | some r2 =>
          obtain ⟨u2, n2⟩ := r2
          simp only [ht, Option.map_some, Option.some.injEq, Prod.mk.injEq] at h
          have := textF_le f q (l.drop n1) u2 n2 hq ht
          rw [List.length_drop] at this
          omega
theorem longest_pre (l : List UInt8) : ∀ (ms : List (List UInt8)) (b : List UInt8), b.isPrefixOf l = true → (X.longest l ms b).isPrefixOf l = true
  | [], b, h => h
  | m :: r, b, h => by
    rw [longest_cons]
    refine longest_pre l r _ ?_
    split
    · rename_i hc; exact hc.2
    · exact h
theorem number_pos (l : List UInt8) (h0 : 0 < l.length) (h : U.g l 0 = 46 ∨ X.digit (U.g l 0) = true) : 1 ≤ X.numberSize l := by
  have hw : X.wholeSize l ≤ X.pointSize l := by
    unfold X.pointSize
    split
    · omega
    · exact Nat.le_refl _
  have hp : 1 ≤ X.pointSize l := by
    rcases h with h | h
    · have hz : X.wholeSize l = 0 := by
        unfold X.wholeSize
        rw [if_neg (by omega)]
        unfold X.past
        cases l with
        | nil => rfl
        | cons b r =>
          have hb : b.toNat = 46 := h
          rw [List.takeWhile_cons, if_neg (by rw [hb]; decide)]
          rfl
      unfold X.pointSize
      rw [hz, if_pos h]
      omega
    · have : 1 ≤ X.wholeSize l := by
        unfold X.wholeSize
        split
        · exact Nat.le_refl _
        · exact past_pos h0 h
      omega
  unfold X.numberSize
  split
  · omega
  · omega
theorem first_some {num : List UInt8 → Option Nat} {l : List UInt8} {k : Nat} {t : List UInt8} {v n : Nat} (h0 : 0 < l.length) (h : X.first num l = .yes k t v n) : 1 ≤ n ∧ n ≤ l.length := by
  have hmark : ∀ {k t v n}, X.mark l = .yes k t v n → 1 ≤ n ∧ n ≤ l.length := by
    intro k t v n h
    unfold X.mark at h
    split at h
    · cases h
    · rename_i hne
      simp only [X.Ans.yes.injEq] at h
      obtain ⟨_, _, _, rfl⟩ := h
      have := (List.isPrefixOf_iff_prefix.1 (longest_pre l X.marks [] (by simp))).length_le
      exact ⟨List.length_pos_iff.2 hne, this⟩
  unfold X.first at h
  split at h
  · rename_i ho
    unfold X.nameAns at h
    simp only [X.Ans.yes.injEq] at h
    obtain ⟨_, _, _, rfl⟩ := h
    exact ⟨past_pos h0 (by unfold X.goes; rw [ho]; rfl), past_le _ _⟩
  split at h
  · rename_i hq
    unfold X.text at h
    cases ht : X.textF l.length (U.g l 0) (l.drop 1) with
    | none => rw [ht] at h; cases h
    | some r =>
      obtain ⟨u, m⟩ := r
      rw [ht] at h
      simp only [X.Ans.yes.injEq] at h
      have := textF_le _ _ _ _ _ (by omega) ht
      rw [List.length_drop] at this
      omega
  split at h
  · exact hmark h
  split at h
  · rename_i hd
    unfold X.number at h
    split at h
    · cases h
    · split at h
      · cases h
      · simp only [X.Ans.yes.injEq] at h
        obtain ⟨_, _, _, rfl⟩ := h
        exact ⟨number_pos l h0 hd, number_le l h0⟩
  · exact hmark h
end Go.Proofs.YthakjbmheoojeaaGreatDoor
