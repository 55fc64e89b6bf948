/- A lexeme is read alike whatever stands behind it, if that begins with no byte that would go on in it. No program. -/
import Derived.Test.YtelphbcdjfdjpaaGreatDoorZ28
namespace Go.Proofs.YtelphbcdjfdjpaaGreatDoor
set_option linter.all false
open U (dec enc scalar n8 g)

section
variable {l r : List UInt8} {k : Nat}
theorem g_take (hk : k ≤ l.length) (i : Nat) (hi : i < k) : g (l.take k ++ r) i = g l i := by
  unfold U.g
  rw [List.getD_eq_getElem?_getD, List.getD_eq_getElem?_getD, List.getElem?_append_left (by rw [List.length_take]; omega), List.getElem?_take, if_pos hi]
theorem g_tail (hk : k ≤ l.length) : g (l.take k ++ r) k = g r 0 := by
  unfold U.g
  rw [List.getD_eq_getElem?_getD, List.getD_eq_getElem?_getD, List.getElem?_append_right (by rw [List.length_take]; omega), List.length_take]
  congr 3
  omega
theorem drop_take_app (hk : k ≤ l.length) (j : Nat) (hj : j ≤ k) : (l.take k ++ r).drop j = (l.drop j).take (k - j) ++ r := by
  rw [List.drop_append, List.length_take, List.drop_take, show j - min k l.length = 0 by omega, List.drop_zero]
theorem take_take_app (hk : k ≤ l.length) (j : Nat) (hj : j ≤ k) : (l.take k ++ r).take j = l.take j := by
  rw [List.take_append, List.length_take, List.take_take, show j - min k l.length = 0 by omega, List.take_zero, List.append_nil, Nat.min_eq_left hj]
end
theorem g_dropO (l : List UInt8) (a i : Nat) : g (l.drop a) i = g l (a + i) := by
  unfold U.g
  rw [List.getD_eq_getElem?_getD, List.getD_eq_getElem?_getD, List.getElem?_drop]
/-- How many bytes at the head are such: the same where what is behind begins with none. -/
theorem past_take (p : Nat → Bool) (r : List UInt8) (hr : p (g r 0) = false) : ∀ (l : List UInt8) (k : Nat), k ≤ l.length → X.past p l ≤ k → X.past p (l.take k ++ r) = X.past p l
  | [], k, hk, _ => by
    obtain rfl : k = 0 := by simpa using hk
    show X.past p ([] ++ r) = 0
    rw [List.nil_append]
    unfold X.past
    cases r with
    | nil => rfl
    | cons b r => rw [List.takeWhile_cons, if_neg (by have : p b.toNat = false := hr; rw [this]; simp)]; rfl
  | b :: l, k, hk, h => by
    unfold X.past at h ⊢
    rw [List.takeWhile_cons] at h ⊢
    cases hb : p b.toNat with
    | false =>
      rw [if_neg (by simp)]
      cases k with
      | zero =>
        rw [List.take_zero, List.nil_append]
        cases r with
        | nil => rfl
        | cons c r => rw [List.takeWhile_cons, if_neg (by have : p c.toNat = false := hr; rw [this]; simp)]
      | succ k => rw [List.take_succ_cons, List.cons_append, List.takeWhile_cons, if_neg (by rw [hb]; simp)]
    | true =>
      rw [hb, if_pos rfl, List.length_cons] at h
      rw [if_pos rfl]
      obtain ⟨k, rfl⟩ : ∃ k', k = k' + 1 := ⟨k - 1, by omega⟩
      rw [List.take_succ_cons, List.cons_append, List.takeWhile_cons, if_pos hb, List.length_cons, List.length_cons]
      have := past_take p r hr l k (by simpa using hk) (by unfold X.past; omega)
      unfold X.past at this
      rw [this]
/-- A byte that goes on in no lexeme. -/
def stopB (b : Nat) : Bool := b == 0 || b == 47 || (decide (9 ≤ b) && decide (b ≤ 13)) || b == 32 || decide (128 ≤ b)
theorem stopB_goes {b : Nat} (h : stopB b = true) (hb : b < 256) : X.goes b = false ∧ X.digit b = false ∧ X.six b = false ∧ b ≠ 46 ∧ b ≠ 120 ∧ b ≠ 88 ∧ b ≠ 101 ∧ b ≠ 69 := by
  have hall : ∀ b : Nat, b < 256 → stopB b = true → X.goes b = false ∧ X.digit b = false ∧ X.six b = false ∧ b ≠ 46 ∧ b ≠ 120 ∧ b ≠ 88 ∧ b ≠ 101 ∧ b ≠ 69 := by decide +kernel
  exact hall b hb h
theorem goes_false {b : Nat} (h : X.goes b = false) (hb : b < 256) : b ≠ 120 ∧ b ≠ 88 ∧ b ≠ 101 ∧ b ≠ 69 ∧ X.digit b = false ∧ X.six b = false := by
  have hall : ∀ b : Nat, b < 256 → X.goes b = false → b ≠ 120 ∧ b ≠ 88 ∧ b ≠ 101 ∧ b ≠ 69 ∧ X.digit b = false ∧ X.six b = false := by decide +kernel
  exact hall b hb h

/-! Texts. -/
theorem coded_take {l : List UInt8} {d : Nat} {u : List UInt8} {n : Nat} (h : X.coded l d = some (u, n)) (k : Nat) (hk : n < k) (hkl : k ≤ l.length) (r : List UInt8) : X.coded (l.take k ++ r) d = some (u, n) := by
  unfold X.coded at h ⊢
  split at h
  · cases h
  · rename_i h0
    cases hx : X.hexv ((l.drop 1).take d) 0 with
    | none => rw [hx] at h; cases h
    | some v =>
      rw [hx] at h
      simp only [Option.map_some, Option.some.injEq, Prod.mk.injEq] at h
      obtain ⟨rfl, rfl⟩ := h
      rw [if_neg (by rw [List.length_append, List.length_take]; omega), drop_take_app hkl 1 (by omega), take_take_app (by rw [List.length_drop]; omega) d (by omega), hx]
      rfl
theorem small_one {l : List UInt8} {c : Nat} (h0 : (dec l).2 ≠ 0) (hc : (dec l).1 = c) (h : c < 128) : (dec l).2 = 1 := by
  obtain ⟨n, hn⟩ : ∃ n, (dec l).2 = n + 1 := ⟨(dec l).2 - 1, by omega⟩
  obtain ⟨_, h2, _⟩ := U.enc_dec l (dec l).1 n (by rw [← hn])
  rw [hc, U.enc_length, if_pos h] at h2
  omega
theorem escaped_dec {l : List UInt8} {u : List UInt8} {n : Nat} (h : X.escaped l = some (u, n)) : (dec l).2 ≠ 0 ∧ (dec l).2 ≤ n := by
  have h1 := (escaped_some h).1
  unfold X.escaped at h
  split at h
  · cases h
  rename_i h0
  refine ⟨h0, ?_⟩
  split at h
  · rename_i hp
    obtain ⟨t, ht⟩ := pre_head hp
    have : dec l = (13, 1) := by rw [ht]; exact U.dec_ascii _ (by simp) (by show (13 : Nat) < 128; decide)
    rw [this]; exact h1
  split at h
  · cases h; exact Nat.le_refl _
  split at h
  · cases h; exact Nat.le_refl _
  split at h
  · cases h
  split at h
  · rename_i hx; have := small_one h0 hx (by decide); omega
  split at h
  · rename_i hx; have := small_one h0 hx (by decide); omega
  split at h
  · cases h; exact Nat.le_refl _
  · cases h; exact Nat.le_refl _
theorem pre2_take {l : List UInt8} {k : Nat} (a b : UInt8) (hk2 : 2 ≤ k) (hkl : k ≤ l.length) (r : List UInt8) : [a, b].isPrefixOf (l.take k ++ r) = [a, b].isPrefixOf l := by
  obtain ⟨j, rfl⟩ : ∃ j, k = j + 2 := ⟨k - 2, by omega⟩
  match l, hkl with
  | x :: y :: t, _ => simp [List.isPrefixOf]
theorem escaped_take {l : List UInt8} {u : List UInt8} {n : Nat} (h : X.escaped l = some (u, n)) (k : Nat) (hk : n < k) (hkl : k ≤ l.length) (r : List UInt8) : X.escaped (l.take k ++ r) = some (u, n) := by
  obtain ⟨h0, h1⟩ := escaped_dec h
  have hd := dec_take l k r h0 (by omega)
  have g0 : g (l.take k ++ r) 0 = g l 0 := g_take hkl 0 (by omega)
  have hn1 := (escaped_some h).1
  have hn1 : 1 ≤ n := hn1
  have g1 : g (l.take k ++ r) 1 = g l 1 := g_take hkl 1 (by omega)
  have hp := pre2_take (l := l) (k := k) 13 10 (by omega) hkl r
  have hcd := fun d u n (h : X.coded l d = some (u, n)) hk => coded_take (l := l) (d := d) (u := u) (n := n) h k hk hkl r
  have hc8 : X.char8 (l.take k ++ r) = X.char8 l := by unfold X.char8; rw [hd]
  unfold X.escaped at h ⊢
  rw [hd, g0, g1, hp, hc8]
  split at h
  · cases h
  rename_i a0
  rw [if_neg a0]
  split at h
  · rename_i a1; rw [if_pos a1]; exact h
  rename_i a1
  rw [if_neg a1]
  split at h
  · rename_i a2; rw [if_pos a2]; exact h
  rename_i a2
  rw [if_neg a2]
  split at h
  · rename_i a3; rw [if_pos a3]; exact h
  rename_i a3
  rw [if_neg a3]
  split at h
  · cases h
  rename_i a4
  rw [if_neg a4]
  split at h
  · rename_i a5; rw [if_pos a5]; exact hcd _ _ _ h hk
  rename_i a5
  rw [if_neg a5]
  split at h
  · rename_i a6; rw [if_pos a6]; exact hcd _ _ _ h hk
  rename_i a6
  rw [if_neg a6]
  exact h
theorem said_take {l : List UInt8} {u : List UInt8} {n : Nat} (h : X.said l = some (u, n)) (k : Nat) (hk : n < k) (hkl : k ≤ l.length) (r : List UInt8) : X.said (l.take k ++ r) = some (u, n) := by
  unfold X.said at h
  split at h
  · cases h
  rename_i h0
  have hd0 : (dec l).2 ≠ 0 := fun e => h0 (Or.inl e)
  split at h
  · rename_i h1
    have h11 := small_one hd0 h1 (by decide)
    cases he : X.escaped (l.drop (dec l).2) with
    | none => rw [he] at h; cases h
    | some q =>
      obtain ⟨u1, n1⟩ := q
      rw [he] at h
      simp only [Option.map_some, Option.some.injEq, Prod.mk.injEq] at h
      obtain ⟨rfl, rfl⟩ := h
      have hd := dec_take l k r hd0 (by omega)
      have := escaped_take he (k - (dec l).2) (by omega) (by rw [List.length_drop]; omega) r
      unfold X.said
      rw [hd, if_neg h0, if_pos h1, drop_take_app hkl _ (by omega), this]
      rfl
  · rename_i h1
    simp only [Option.some.injEq, Prod.mk.injEq] at h
    obtain ⟨rfl, rfl⟩ := h
    have hd := dec_take l k r hd0 (by omega)
    unfold X.said
    rw [hd, if_neg h0, if_neg h1]
    unfold X.char8
    rw [hd]
theorem textF_pos : ∀ (f q : Nat) (l : List UInt8) (u : List UInt8) (n : Nat), X.textF f q l = some (u, n) → 1 ≤ n
  | 0, q, l, u, n, h => by cases h
  | f + 1, q, l, u, n, h => by
    rw [text_step] at h
    split at h
    · cases h; exact Nat.le_refl _
    · cases hs : X.said l with
      | none => rw [hs] at h; cases h
      | some p =>
        obtain ⟨u1, n1⟩ := p
        rw [hs] at h
        have := (said_some hs).1
        simp only at h this
        cases ht : X.textF f q (l.drop n1) with
        | none => rw [ht] at h; cases h
        | some p2 =>
          rw [ht] at h
          simp only [Option.map_some, Option.some.injEq, Prod.mk.injEq] at h
          omega
theorem textF_take (r : List UInt8) : ∀ (f q : Nat) (l : List UInt8) (u : List UInt8) (n f' k : Nat), X.textF f q l = some (u, n) → n ≤ f' → n ≤ k → k ≤ l.length → X.textF f' q (l.take k ++ r) = some (u, n)
  | 0, q, l, u, n, f', k, h, _, _, _ => by cases h
  | f + 1, q, l, u, n, f', k, h, hf, hk, hkl => by
    have hpos := textF_pos _ _ _ _ _ h
    obtain ⟨f', rfl⟩ : ∃ j, f' = j + 1 := ⟨f' - 1, by omega⟩
    have g0 : g (l.take k ++ r) 0 = g l 0 := g_take hkl 0 (by omega)
    rw [text_step] at h ⊢
    rw [g0]
    split at h
    · rename_i h0; rw [if_pos h0]; exact h
    · rename_i h0
      rw [if_neg h0]
      cases hs : X.said l with
      | none => rw [hs] at h; cases h
      | some p =>
        obtain ⟨u1, n1⟩ := p
        rw [hs] at h
        have h1 := (said_some hs).1
        simp only at h h1
        cases ht : X.textF f q (l.drop n1) with
        | none => rw [ht] at h; cases h
        | some p2 =>
          obtain ⟨u2, n2⟩ := p2
          rw [ht] at h
          simp only [Option.map_some, Option.some.injEq, Prod.mk.injEq] at h
          obtain ⟨rfl, rfl⟩ := h
          have hp2 := textF_pos _ _ _ _ _ ht
          rw [said_take hs k (by omega) hkl r]
          simp only
          rw [drop_take_app hkl n1 (by omega), textF_take r f q (l.drop n1) u2 n2 f' (k - n1) ht (by omega) (by omega) (by rw [List.length_drop]; omega)]
          rfl

/-! Marks. -/
theorem longest_max (l : List UInt8) : ∀ (ms : List (List UInt8)) (b : List UInt8), b.length ≤ (X.longest l ms b).length ∧ ∀ m ∈ ms, m.isPrefixOf l = true → m.length ≤ (X.longest l ms b).length
  | [], b => ⟨Nat.le_refl _, fun _ h => (by cases h)⟩
  | m :: ms, b => by
    rw [longest_cons]
    split
    · rename_i h
      obtain ⟨h1, h2⟩ := longest_max l ms m
      refine ⟨by omega, fun x hx hp => ?_⟩
      rcases List.mem_cons.1 hx with rfl | hx
      · exact h1
      · exact h2 x hx hp
    · rename_i h
      obtain ⟨h1, h2⟩ := longest_max l ms b
      refine ⟨h1, fun x hx hp => ?_⟩
      rcases List.mem_cons.1 hx with rfl | hx
      · have : ¬ b.length < x.length := fun hlt => h ⟨hlt, hp⟩
        omega
      · exact h2 x hx hp
theorem longest_eq (l l' : List UInt8) : ∀ (ms : List (List UInt8)) (b : List UInt8), (∀ m ∈ ms, m.isPrefixOf l = m.isPrefixOf l') → X.longest l ms b = X.longest l' ms b
  | [], b, _ => rfl
  | m :: ms, b, h => by
    rw [longest_cons, longest_cons, h m (by simp)]
    exact longest_eq l l' ms _ (fun x hx => h x (by simp [hx]))
theorem marks_stopB : ∀ m ∈ X.marks, ∀ i, 1 ≤ i → i < m.length → stopB (g m i) = false := by
  have : ∀ m ∈ X.marks, ∀ i, i < m.length → 1 ≤ i → stopB (g m i) = false := by decide +kernel
  exact fun m hm i h1 h2 => this m hm i h2 h1
theorem pre_short {m t r r0 : List UInt8} (h : m.length ≤ t.length) : m.isPrefixOf (t ++ r) = m.isPrefixOf (t ++ r0) := by
  rw [Bool.eq_iff_iff, List.isPrefixOf_iff_prefix, List.isPrefixOf_iff_prefix, List.prefix_iff_eq_take, List.prefix_iff_eq_take, List.take_append_of_le_length h, List.take_append_of_le_length h]
theorem mark_take {l : List UInt8} {k : Nat} {t : List UInt8} {v n : Nat} (h : X.mark l = .yes k t v n) (r : List UInt8) (hr : stopB (g r 0) = true) : X.mark (l.take n ++ r) = .yes k t v n := by
  unfold X.mark at h
  split at h
  · cases h
  · rename_i hne
    simp only [X.Ans.yes.injEq] at h
    obtain ⟨rfl, ht, rfl, hn⟩ := h
    have hpre := List.isPrefixOf_iff_prefix.1 (longest_pre l X.marks [] (by simp))
    have hmax := (longest_max l X.marks []).2
    rw [ht] at hne hpre hmax hn
    obtain ⟨r0, hr0⟩ := hpre
    have e : l.take n = t := by rw [← hr0, ← hn, List.take_left]
    have htp : 1 ≤ t.length := List.length_pos_iff.2 hne
    have hall : ∀ m ∈ X.marks, m.isPrefixOf (t ++ r) = m.isPrefixOf l := by
      intro m hm
      by_cases hml : m.length ≤ t.length
      · rw [← hr0]; exact pre_short hml
      · have h2 : m.isPrefixOf l = false := by
          cases hp : m.isPrefixOf l with
          | false => rfl
          | true => exact absurd (hmax m hm hp) hml
        rw [h2]
        cases hp : m.isPrefixOf (t ++ r) with
        | false => rfl
        | true =>
          exfalso
          obtain ⟨q, hq⟩ := List.isPrefixOf_iff_prefix.1 hp
          have hs := marks_stopB m hm t.length htp (by omega)
          have hg : g m t.length = g r 0 := by
            have h3 : g (m ++ q) t.length = g m t.length := by
              unfold U.g
              rw [List.getD_eq_getElem?_getD, List.getD_eq_getElem?_getD, List.getElem?_append_left (by omega)]
            have h4 : g (t ++ r) t.length = g r 0 := by
              unfold U.g
              rw [List.getD_eq_getElem?_getD, List.getD_eq_getElem?_getD, List.getElem?_append_right (Nat.le_refl _), Nat.sub_self]
            rw [← h3, hq, h4]
          rw [hg, hr] at hs
          cases hs
    have hl := longest_eq (t ++ r) l X.marks [] hall
    unfold X.mark
    rw [e, hl, ht, if_neg hne, hn]

/-! Numbers. -/
theorem number_take {num : List UInt8 → Option Nat} {l : List UInt8} {k : Nat} {t : List UInt8} {v n : Nat} (h : X.number num l = .yes k t v n) (hn1 : 1 ≤ n) (hnl : n ≤ l.length) (r : List UInt8) (hr : stopB (g r 0) = true) : X.number num (l.take n ++ r) = .yes k t v n := by
  obtain ⟨r1, r2, r3, r4, r5, r6, r7, r8⟩ := stopB_goes hr (U.g_lt _ _)
  unfold X.number at h
  split at h
  · cases h
  rename_i hg
  have hg : X.goes (g l (X.numberSize l)) = false := by simpa using hg
  cases hv : num (l.take (X.numberSize l)) with
  | none => rw [hv] at h; cases h
  | some v' =>
    rw [hv] at h
    simp only [X.Ans.yes.injEq] at h
    obtain ⟨rfl, rfl, rfl, hn⟩ := h
    rw [hn] at hg hv
    obtain ⟨n1, n2, n3, n4, n5, n6⟩ := goes_false hg (U.g_lt _ _)
    have gk : g (l.take n ++ r) n = g r 0 := g_tail hnl
    have gi : ∀ i, i < n → g (l.take n ++ r) i = g l i := fun i hi => g_take hnl i hi
    have gj : ∀ i, i ≤ n → (g (l.take n ++ r) i = g l i ∨ (i = n ∧ g (l.take n ++ r) i = g r 0)) := by
      intro i hi
      rcases Nat.lt_or_ge i n with h | h
      · exact Or.inl (gi i h)
      · obtain rfl : i = n := by omega
        exact Or.inr ⟨rfl, gk⟩
    have hsix : X.sixteensSize (l.take n ++ r) = X.sixteensSize l := by
      by_cases hA : g l 0 = 48 ∧ (g l 1 = 120 ∨ g l 1 = 88)
      · by_cases hP : X.past X.six (l.drop 2) = 0
        · exfalso
          have e0 : X.sixteensSize l = 0 := by unfold X.sixteensSize; rw [if_pos hA, if_pos hP]
          have ew : X.wholeSize l = 1 := by unfold X.wholeSize; rw [if_pos hA.1]
          have ep : X.pointSize l = 1 := by unfold X.pointSize; rw [ew, if_neg (by omega)]
          have eq : X.powerSize (l.drop 1) = 0 := by unfold X.powerSize; rw [g_dropO, Nat.add_zero, if_neg (by omega)]
          unfold X.numberSize at hn
          rw [e0, if_neg (by omega), ep, eq] at hn
          subst hn
          rcases hA.2 with h | h
          · exact n1 h
          · exact n2 h
        · have e0 : X.sixteensSize l = 2 + X.past X.six (l.drop 2) := by unfold X.sixteensSize; rw [if_pos hA, if_neg hP]
          have en : n = 2 + X.past X.six (l.drop 2) := by
            unfold X.numberSize at hn
            rw [e0, if_pos (by omega)] at hn
            exact hn.symm
          have hp2 : X.past X.six ((l.take n ++ r).drop 2) = X.past X.six (l.drop 2) := by
            rw [drop_take_app hnl 2 (by omega)]
            exact past_take X.six r r3 (l.drop 2) (n - 2) (by rw [List.length_drop]; omega) (by omega)
          rw [e0]
          unfold X.sixteensSize
          rw [gi 0 (by omega), gi 1 (by omega), hp2, if_pos hA, if_neg hP]
      · have e0 : X.sixteensSize l = 0 := by unfold X.sixteensSize; rw [if_neg hA]
        rw [e0]
        unfold X.sixteensSize
        rw [if_neg]
        rintro ⟨h1, h2⟩
        rw [gi 0 (by omega)] at h1
        rcases gj 1 (by omega) with h | ⟨_, h⟩
        · rw [h] at h2; exact hA ⟨h1, h2⟩
        · rw [h] at h2; omega
    have hN : X.numberSize (l.take n ++ r) = n := by
      by_cases hs : 0 < X.sixteensSize l
      · unfold X.numberSize at hn ⊢
        rw [if_pos hs] at hn
        rw [hsix, if_pos hs, hn]
      · have hn' := hn
        unfold X.numberSize at hn'
        rw [if_neg hs] at hn'
        have hpn : X.pointSize l ≤ n := by omega
        have hwp : X.wholeSize l ≤ X.pointSize l := by
          unfold X.pointSize
          split
          · omega
          · exact Nat.le_refl _
        have hw : X.wholeSize (l.take n ++ r) = X.wholeSize l := by
          unfold X.wholeSize at hwp ⊢
          rw [gi 0 (by omega)]
          split
          · rfl
          · rename_i h48
            rw [if_neg h48] at hwp
            exact past_take X.digit r r2 l n hnl (by omega)
        have hp : X.pointSize (l.take n ++ r) = X.pointSize l := by
          unfold X.pointSize at hpn ⊢
          rw [hw]
          split at hpn
          · rename_i h46
            rw [if_pos h46, gi _ (by omega), if_pos h46, drop_take_app hnl _ (by omega), past_take X.digit r r2 (l.drop (X.wholeSize l + 1)) (n - (X.wholeSize l + 1)) (by rw [List.length_drop]; omega) (by omega)]
          · rename_i h46
            rw [if_neg h46]
            rw [if_neg]
            rcases gj (X.wholeSize l) hpn with h | ⟨_, h⟩
            · rw [h]; exact h46
            · rw [h]; exact r4
        have hq : X.powerSize ((l.take n ++ r).drop (X.pointSize l)) = X.powerSize (l.drop (X.pointSize l)) := by
          generalize X.pointSize l = p at hn' hpn
          by_cases hE : g l p = 101 ∨ g l p = 69
          · by_cases hP : X.past X.digit ((l.drop p).drop (X.powerDigits (l.drop p))) = 0
            · exfalso
              have eq : X.powerSize (l.drop p) = 0 := by unfold X.powerSize; rw [g_dropO, Nat.add_zero, if_pos hE, if_pos hP]
              rw [eq, Nat.add_zero] at hn'
              subst hn'
              rcases hE with h | h
              · exact n3 h
              · exact n4 h
            · have eq : X.powerSize (l.drop p) = X.powerDigits (l.drop p) + X.past X.digit ((l.drop p).drop (X.powerDigits (l.drop p))) := by unfold X.powerSize; rw [g_dropO, Nat.add_zero, if_pos hE, if_neg hP]
              rw [eq] at hn' ⊢
              have hpd : 1 ≤ X.powerDigits (l.drop p) := by unfold X.powerDigits; split <;> omega
              have ed : X.powerDigits ((l.take n ++ r).drop p) = X.powerDigits (l.drop p) := by unfold X.powerDigits; rw [g_dropO, g_dropO, gi _ (by omega)]
              have ee : X.past X.digit (((l.take n ++ r).drop p).drop (X.powerDigits (l.drop p))) = X.past X.digit ((l.drop p).drop (X.powerDigits (l.drop p))) := by
                rw [drop_take_app hnl p hpn, drop_take_app (by rw [List.length_drop]; omega) _ (by omega)]
                exact past_take X.digit r r2 _ _ (by rw [List.length_drop, List.length_drop]; omega) (by omega)
              unfold X.powerSize
              rw [g_dropO, Nat.add_zero, gi p (by omega), if_pos hE, ed, ee, if_neg hP]
          · have eq : X.powerSize (l.drop p) = 0 := by unfold X.powerSize; rw [g_dropO, Nat.add_zero, if_neg hE]
            rw [eq]
            unfold X.powerSize
            rw [g_dropO, Nat.add_zero, if_neg]
            rcases gj p hpn with h | ⟨_, h⟩
            · rw [h]; exact hE
            · rw [h]; omega
        unfold X.numberSize
        rw [hsix, if_neg hs, hp, hq]
        exact hn'
    unfold X.number
    rw [hN, gk, r1, take_take_app hnl n (Nat.le_refl _), hv]
    rfl

theorem first_take {num : List UInt8 → Option Nat} {l : List UInt8} {k : Nat} {t : List UInt8} {v n : Nat} (h0 : 0 < l.length) (h : X.first num l = .yes k t v n) (r : List UInt8) (hr : stopB (g r 0) = true) : X.first num (l.take n ++ r) = .yes k t v n := by
  obtain ⟨hn1, hnl⟩ := first_some h0 h
  obtain ⟨r1, r2, _⟩ := stopB_goes hr (U.g_lt _ _)
  have g0 : g (l.take n ++ r) 0 = g l 0 := g_take hnl 0 (by omega)
  have g1 : g (l.take n ++ r) 1 = g l 1 ∨ (n = 1 ∧ g (l.take n ++ r) 1 = g r 0) := by
    rcases Nat.lt_or_ge 1 n with h | h
    · exact Or.inl (g_take hnl 1 h)
    · obtain rfl : n = 1 := by omega
      exact Or.inr ⟨rfl, g_tail hnl⟩
  unfold X.first at h ⊢
  rw [g0]
  split at h
  · rename_i ho
    rw [if_pos ho]
    unfold X.nameAns at h ⊢
    simp only [X.Ans.yes.injEq] at h
    obtain ⟨h1, h2, h3, h4⟩ := h
    have hp : X.past X.goes (l.take n ++ r) = n := by
      rw [past_take X.goes r r1 l n hnl (by omega), h4]
    rw [hp, take_take_app hnl n (Nat.le_refl _)]
    rw [h4] at h1 h2
    rw [h1, h2, h3]
  rename_i ho
  rw [if_neg ho]
  split at h
  · rename_i hq
    rw [if_pos hq]
    unfold X.text at h ⊢
    cases ht : X.textF l.length (g l 0) (l.drop 1) with
    | none => rw [ht] at h; cases h
    | some p =>
      obtain ⟨u, m⟩ := p
      rw [ht] at h
      simp only [X.Ans.yes.injEq] at h
      obtain ⟨h1, h2, h3, h4⟩ := h
      have := textF_take r _ _ _ _ _ (l.take n ++ r).length (n - 1) ht (by rw [List.length_append, List.length_take]; omega) (by omega) (by rw [List.length_drop]; omega)
      rw [g0, drop_take_app hnl 1 (by omega), this]
      simp only [X.Ans.yes.injEq]
      exact ⟨h1, h2, h3, h4⟩
  rename_i hq
  rw [if_neg hq]
  split at h
  · rename_i hp
    have hp' : g l 0 = 46 ∧ X.digit (g (l.take n ++ r) 1) = false := by
      refine ⟨hp.1, ?_⟩
      rcases g1 with h | ⟨_, h⟩
      · rw [h]; exact hp.2
      · rw [h]; exact r2
    rw [if_pos hp']
    exact mark_take h r hr
  rename_i hp
  split at h
  · rename_i hd
    have hp' : ¬ (g l 0 = 46 ∧ X.digit (g (l.take n ++ r) 1) = false) := by
      rintro ⟨h46, hdg⟩
      rcases g1 with h' | ⟨hn, h'⟩
      · rw [h'] at hdg; exact hp ⟨h46, hdg⟩
      · have hdig : X.digit (g l 1) = true := by
          cases hdd : X.digit (g l 1) with
          | true => rfl
          | false => exact absurd ⟨h46, hdd⟩ hp
        have hw : X.wholeSize l = 0 := by
          unfold X.wholeSize
          rw [if_neg (by omega)]
          unfold X.past
          cases l with
          | nil => rfl
          | cons b l =>
            have hb : b.toNat = 46 := h46
            rw [List.takeWhile_cons, if_neg (by rw [hb]; decide)]
            rfl
        have hs : X.sixteensSize l = 0 := by unfold X.sixteensSize; rw [if_neg (by omega)]
        have hpast : 1 ≤ X.past X.digit (l.drop 1) := by
          have e : g (l.drop 1) 0 = g l 1 := g_dropO l 1 0
          cases hdl : l.drop 1 with
          | nil => rw [hdl] at e; rw [← e] at hdig; exact absurd hdig (by decide)
          | cons b l2 =>
            rw [hdl] at e
            have hb : X.digit b.toNat = true := by
              have : g (b :: l2) 0 = b.toNat := rfl
              rw [← this, e]; exact hdig
            unfold X.past
            rw [List.takeWhile_cons, if_pos hb]
            simp
        have hps : 2 ≤ X.numberSize l := by
          unfold X.numberSize X.pointSize
          rw [hs, hw, if_neg (by omega), if_pos h46]
          simp only [Nat.zero_add]
          omega
        unfold X.number at h
        split at h
        · cases h
        split at h
        · cases h
        · simp only [X.Ans.yes.injEq] at h
          omega
    rw [if_neg hp', if_pos hd]
    exact number_take h hn1 hnl r hr
  · rename_i hd
    have hp' : ¬ (g l 0 = 46 ∧ X.digit (g (l.take n ++ r) 1) = false) := fun hh => hd (Or.inl hh.1)
    rw [if_neg hp', if_neg hd]
    exact mark_take h r hr
end Go.Proofs.YtelphbcdjfdjpaaGreatDoor
