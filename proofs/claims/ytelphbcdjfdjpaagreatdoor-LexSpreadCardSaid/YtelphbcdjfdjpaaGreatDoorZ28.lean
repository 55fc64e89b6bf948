/- What stands ahead of a lexeme, item by item: a blank, a line end, a remark of the one sort or the other; it is read alike whatever stands behind it. No program. Gaps: what stands ahead of a lexeme, as items in a row. No program. -/
import Derived.Test.YtelphbcdjfdjpaaGreatDoorZ18
namespace Go.Proofs.YtelphbcdjfdjpaaGreatDoor
set_option linter.all false
open U (dec enc scalar n8)

theorem dec_app (l r : List UInt8) (h : (dec l).2 ≠ 0) : dec (l ++ r) = dec l := by
  obtain ⟨n, hn⟩ : ∃ n, (dec l).2 = n + 1 := ⟨(dec l).2 - 1, by omega⟩
  obtain ⟨h1, h2, h3⟩ := U.enc_dec l (dec l).1 n (by rw [← hn])
  have := U.dec_enc (dec l).1 (l.drop (n + 1) ++ r) h1
  rw [← List.append_assoc, ← h3] at this
  rw [this, h2, ← hn]
/-- A character's first bytes are enough. -/
theorem dec_take (l : List UInt8) (k : Nat) (r : List UInt8) (h0 : (dec l).2 ≠ 0) (h : (dec l).2 ≤ k) : dec (l.take k ++ r) = dec l := by
  obtain ⟨n, hn⟩ : ∃ n, (dec l).2 = n + 1 := ⟨(dec l).2 - 1, by omega⟩
  obtain ⟨h1, h2, h3⟩ := U.enc_dec l (dec l).1 n (by rw [← hn])
  have e : l.take k = enc (dec l).1 ++ (l.drop (n + 1)).take (k - (n + 1)) := by
    conv => lhs; rw [h3]
    rw [List.take_append, h2, List.take_of_length_le (by omega)]
  rw [e, List.append_assoc, U.dec_enc _ _ h1, h2, ← hn]
/-- The bytes of a character behind its first one are none of the first 128. -/
theorem enc_rest (c : Nat) (hc : scalar c) (i : Nat) (h1 : 1 ≤ i) (h2 : i < (enc c).length) : 128 ≤ U.g (enc c) i := by
  have hc' : c ≤ 1114111 := by unfold scalar at hc; omega
  rw [U.enc_length] at h2
  unfold U.enc U.g
  split at h2
  · omega
  split at h2
  · rename_i h3 h4
    obtain rfl : i = 1 := by omega
    rw [if_neg h3, if_pos h4]
    show 128 ≤ (UInt8.ofNat (128 + c % 64)).toNat
    rw [U.ofNat_toNat _ (by omega)]; omega
  split at h2
  · rename_i h3 h4 h5
    rw [if_neg h3, if_neg h4, if_pos h5]
    match i, h1, h2 with
    | 1, _, _ => show 128 ≤ (UInt8.ofNat (128 + c / 64 % 64)).toNat; rw [U.ofNat_toNat _ (by omega)]; omega
    | 2, _, _ => show 128 ≤ (UInt8.ofNat (128 + c % 64)).toNat; rw [U.ofNat_toNat _ (by omega)]; omega
  · rename_i h3 h4 h5
    rw [if_neg h3, if_neg h4, if_neg h5]
    match i, h1, h2 with
    | 1, _, _ => show 128 ≤ (UInt8.ofNat (128 + c / 4096 % 64)).toNat; rw [U.ofNat_toNat _ (by omega)]; omega
    | 2, _, _ => show 128 ≤ (UInt8.ofNat (128 + c / 64 % 64)).toNat; rw [U.ofNat_toNat _ (by omega)]; omega
    | 3, _, _ => show 128 ≤ (UInt8.ofNat (128 + c % 64)).toNat; rw [U.ofNat_toNat _ (by omega)]; omega
theorem dec_rest (l : List UInt8) (i : Nat) (h1 : 1 ≤ i) (h2 : i < (dec l).2) : 128 ≤ U.g l i := by
  obtain ⟨n, hn⟩ : ∃ n, (dec l).2 = n + 1 := ⟨(dec l).2 - 1, by omega⟩
  obtain ⟨hs, hl, h3⟩ := U.enc_dec l (dec l).1 n (by rw [← hn])
  have := enc_rest _ hs i h1 (by omega)
  have e : U.g l i = U.g (enc (dec l).1) i := by
    unfold U.g
    rw [List.getD_eq_getElem?_getD, List.getD_eq_getElem?_getD]
    conv => lhs; rw [h3]
    rw [List.getElem?_append_left (by omega)]
  omega

/-! A remark of the second sort. -/
theorem index_take : ∀ (l : List UInt8) (k : Nat) (r : List UInt8), Lib.index l [42, 47] = (k : Int) → Lib.index (l.take (k + 2) ++ r) [42, 47] = (k : Int) ∧ k + 2 ≤ l.length ∧ U.g l k = 42 ∧ U.g l (k + 1) = 47
  | [], k, r, h => by unfold Lib.index at h; simp at h
  | b :: l, k, r, h => by
    unfold Lib.index at h
    split at h
    · rename_i hp
      have hk : k = 0 := by omega
      subst hk
      obtain ⟨t, ht⟩ := List.isPrefixOf_iff_prefix.1 hp
      rw [← ht]
      refine ⟨?_, by simp, rfl, rfl⟩
      show Lib.index (42 :: 47 :: ([] ++ r)) [42, 47] = 0
      unfold Lib.index
      simp [List.isPrefixOf]
    · rename_i hp
      split at h
      · omega
      · rename_i h1
        have hge := Lib.index_ge l [42, 47]
        have h1' : Lib.index l [42, 47] ≠ -1 := by simpa using h1
        obtain ⟨j, hj⟩ : ∃ j : Nat, Lib.index l [42, 47] = (j : Int) := ⟨(Lib.index l [42, 47]).toNat, by omega⟩
        have hk : k = j + 1 := by omega
        subst hk
        obtain ⟨i1, i2, i3, i4⟩ := index_take l j r hj
        refine ⟨?_, by simp only [List.length_cons]; omega, i3, i4⟩
        rw [show j + 1 + 2 = (j + 2) + 1 by omega, List.take_succ_cons, List.cons_append]
        unfold Lib.index
        have hp2 : ¬ ([42, 47].isPrefixOf (b :: (l.take (j + 2) ++ r)) = true) := by
          intro hq
          apply hp
          cases l with
          | nil => simp at i2
          | cons c l =>
            rw [List.take_succ_cons, List.cons_append] at hq
            simp only [List.isPrefixOf, Bool.and_true, Bool.and_eq_true] at hq ⊢
            exact hq
        rw [if_neg hp2, i1, if_neg (by rw [beq_iff_eq]; omega)]
        omega
theorem lines_take : ∀ (f k : Nat) (l r : List UInt8) (b : Bool), (k ≤ l.length) → (∀ i, i < 2 → 0 < k → U.g l (k + i) < 128 ∧ k + i < l.length) → X.linesF f k l = some b → X.linesF f k (l.take (k + 2) ++ r) = some b
  | 0, k, l, r, b, _, _, h => h
  | f + 1, k, l, r, b, hk, hg, h => by
    unfold X.linesF at h ⊢
    split at h
    · rename_i h0
      rw [if_pos h0]; exact h
    rename_i h0
    rw [if_neg h0]
    split at h
    · cases h
    rename_i hd
    have g0 := hg 0 (by omega) (by omega)
    have g1 := hg 1 (by omega) (by omega)
    have hle : (dec l).2 ≤ k := by
      rcases Nat.lt_or_ge k (dec l).2 with hlt | hlt
      · exfalso
        have := dec_rest l k (by omega) hlt
        simp only [Nat.add_zero] at g0
        omega
      · exact hlt
    rw [dec_take l (k + 2) r hd (by omega), if_neg hd]
    cases hl : X.linesF f (k - (dec l).2) (l.drop (dec l).2) with
    | none => rw [hl] at h; cases h
    | some b1 =>
      rw [hl] at h
      have ih := lines_take f (k - (dec l).2) (l.drop (dec l).2) r b1 (by rw [List.length_drop]; omega) ?_ hl
      · have e : (l.take (k + 2) ++ r).drop (dec l).2 = (l.drop (dec l).2).take (k - (dec l).2 + 2) ++ r := by
          rw [List.drop_append, List.length_take, List.drop_take]
          have : (dec l).2 - min (k + 2) l.length = 0 := by omega
          rw [this, List.drop_zero]
          congr 2
          omega
        rw [e, ih]
        exact h
      · intro i hi hpos
        have := hg i hi (by omega)
        rw [List.length_drop]
        refine ⟨?_, by omega⟩
        have e : U.g (l.drop (dec l).2) (k - (dec l).2 + i) = U.g l (k + i) := by
          unfold U.g
          rw [List.getD_eq_getElem?_getD, List.getD_eq_getElem?_getD, List.getElem?_drop]
          congr 3
          omega
        rw [e]; exact this.1
/-- A remark of the second sort is one whatever stands behind it. -/
theorem long_take (l : List UInt8) (n : Nat) (b : Bool) (hl : 2 ≤ l.length) (h : X.long l = some (n, b)) (r : List UInt8) : X.long (l.take n ++ r) = some (n, b) := by
  unfold X.long at h
  split at h
  · cases h
  · rename_i k hk
    have hk' : Lib.index (l.drop 2) [42, 47] = (k : Int) := hk
    cases hln : X.linesF k k (l.drop 2) with
    | none => rw [hln] at h; cases h
    | some b1 =>
      rw [hln] at h
      simp only [Option.map_some, Option.some.injEq, Prod.mk.injEq] at h
      obtain ⟨rfl, rfl⟩ := h
      obtain ⟨i1, i2, i3, i4⟩ := index_take (l.drop 2) k r hk'
      have e : (l.take (k + 4) ++ r).drop 2 = (l.drop 2).take (k + 2) ++ r := by
        rw [List.length_drop] at i2
        rw [List.drop_append, List.length_take, List.drop_take, show 2 - min (k + 4) l.length = 0 by omega, List.drop_zero, show k + 4 - 2 = k + 2 by omega]
      unfold X.long
      rw [e, i1]
      have hl2 := lines_take k k (l.drop 2) r b1 (by omega) (fun i hi _ => ?_) hln
      · show Option.map _ (X.linesF k k _) = _
        rw [hl2]
        rfl
      · match i, hi with
        | 0, _ => exact ⟨by rw [Nat.add_zero, i3]; decide, by omega⟩
        | 1, _ => exact ⟨by rw [i4]; decide, by omega⟩

/-! A remark of the first sort. -/
theorem short_run : ∀ (cs : List Nat) (f : Nat) (r : List UInt8), (∀ c ∈ cs, scalar c ∧ X.ends c = false) → (r = [] ∨ ((dec r).2 ≠ 0 ∧ X.ends (dec r).1 = true)) → (n8 cs).length + r.length ≤ f → X.shortF f (n8 cs ++ r) = ((n8 cs).length, true)
  | [], f, r, _, hr, hf => by
    show X.shortF f r = (0, true)
    cases f with
    | zero => rfl
    | succ f =>
      unfold X.shortF
      rcases hr with rfl | ⟨h1, h2⟩
      · rw [if_pos rfl]
      · have hne : r ≠ [] := by rintro rfl; rw [U.dec_nil] at h1; exact h1 rfl
        rw [if_neg hne, if_neg h1, if_pos h2]
  | c :: cs, f, r, hc, hr, hf => by
    obtain ⟨h1, h2⟩ := hc c (by simp)
    have hpos := U.enc_pos c
    rw [U.n8_cons, List.length_append] at hf
    obtain ⟨f, rfl⟩ : ∃ f', f = f' + 1 := ⟨f - 1, by omega⟩
    have hd : dec (n8 (c :: cs) ++ r) = (c, (enc c).length) := by rw [U.n8_cons, List.append_assoc]; exact U.dec_enc c _ h1
    have hne : n8 (c :: cs) ++ r ≠ [] := by
      intro e
      have := congrArg List.length e
      rw [U.n8_cons, List.length_append, List.length_append, List.length_nil] at this
      omega
    unfold X.shortF
    rw [if_neg hne, hd, if_neg (by show ¬ (enc c).length = 0; omega), if_neg (by show ¬ X.ends c = true; rw [h2]; simp)]
    have e : (n8 (c :: cs) ++ r).drop (enc c).length = n8 cs ++ r := by rw [U.n8_cons, List.append_assoc, List.drop_left]
    rw [e, short_run cs f r (fun x hx => hc x (by simp [hx])) hr (by omega), U.n8_cons, List.length_append]
theorem short_inv : ∀ (f : Nat) (l : List UInt8), l.length ≤ f → (X.shortF f l).2 = true → ∃ cs, (∀ c ∈ cs, scalar c ∧ X.ends c = false) ∧ l.take (X.shortF f l).1 = n8 cs ∧ (l.drop (X.shortF f l).1 = [] ∨ ((dec (l.drop (X.shortF f l).1)).2 ≠ 0 ∧ X.ends (dec (l.drop (X.shortF f l).1)).1 = true))
  | 0, l, hl, _ => by
    obtain rfl : l = [] := List.eq_nil_of_length_eq_zero (by omega)
    exact ⟨[], fun _ h => (by cases h), rfl, Or.inl rfl⟩
  | f + 1, l, hl, h => by
    unfold X.shortF at h ⊢
    split at h
    · rename_i h0
      subst h0
      exact ⟨[], fun _ h => (by cases h), rfl, Or.inl rfl⟩
    rename_i h0
    rw [if_neg h0]
    split at h
    · cases h
    rename_i h1
    rw [if_neg h1]
    split at h
    · rename_i h2
      rw [if_pos h2]
      exact ⟨[], fun _ h => (by cases h), rfl, Or.inr ⟨h1, h2⟩⟩
    rename_i h2
    rw [if_neg h2]
    obtain ⟨n, hn⟩ : ∃ n, (dec l).2 = n + 1 := ⟨(dec l).2 - 1, by omega⟩
    obtain ⟨hs, hlen, h3⟩ := U.enc_dec l (dec l).1 n (by rw [← hn])
    have hle := U.dec_le l
    obtain ⟨cs, i1, i2, i3⟩ := short_inv f (l.drop (dec l).2) (by rw [List.length_drop]; omega) h
    refine ⟨(dec l).1 :: cs, ?_, ?_, ?_⟩
    · intro c hc
      rcases List.mem_cons.1 hc with rfl | hc
      · exact ⟨hs, by simpa using h2⟩
      · exact i1 c hc
    · rw [U.n8_cons, ← i2]
      show l.take ((dec l).2 + _) = _
      rw [List.take_add, hn]
      congr 1
      conv => lhs; rw [h3]
      rw [← hlen, List.take_left]
    · show (l.drop ((dec l).2 + _) = [] ∨ _)
      rw [← List.drop_drop]
      exact i3
end Go.Proofs.YtelphbcdjfdjpaaGreatDoor
namespace Go.Proofs.YtelphbcdjfdjpaaGreatDoor
set_option linter.all false
open U (dec enc scalar n8)

/-- Characters of a remark of the first sort. -/
def Rem (cs : List Nat) : Prop := (∀ c ∈ cs, scalar c ∧ X.ends c = false) ∧ [47, 47].isPrefixOf (n8 cs) = true
/-- Items in a row: is a line end in them? -/
inductive Gap : List UInt8 → Bool → Prop
  | nil : Gap [] false
  | sep (c : Nat) (y : List UInt8) (b : Bool) (hc : scalar c) (hs : X.blank c = true ∨ X.ends c = true) (h : Gap y b) : Gap (enc c ++ y) (X.ends c || b)
  | short (cs : List Nat) (y : List UInt8) (b : Bool) (hr : Rem cs) (hd : (dec y).2 ≠ 0) (he : X.ends (dec y).1 = true) (h : Gap y b) : Gap (n8 cs ++ y) b
  | long (s : List UInt8) (b1 : Bool) (y : List UInt8) (b : Bool) (hs : 4 ≤ s.length) (hp : [47, 42].isPrefixOf s = true) (hl : ∀ r, X.long (s ++ r) = some (s.length, b1)) (h : Gap y b) : Gap (s ++ y) (b1 || b)
/-- No item begins here. -/
def Stop (z : List UInt8) : Prop := [47, 47].isPrefixOf z = false ∧ [47, 42].isPrefixOf z = false ∧ ((dec z).2 = 0 ∨ (X.blank (dec z).1 = false ∧ X.ends (dec z).1 = false))
theorem stop_gap {z : List UInt8} (h : Stop z) (f : Nat) (ln : Bool) : X.gapF (f + 1) z ln = (0, ln, true) := by
  obtain ⟨h1, h2, h3⟩ := h
  rw [gap_step, if_neg (by rw [h1]; simp), if_neg (by rw [h2]; simp), if_neg]
  rintro ⟨i1, i2⟩
  rcases h3 with h | ⟨h4, h5⟩
  · exact i1 h
  · rw [h4, h5] at i2; simp at i2
theorem stop_nil : Stop [] := ⟨rfl, rfl, Or.inl (by rw [U.dec_nil])⟩
theorem pre_head {a b : UInt8} {l : List UInt8} (h : [a, b].isPrefixOf l = true) : ∃ t, l = a :: b :: t := by
  obtain ⟨t, ht⟩ := List.isPrefixOf_iff_prefix.1 h
  exact ⟨t, ht.symm⟩
theorem pre_app {p l : List UInt8} (r : List UInt8) (h : p.isPrefixOf l = true) : p.isPrefixOf (l ++ r) = true := by
  obtain ⟨t, ht⟩ := List.isPrefixOf_iff_prefix.1 h
  exact List.isPrefixOf_iff_prefix.2 ⟨t ++ r, by rw [← List.append_assoc, ht]⟩
theorem dec_slash {l : List UInt8} {b : UInt8} (h : [47, b].isPrefixOf l = true) : dec l = (47, 1) := by
  obtain ⟨t, rfl⟩ := pre_head h
  exact U.dec_ascii _ (by simp) (by show (47 : Nat) < 128; decide)
/-- A separating character is no remark. -/
theorem sep_no {l : List UInt8} (b : UInt8) (h : X.blank (dec l).1 = true ∨ X.ends (dec l).1 = true) : [47, b].isPrefixOf l = false := by
  cases hp : [47, b].isPrefixOf l with
  | false => rfl
  | true =>
    rw [dec_slash hp] at h
    exact absurd h (by decide)
theorem sep_step {l : List UInt8} (f : Nat) (ln : Bool) (hd : (dec l).2 ≠ 0) (h : X.blank (dec l).1 = true ∨ X.ends (dec l).1 = true) :
    X.gapF (f + 1) l ln = ((dec l).2 + (X.gapF f (l.drop (dec l).2) (ln || X.ends (dec l).1)).1, (X.gapF f (l.drop (dec l).2) (ln || X.ends (dec l).1)).2) := by
  rw [gap_step, if_neg (by rw [sep_no 47 h]; simp), if_neg (by rw [sep_no 42 h]; simp), if_pos ⟨hd, h⟩]
theorem Rem.two {cs : List Nat} (h : Rem cs) : 2 ≤ (n8 cs).length := by
  obtain ⟨t, ht⟩ := pre_head h.2
  rw [ht]; simp
theorem Rem.read {cs : List Nat} (h : Rem cs) (z : List UInt8) (hz : z = [] ∨ ((dec z).2 ≠ 0 ∧ X.ends (dec z).1 = true)) : X.short (n8 cs ++ z) = ((n8 cs).length, true) := by
  unfold X.short
  exact short_run cs _ z h.1 hz (by rw [List.length_append]; omega)
theorem Gap.run {y : List UInt8} {b : Bool} (h : Gap y b) : ∀ (z : List UInt8) (f : Nat) (ln : Bool), (y ++ z).length < f → ∃ f', z.length < f' ∧ X.gapF f (y ++ z) ln = (y.length + (X.gapF f' z (ln || b)).1, (X.gapF f' z (ln || b)).2) := by
  induction h with
  | nil =>
    intro z f ln hf
    refine ⟨f, by simpa using hf, ?_⟩
    simp
  | sep c y b hc hs h ih =>
    intro z f ln hf
    rw [List.append_assoc, List.length_append] at hf
    have hpos := U.enc_pos c
    obtain ⟨f, rfl⟩ : ∃ f', f = f' + 1 := ⟨f - 1, by omega⟩
    obtain ⟨f', hf', he⟩ := ih z f (ln || X.ends c) (by omega)
    have hd := U.dec_enc c (y ++ z) hc
    refine ⟨f', hf', ?_⟩
    rw [List.append_assoc, sep_step f ln (by rw [hd]; show (enc c).length ≠ 0; omega) (by rw [hd]; exact hs), hd]
    simp only
    rw [List.drop_left, he, List.length_append, Bool.or_assoc, Nat.add_assoc]
  | short cs y b hr hd he h ih =>
    intro z f ln hf
    rw [List.append_assoc, List.length_append] at hf
    have h2 := hr.two
    obtain ⟨f, rfl⟩ : ∃ f', f = f' + 1 := ⟨f - 1, by omega⟩
    obtain ⟨f', hf', hh⟩ := ih z f ln (by omega)
    have hda := dec_app y z hd
    have hsh := hr.read (y ++ z) (Or.inr (by rw [hda]; exact ⟨hd, he⟩))
    refine ⟨f', hf', ?_⟩
    rw [List.append_assoc, gap_step, if_pos (pre_app _ hr.2), hsh]
    simp only [if_true]
    rw [List.drop_left, hh, List.length_append, Nat.add_assoc]
  | long s b1 y b hs hp hl h ih =>
    intro z f ln hf
    rw [List.append_assoc, List.length_append] at hf
    obtain ⟨f, rfl⟩ : ∃ f', f = f' + 1 := ⟨f - 1, by omega⟩
    obtain ⟨f', hf', hh⟩ := ih z f (ln || b1) (by omega)
    have hn : [47, 47].isPrefixOf (s ++ (y ++ z)) = false := by
      obtain ⟨t, rfl⟩ := pre_head hp
      simp [List.isPrefixOf]
    refine ⟨f', hf', ?_⟩
    rw [List.append_assoc, gap_step, if_neg (by rw [hn]; simp), if_pos (pre_app _ hp), hl]
    simp only
    rw [List.drop_left, hh, List.length_append, Bool.or_assoc, Nat.add_assoc]
/-- Items in a row, and then none. -/
theorem Gap.gap {y : List UInt8} {b : Bool} (h : Gap y b) {z : List UInt8} (hz : Stop z) : X.gap (y ++ z) = (y.length, b, true) := by
  unfold X.gap
  obtain ⟨f', hf', e⟩ := h.run z ((y ++ z).length + 1) false (by omega)
  obtain ⟨f', rfl⟩ : ∃ k, f' = k + 1 := ⟨f' - 1, by omega⟩
  rw [e, stop_gap hz]
  simp
/-- Items in a row, and then a remark to the end. -/
theorem Gap.gapEnd {y : List UInt8} {b : Bool} (h : Gap y b) {cs : List Nat} (hr : Rem cs) : X.gap (y ++ n8 cs) = ((y ++ n8 cs).length, b, true) := by
  unfold X.gap
  obtain ⟨f', hf', e⟩ := h.run (n8 cs) ((y ++ n8 cs).length + 1) false (by omega)
  have h2 := hr.two
  obtain ⟨f', rfl⟩ : ∃ k, f' = k + 2 := ⟨f' - 2, by omega⟩
  have hsh := hr.read [] (Or.inl rfl)
  rw [List.append_nil] at hsh
  rw [e, gap_step, if_pos hr.2, hsh]
  simp only [if_true, List.drop_length]
  rw [stop_gap stop_nil]
  simp
theorem Gap.dec {y : List UInt8} {b : Bool} (h : Gap y b) (hy : y ≠ []) : (U.dec y).2 ≠ 0 := by
  cases h with
  | nil => exact absurd rfl hy
  | sep c y b hc hs h => rw [U.dec_enc _ _ hc]; have := U.enc_pos c; show (enc c).length ≠ 0; omega
  | short cs y b hr hd he h => rw [dec_slash (pre_app _ hr.2)]; simp
  | long s b1 y b hs hp hl h => rw [dec_slash (pre_app _ hp)]; simp
theorem Gap.append {x y : List UInt8} {a b : Bool} (h : Gap x a) (k : Gap y b) : Gap (x ++ y) (a || b) := by
  induction h with
  | nil => simpa using k
  | sep c x a hc hs h ih => rw [List.append_assoc, Bool.or_assoc]; exact .sep c _ _ hc hs ih
  | short cs x a hr hd he h ih => rw [List.append_assoc]; exact .short cs _ _ hr (by rw [dec_app x y hd]; exact hd) (by rw [dec_app x y hd]; exact he) ih
  | long s b1 x a hs hp hl h ih => rw [List.append_assoc, Bool.or_assoc]; exact .long s b1 _ _ hs hp hl ih
/-- What is read as a gap is one. -/
theorem gap_inv : ∀ (f : Nat) (l : List UInt8) (ln : Bool) (g : Nat) (b : Bool), l.length < f → X.gapF f l ln = (g, b, true) →
    (∃ b1, Gap (l.take g) b1 ∧ b = (ln || b1) ∧ Stop (l.drop g) ∧ g ≤ l.length) ∨ (g = l.length ∧ ∃ y cs b1, l = y ++ n8 cs ∧ Gap y b1 ∧ Rem cs ∧ b = (ln || b1))
  | 0, l, ln, g, b, hl, _ => by omega
  | f + 1, l, ln, g, b, hl, h => by
    rw [gap_step] at h
    split at h
    · rename_i hp
      split at h
      · rename_i hok
        obtain ⟨t, ht⟩ := pre_head hp
        have hsl : (X.short l).1 ≤ l.length := shortF_le _ _
        obtain ⟨cs, c1, c2, c3⟩ := short_inv l.length l (Nat.le_refl _) hok
        have c2' : l.take (X.short l).1 = n8 cs := c2
        have c3' : l.drop (X.short l).1 = [] ∨ ((U.dec (l.drop (X.short l).1)).2 ≠ 0 ∧ X.ends (U.dec (l.drop (X.short l).1)).1 = true) := c3
        clear c2 c3
        generalize (X.short l).1 = k at *
        have hk2 : 2 ≤ k := by
          rcases Nat.lt_or_ge k 2 with hk | hk
          · exfalso
            have e47 : ∀ t : List UInt8, U.dec (47 :: t) = (47, 1) := fun t => U.dec_ascii _ (by simp) (by show (47 : Nat) < 128; decide)
            match k, hk with
            | 0, _ =>
              rw [ht] at c3'
              rcases c3' with h | ⟨_, h⟩
              · cases h
              · rw [List.drop_zero, e47] at h; exact absurd h (by decide)
            | 1, _ =>
              rw [ht] at c3'
              rcases c3' with h | ⟨_, h⟩
              · cases h
              · rw [List.drop_succ_cons, List.drop_zero, e47] at h; exact absurd h (by decide)
          · exact hk
        have hrem : Rem cs := by
          refine ⟨c1, ?_⟩
          rw [← c2', ht]
          obtain ⟨j, rfl⟩ : ∃ j, k = j + 2 := ⟨k - 2, by omega⟩
          simp [List.isPrefixOf]
        obtain ⟨g', hg'⟩ : ∃ g', X.gapF f (l.drop k) ln = g' := ⟨_, rfl⟩
        rw [hg'] at h
        obtain ⟨g1, g2, g3⟩ := g'
        simp only [Prod.mk.injEq] at h
        obtain ⟨rfl, rfl, rfl⟩ := h
        have hsplit : l = n8 cs ++ l.drop k := by rw [← c2', List.take_append_drop]
        have hf1 : (l.drop k).length < f := by rw [List.length_drop]; omega
        rcases c3' with hnil | ⟨hd, he⟩
        · right
          rw [hnil] at hg' hf1
          obtain ⟨f, rfl⟩ : ∃ f', f = f' + 1 := ⟨f - 1, by simp at hf1; omega⟩
          rw [stop_gap stop_nil] at hg'
          cases hg'
          have hlk : l.length = k := by have := congrArg List.length hnil; rw [List.length_drop] at this; simp at this; omega
          refine ⟨by omega, [], cs, false, ?_, .nil, hrem, by simp⟩
          rw [List.nil_append]
          conv => lhs; rw [hsplit, hnil, List.append_nil]
        · have hge : (U.dec (l.drop k)).2 ≤ g1 := by
            obtain ⟨f, rfl⟩ : ∃ f', f = f' + 1 := ⟨f - 1, by omega⟩
            rw [sep_step f ln hd (Or.inr he)] at hg'
            have := (Prod.mk.inj hg').1
            omega
          rcases gap_inv f (l.drop k) ln g1 g2 hf1 hg' with ⟨b1, i1, i2, i3, i4⟩ | ⟨i0, y, cs', b1, i1, i2, i3, i4⟩
          · left
            have hdt := dec_take (l.drop k) g1 [] hd hge
            rw [List.append_nil] at hdt
            refine ⟨b1, ?_, i2, by rw [← List.drop_drop]; exact i3, by rw [List.length_drop] at i4; omega⟩
            rw [List.take_add, c2']
            exact .short cs _ _ hrem (by rw [hdt]; exact hd) (by rw [hdt]; exact he) i1
          · right
            rw [List.length_drop] at i0
            refine ⟨by omega, n8 cs ++ y, cs', b1, by rw [List.append_assoc, ← i1]; exact hsplit, ?_, i3, i4⟩
            have hyne : y ≠ [] := by
              rintro rfl
              rw [i1, List.nil_append, dec_slash i3.2] at he
              exact absurd he (by decide)
            have hdy := i2.dec hyne
            have hda := dec_app y (n8 cs') hdy
            rw [← i1] at hda
            exact .short cs y b1 hrem hdy (by rw [← hda]; exact he) i2
      · simp at h
    rename_i hp
    split at h
    · rename_i hq
      cases hlg : X.long l with
      | none => rw [hlg] at h; simp at h
      | some q =>
        obtain ⟨n, b1⟩ := q
        rw [hlg] at h
        obtain ⟨hn4, hnl⟩ := long_some hlg
        obtain ⟨g', hg'⟩ : ∃ g', X.gapF f (l.drop n) (ln || b1) = g' := ⟨_, rfl⟩
        simp only [hg'] at h
        obtain ⟨g1, g2, g3⟩ := g'
        simp only [Prod.mk.injEq] at h
        obtain ⟨rfl, rfl, rfl⟩ := h
        have hlt := fun r => long_take l n b1 (by omega) hlg r
        have hlen : (l.take n).length = n := by rw [List.length_take]; omega
        have hpt : [47, 42].isPrefixOf (l.take n) = true := by
          obtain ⟨t, ht⟩ := pre_head hq
          rw [ht]
          obtain ⟨j, rfl⟩ : ∃ j, n = j + 2 := ⟨n - 2, by omega⟩
          simp [List.isPrefixOf]
        rcases gap_inv f (l.drop n) (ln || b1) g1 g2 (by rw [List.length_drop]; omega) hg' with ⟨b2, i1, i2, i3, i4⟩ | ⟨i0, y, cs', b2, i1, i2, i3, i4⟩
        · left
          refine ⟨b1 || b2, ?_, by rw [i2, Bool.or_assoc], by rw [← List.drop_drop]; exact i3, by rw [List.length_drop] at i4; omega⟩
          rw [List.take_add]
          exact .long (l.take n) b1 _ _ (by omega) hpt (fun r => by rw [hlt r, hlen]) i1
        · right
          rw [List.length_drop] at i0
          refine ⟨by omega, l.take n ++ y, cs', b1 || b2, by rw [List.append_assoc, ← i1, List.take_append_drop], ?_, i3, by rw [i4, Bool.or_assoc]⟩
          exact .long (l.take n) b1 _ _ (by omega) hpt (fun r => by rw [hlt r, hlen]) i2
    rename_i hq
    split at h
    · rename_i hs
      obtain ⟨hd, hs⟩ := hs
      obtain ⟨n, hn⟩ : ∃ n, (U.dec l).2 = n + 1 := ⟨(U.dec l).2 - 1, by omega⟩
      obtain ⟨hsc, hlen, h3⟩ := U.enc_dec l (U.dec l).1 n (by rw [← hn])
      have hle := U.dec_le l
      obtain ⟨g', hg'⟩ : ∃ g', X.gapF f (l.drop (U.dec l).2) (ln || X.ends (U.dec l).1) = g' := ⟨_, rfl⟩
      rw [hg'] at h
      obtain ⟨g1, g2, g3⟩ := g'
      simp only [Prod.mk.injEq] at h
      obtain ⟨rfl, rfl, rfl⟩ := h
      have htk : l.take (U.dec l).2 = enc (U.dec l).1 := by
        rw [hn]
        conv => lhs; rw [h3]
        rw [← hlen, List.take_left]
      rcases gap_inv f (l.drop (U.dec l).2) (ln || X.ends (U.dec l).1) g1 g2 (by rw [List.length_drop]; omega) hg' with ⟨b2, i1, i2, i3, i4⟩ | ⟨i0, y, cs', b2, i1, i2, i3, i4⟩
      · left
        refine ⟨X.ends (U.dec l).1 || b2, ?_, by rw [i2, Bool.or_assoc], by rw [← List.drop_drop]; exact i3, by rw [List.length_drop] at i4; omega⟩
        rw [List.take_add, htk]
        exact .sep _ _ _ hsc hs i1
      · right
        rw [List.length_drop] at i0
        refine ⟨by omega, enc (U.dec l).1 ++ y, cs', X.ends (U.dec l).1 || b2, by rw [List.append_assoc, ← i1, ← htk, List.take_append_drop], ?_, i3, by rw [i4, Bool.or_assoc]⟩
        exact .sep _ _ _ hsc hs i2
    · rename_i hs
      simp only [Prod.mk.injEq, and_true] at h
      obtain ⟨rfl, rfl⟩ := h
      left
      refine ⟨false, by rw [List.take_zero]; exact .nil, by simp, ⟨Bool.eq_false_iff.2 hp, Bool.eq_false_iff.2 hq, ?_⟩, Nat.zero_le _⟩
      rw [List.drop_zero]
      by_cases h0 : (U.dec l).2 = 0
      · exact Or.inl h0
      · right
        cases hb : X.blank (U.dec l).1 with
        | true => exact absurd ⟨h0, Or.inl hb⟩ hs
        | false =>
          cases he : X.ends (U.dec l).1 with
          | true => exact absurd ⟨h0, Or.inr he⟩ hs
          | false => exact ⟨rfl, rfl⟩
end Go.Proofs.YtelphbcdjfdjpaaGreatDoor
