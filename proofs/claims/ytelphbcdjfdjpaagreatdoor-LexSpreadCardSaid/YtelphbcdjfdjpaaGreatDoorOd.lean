/- A script with blanks, line ends and remarks ahead of each lexeme has the same lexemes. No program. -/
import Derived.Test.YtelphbcdjfdjpaaGreatDoorOc
namespace Go.Proofs.YtelphbcdjfdjpaaGreatDoor
set_option linter.all false
open U (dec enc scalar n8 g)

def pad : List UInt8 := [32, 47, 42, 32, 97, 32, 42, 32, 98, 32, 42, 47, 32, 47, 47, 32, 99, 13, 10, 9, 226, 128, 168, 32, 47, 42, 32, 10, 32, 42, 47]
def tailL : List UInt8 := [10, 47, 47, 32, 101, 110, 100]
theorem dec_byte (b : UInt8) (l : List UInt8) (h : b.toNat < 128) : dec (b :: l) = (b.toNat, 1) := U.dec_ascii _ (by simp) h
theorem long1 : X.long [47, 42, 32, 97, 32, 42, 32, 98, 32, 42, 47] = some (11, false) := by kernel_rfl
theorem long2 : X.long [47, 42, 32, 10, 32, 42, 47] = some (7, true) := by kernel_rfl
theorem gap_one (c : Nat) (hc : scalar c) (hs : X.blank c = true ∨ X.ends c = true) : Gap (enc c) (X.ends c) := by
  have := Gap.sep c [] false hc hs .nil
  rw [List.append_nil, Bool.or_false] at this
  exact this
theorem padGap : Gap pad true := by
  have b32 : Gap (enc 32) false := gap_one 32 (Or.inl (by decide)) (Or.inl (by decide))
  have l1 : Gap [47, 42, 32, 97, 32, 42, 32, 98, 32, 42, 47] false := by
    have := Gap.long [47, 42, 32, 97, 32, 42, 32, 98, 32, 42, 47] false [] false (by decide) (by decide) (fun r => long_take [47, 42, 32, 97, 32, 42, 32, 98, 32, 42, 47] 11 false (by decide) long1 r) .nil
    exact this
  have l2 : Gap [47, 42, 32, 10, 32, 42, 47] true := by
    have := Gap.long [47, 42, 32, 10, 32, 42, 47] true [] false (by decide) (by decide) (fun r => long_take [47, 42, 32, 10, 32, 42, 47] 7 true (by decide) long2 r) .nil
    exact this
  have e8 : Gap (enc 8232) true := gap_one 8232 (Or.inl (by decide)) (Or.inr (by decide))
  have b9 : Gap (enc 9) false := gap_one 9 (Or.inl (by decide)) (Or.inl (by decide))
  have b10 : Gap (enc 10) true := gap_one 10 (Or.inl (by decide)) (Or.inr (by decide))
  have b13 : Gap (enc 13) true := gap_one 13 (Or.inl (by decide)) (Or.inr (by decide))
  have t1 := b13.append (b10.append (b9.append (e8.append (b32.append l2))))
  have hrem : Rem [47, 47, 32, 99] := ⟨by intro c hc; simp at hc; rcases hc with rfl | rfl | rfl <;> exact ⟨Or.inl (by decide), by decide⟩, by decide⟩
  have hd : dec (enc 13 ++ (enc 10 ++ (enc 9 ++ (enc 8232 ++ (enc 32 ++ [47, 42, 32, 10, 32, 42, 47]))))) = (13, (enc 13).length) := U.dec_enc 13 _ (Or.inl (by decide))
  have t2 := Gap.short [47, 47, 32, 99] _ _ hrem (by rw [hd]; decide) (by rw [hd]; decide) t1
  exact b32.append (l1.append (b32.append t2))
theorem tail_rem : Rem [47, 47, 32, 101, 110, 100] := ⟨by intro c hc; simp at hc; rcases hc with rfl | rfl | rfl | rfl | rfl <;> exact ⟨Or.inl (by decide), by decide⟩, by decide⟩
theorem tail_eq : tailL = enc 10 ++ n8 [47, 47, 32, 101, 110, 100] := by decide
/-- A gap to the end, and the tail. -/
theorem gap_tail (l : List UInt8) (ln : Bool) (h : X.gap l = (l.length, ln, true)) : ∃ b, X.gap (l ++ tailL) = ((l ++ tailL).length, b, true) := by
  have b10 : Gap (enc 10) true := gap_one 10 (Or.inl (by decide)) (Or.inr (by decide))
  rw [tail_eq, ← List.append_assoc]
  unfold X.gap at h
  rcases gap_inv _ l false l.length ln (by omega) h with ⟨b1, i1, _, _, _⟩ | ⟨_, y, cs, b1, i1, i2, i3, _⟩
  · rw [List.take_length] at i1
    exact ⟨_, (i1.append b10).gapEnd tail_rem⟩
  · have hd : dec (enc 10) = (10, 1) := by
      have := U.dec_enc 10 [] (Or.inl (by decide))
      rw [List.append_nil] at this
      rw [this]; decide
    have t := Gap.short cs (enc 10) true i3 (by rw [hd]; decide) (by rw [hd]; decide) b10
    rw [i1, List.append_assoc y]
    exact ⟨_, (i2.append t).gapEnd tail_rem⟩
/-- What the first byte of a gap is. -/
theorem gap_head {l : List UInt8} {n : Nat} {ln : Bool} (h : X.gap l = (n, ln, true)) (hn : 0 < n) : stopB (g l 0) = true := by
  unfold X.gap at h
  rw [gap_step] at h
  split at h
  · rename_i hp
    obtain ⟨t, rfl⟩ := pre_head hp
    rfl
  split at h
  · rename_i hp
    obtain ⟨t, rfl⟩ := pre_head hp
    rfl
  split at h
  · rename_i hs
    by_cases h128 : g l 0 < 128
    · have hne : l ≠ [] := by rintro rfl; rw [U.dec_nil] at hs; exact hs.1 rfl
      rw [U.dec_ascii l hne h128] at hs
      have hall : ∀ b : Nat, b < 128 → (X.blank b = true ∨ X.ends b = true) → stopB b = true := by decide +kernel
      exact hall _ h128 hs.2
    · unfold stopB
      have : decide (128 ≤ g l 0) = true := decide_eq_true (by omega)
      rw [this, Bool.or_true]
  · simp only [Prod.mk.injEq] at h
    omega
theorem marks_head : ∀ m ∈ X.marks, g m 0 < 128 := by decide +kernel
theorem opens_lt {b : Nat} (h : X.opens b = true) : b < 128 := by
  rcases Nat.lt_or_ge b 128 with h' | h'
  · exact h'
  · unfold X.opens at h
    simp only [Bool.or_eq_true, Bool.and_eq_true, decide_eq_true_eq, beq_iff_eq] at h
    omega
theorem digit_lt {b : Nat} (h : X.digit b = true) : b < 128 := by
  unfold X.digit at h
  simp only [Bool.and_eq_true, decide_eq_true_eq] at h
  omega
theorem mark_head {l : List UInt8} {k : Nat} {t : List UInt8} {v n : Nat} (h : X.mark l = .yes k t v n) : g l 0 < 128 := by
  have key : ∀ (ms : List (List UInt8)) (b : List UInt8), (∀ m ∈ ms, m ∈ X.marks) → X.longest l ms b = b ∨ X.longest l ms b ∈ X.marks := by
    intro ms
    induction ms with
    | nil => intro b _; exact Or.inl rfl
    | cons m ms ih =>
      intro b hm
      rw [longest_cons]
      split
      · rcases ih m (fun x hx => hm x (by simp [hx])) with h | h
        · rw [h]; exact Or.inr (hm m (by simp))
        · exact Or.inr h
      · exact ih b (fun x hx => hm x (by simp [hx]))
  unfold X.mark at h
  split at h
  · cases h
  · rename_i hne
    rcases key X.marks [] (fun _ h => h) with h1 | h1
    · exact absurd h1 hne
    · have hp := List.isPrefixOf_iff_prefix.1 (longest_pre l X.marks [] (by simp))
      obtain ⟨q, hq⟩ := hp
      have := marks_head _ h1
      have hl : 0 < (X.longest l X.marks []).length := List.length_pos_iff.2 hne
      have e : g l 0 = g (X.longest l X.marks []) 0 := by
        conv => lhs; rw [← hq]
        unfold U.g
        rw [List.getD_eq_getElem?_getD, List.getD_eq_getElem?_getD, List.getElem?_append_left hl]
      omega
theorem first_head {num : List UInt8 → Option Nat} {l : List UInt8} {k : Nat} {t : List UInt8} {v n : Nat} (h : X.first num l = .yes k t v n) : g l 0 < 128 := by
  unfold X.first at h
  split at h
  · rename_i ho; exact opens_lt ho
  split at h
  · rename_i hq; omega
  split at h
  · rename_i hq; omega
  split at h
  · rename_i hq
    rcases hq with hq | hq
    · omega
    · exact digit_lt hq
  · exact mark_head h

/-- The script with the pad ahead of each lexeme. -/
def padTo (s : List UInt8) : Nat → List X.Lx → List UInt8
  | a, [] => s.drop a
  | a, x :: r => (s.drop a).take (x.place - a) ++ (pad ++ padTo s x.place r)
theorem padTo_split (s : List UInt8) (a b : Nat) (hab : a ≤ b) : ∀ (r : List X.Lx), (∀ x ∈ r.head?, b ≤ x.place) → padTo s a r = (s.drop a).take (b - a) ++ padTo s b r
  | [], _ => by
    show s.drop a = _ ++ s.drop b
    conv => lhs; rw [← List.take_append_drop (b - a) (s.drop a)]
    rw [List.drop_drop, show a + (b - a) = b by omega]
  | x :: r, h => by
    have hx := h x (by simp)
    show (s.drop a).take (x.place - a) ++ _ = _ ++ ((s.drop b).take (x.place - b) ++ _)
    rw [← List.append_assoc ((s.drop a).take (b - a))]
    congr 1
    rw [show x.place - a = (b - a) + (x.place - b) by omega, List.take_add, List.drop_drop, show a + (b - a) = b by omega]
inductive SameL : List X.Lx → List X.Lx → Prop
  | nil : SameL [] []
  | cons (x y : X.Lx) (r q : List X.Lx) (hk : x.kind = y.kind) (ht : x.text = y.text) (hn : x.num = y.num) (hy : y.line = true) (h : SameL r q) : SameL (x :: r) (y :: q)
theorem stands_head {s : List UInt8} {p : Nat} {r : List X.Lx} (h : Stands s p r) : ∀ x ∈ r.head?, p ≤ x.place := by
  cases r with
  | nil => intro x hx; cases hx
  | cons y r => intro x hx; simp at hx; subst hx; exact h.1
/-- What stands behind a lexeme begins with no byte that would go on in it. -/
theorem pad_head (num : List UInt8 → Option Nat) (s : List UInt8) (f q : Nat) (r : List X.Lx) (h : X.lexF num (f + 1) (s.drop q) q = .ok r) :
    stopB (g (padTo s q r ++ tailL) 0) = true ∧ (g (padTo s q r ++ tailL) 0 = 47 → g (s.drop q) 0 = 47) ∧ g (padTo s q r ++ tailL) 0 ≠ 42 := by
  have fin : ∀ b : Nat, stopB b = true → b ≠ 42 := by intro b hb; rintro rfl; exact absurd hb (by decide)
  rw [lexF_step] at h
  split at h
  · cases h
  rename_i hok
  have hok : (X.gap (s.drop q)).2.2 = true := by simpa using hok
  obtain ⟨gn, gl, gk, hG⟩ : ∃ gn gl gk, X.gap (s.drop q) = (gn, gl, gk) := ⟨_, _, _, rfl⟩
  rw [hG] at hok h
  simp only at hok h
  subst hok
  have app : ∀ (a b : List UInt8), 0 < a.length → g (a ++ b) 0 = g a 0 := by
    intro a b ha
    unfold U.g
    rw [List.getD_eq_getElem?_getD, List.getD_eq_getElem?_getD, List.getElem?_append_left ha]
  split at h
  · rename_i hnil
    cases h
    show stopB (g (s.drop q ++ tailL) 0) = true ∧ _
    by_cases hl : 0 < (s.drop q).length
    · have hlen : 0 < gn := by
        have := congrArg List.length hnil
        rw [List.length_drop, List.length_nil] at this
        omega
      have hs := gap_head hG hlen
      refine ⟨by rw [app _ _ hl]; exact hs, fun e => ?_, ?_⟩
      · rw [← app (s.drop q) tailL hl]; exact e
      · show g (s.drop q ++ tailL) 0 ≠ 42
        rw [app _ _ hl]; exact fin _ hs
    · have e : s.drop q = [] := List.eq_nil_of_length_eq_zero (by omega)
      show _ ∧ (g (s.drop q ++ tailL) 0 = 47 → _) ∧ g (s.drop q ++ tailL) 0 ≠ 42
      rw [e]
      exact ⟨by decide, by decide, by decide⟩
  rename_i hne
  cases hf : X.first num ((s.drop q).drop gn) with
  | unknown => rw [hf] at h; cases h
  | no => rw [hf] at h; cases h
  | yes k t v n =>
    rw [hf] at h
    simp only at h
    split at h
    · cases h
      have hpl : 0 < (s.drop q).length := by
        have := List.length_pos_iff.2 hne
        rw [List.length_drop] at this
        omega
      simp only [padTo, Nat.add_sub_cancel_left, List.append_assoc]
      by_cases h0 : gn = 0
      · subst h0
        rw [List.take_zero, List.nil_append]
        exact ⟨rfl, fun e => absurd (show (32 : Nat) = 47 from e) (by decide), fun e => absurd (show (32 : Nat) = 42 from e) (by decide)⟩
      · have hs := gap_head hG (by omega)
        have htl : 0 < ((s.drop q).take gn).length := by rw [List.length_take]; omega
        have e : g ((s.drop q).take gn) 0 = g (s.drop q) 0 := by
          unfold U.g
          rw [List.getD_eq_getElem?_getD, List.getD_eq_getElem?_getD, List.getElem?_take, if_pos (by omega)]
        rw [app _ _ htl, e]
        exact ⟨hs, fun h => h, fin _ hs⟩
    · rename_i o ho; exact (ho _ h).elim
theorem pad_lex (num : List UInt8 → Option Nat) (s : List UInt8) : ∀ (f p : Nat) (r : List X.Lx), (s.drop p).length < f → X.lexF num f (s.drop p) p = .ok r → ∀ (f' p' : Nat), (padTo s p r ++ tailL).length < f' →
    ∃ r2, X.lexF num f' (padTo s p r ++ tailL) p' = .ok r2 ∧ SameL r r2
  | 0, p, r, hl, _, _, _, _ => by omega
  | f + 1, p, r, hl, h, f', p', hf' => by
    obtain ⟨f', rfl⟩ : ∃ j, f' = j + 1 := ⟨f' - 1, by omega⟩
    rw [lexF_step] at h
    split at h
    · cases h
    rename_i hok
    have hok : (X.gap (s.drop p)).2.2 = true := by simpa using hok
    obtain ⟨gn, gl, gk, hG⟩ : ∃ gn gl gk, X.gap (s.drop p) = (gn, gl, gk) := ⟨_, _, _, rfl⟩
    rw [hG] at hok h
    simp only at hok h
    subst hok
    have hG' : X.gapF ((s.drop p).length + 1) (s.drop p) false = (gn, gl, true) := hG
    split at h
    · rename_i hnil
      cases h
      have hgl : gn = (s.drop p).length := by
        have h1 := congrArg List.length hnil
        rw [List.length_drop, List.length_nil] at h1
        rcases gap_inv _ _ _ _ _ (by omega) hG' with ⟨_, _, _, _, h2⟩ | ⟨h2, _⟩ <;> omega
      rw [hgl] at hG
      obtain ⟨b, hb⟩ := gap_tail (s.drop p) gl hG
      refine ⟨[], ?_, .nil⟩
      show X.lexF num (f' + 1) (s.drop p ++ tailL) p' = _
      rw [lexF_step, hb, if_neg (by simp), if_pos (by rw [List.drop_length])]
    rename_i hne
    have hpos : 0 < ((s.drop p).drop gn).length := List.length_pos_iff.2 hne
    cases hf : X.first num ((s.drop p).drop gn) with
    | unknown => rw [hf] at h; cases h
    | no => rw [hf] at h; cases h
    | yes k t v n =>
      rw [hf] at h
      simp only at h
      obtain ⟨hn1, hnl⟩ := first_some hpos hf
      obtain ⟨r', hr', rfl⟩ : ∃ r', X.lexF num f ((s.drop p).drop (gn + n)) (p + gn + n) = .ok r' ∧ (⟨k, t, v, p + gn, gl⟩ : X.Lx) :: r' = r := by
        split at h
        · rename_i r0 hr0; cases h; exact ⟨r0, hr0, rfl⟩
        · rename_i o ho; exact (ho _ h).elim
      rw [List.drop_drop] at hr' hf hpos hnl
      rw [show p + (gn + n) = p + gn + n by omega] at hr'
      have hst := lexF_stands num s f _ r' hr'
      have hgi : ∃ b1, Gap ((s.drop p).take gn) b1 ∧ Stop (s.drop (p + gn)) ∧ gn ≤ (s.drop p).length := by
        rcases gap_inv _ _ _ _ _ (by omega) hG' with ⟨b1, i1, _, i3, i4⟩ | ⟨i0, _⟩
        · exact ⟨b1, i1, by rw [← List.drop_drop]; exact i3, i4⟩
        · exfalso
          rw [List.length_drop] at hpos i0
          omega
      obtain ⟨b1, hgap, hstop, hgle⟩ := hgi
      -- what stands behind the lexeme
      obtain ⟨w, hw⟩ : ∃ w, padTo s (p + gn + n) r' ++ tailL = w := ⟨_, rfl⟩
      have hff : 0 < f := by
        rw [List.length_drop] at hpos hl
        omega
      obtain ⟨f1, rfl⟩ : ∃ j, f = j + 1 := ⟨f - 1, by omega⟩
      obtain ⟨w1, w2, w3⟩ := pad_head num s f1 (p + gn + n) r' hr'
      rw [hw] at w1 w2 w3
      have hz : padTo s (p + gn) r' ++ tailL = (s.drop (p + gn)).take n ++ w := by
        rw [padTo_split s (p + gn) (p + gn + n) (by omega) r' (stands_head hst), List.append_assoc, hw, show p + gn + n - (p + gn) = n by omega]
      have hP : padTo s p (⟨k, t, v, p + gn, gl⟩ :: r') ++ tailL = ((s.drop p).take gn ++ pad) ++ ((s.drop (p + gn)).take n ++ w) := by
        show ((s.drop p).take (p + gn - p) ++ (pad ++ padTo s (p + gn) r')) ++ tailL = _
        rw [List.append_assoc, List.append_assoc, hz, Nat.add_sub_cancel_left, List.append_assoc]
      have hh := first_head hf
      have hzne : s.drop (p + gn) ≠ [] := List.length_pos_iff.1 hpos
      have hdz := U.dec_ascii _ hzne hh
      have hz0 : g ((s.drop (p + gn)).take n ++ w) 0 = g (s.drop (p + gn)) 0 := g_take hnl 0 (by omega)
      have hzne' : (s.drop (p + gn)).take n ++ w ≠ [] := by
        intro e
        have := congrArg List.length e
        rw [List.length_append, List.length_take, List.length_nil] at this
        omega
      have hdz' := U.dec_ascii _ hzne' (by rw [hz0]; exact hh)
      have hstop' : Stop ((s.drop (p + gn)).take n ++ w) := by
        obtain ⟨s1, s2, s3⟩ := hstop
        have two : ∀ b : UInt8, (b = 47 ∨ b = 42) → [47, b].isPrefixOf (s.drop (p + gn)) = false → [47, b].isPrefixOf ((s.drop (p + gn)).take n ++ w) = false := by
          intro b hb hs
          cases hq : [47, b].isPrefixOf ((s.drop (p + gn)).take n ++ w) with
          | false => rfl
          | true =>
            exfalso
            rcases Nat.lt_or_ge 1 n with hn2 | hn2
            · rw [pre2_take 47 b (by omega) hnl w] at hq
              rw [hq] at hs; cases hs
            · obtain rfl : n = 1 := by omega
              obtain ⟨t2, ht2⟩ := pre_head hq
              have e0 : g (s.drop (p + gn)) 0 = 47 := by rw [← hz0, ht2]; rfl
              have e1 : g w 0 = b.toNat := by
                have := g_tail (r := w) hnl
                rw [← this, ht2]; rfl
              rcases hb with rfl | rfl
              · have h2 := w2 e1
                have e2 : g (s.drop (p + gn)) 1 = 47 := by
                  have : g (s.drop (p + gn + 1)) 0 = g (s.drop (p + gn)) 1 := by rw [← List.drop_drop, g_dropO]
                  rw [← this]; exact h2
                have : [47, 47].isPrefixOf (s.drop (p + gn)) = true := by
                  cases hd2 : s.drop (p + gn) with
                  | nil => rw [hd2] at hzne; exact absurd rfl hzne
                  | cons a l1 =>
                    rw [hd2] at e0 e2
                    cases l1 with
                    | nil => exact absurd (show (0 : Nat) = 47 from e2) (by decide)
                    | cons c l1 =>
                      have ea : a = 47 := UInt8.toNat_inj.1 (show a.toNat = 47 from e0)
                      have ec : c = 47 := UInt8.toNat_inj.1 (show c.toNat = 47 from e2)
                      subst ea
                      subst ec
                      rfl
                rw [this] at hs; cases hs
              · exact w3 e1
        refine ⟨two 47 (Or.inl rfl) s1, two 42 (Or.inr rfl) s2, Or.inr ?_⟩
        rw [hdz', hz0]
        rcases s3 with s3 | s3
        · rw [hdz] at s3; cases s3
        · rw [hdz] at s3; exact s3
      have hgap2 := (hgap.append padGap).gap hstop'
      rw [Bool.or_true] at hgap2
      have hfirst := first_take hpos hf w w1
      have hlen : ((s.drop (p + gn)).take n).length = n := by rw [List.length_take]; omega
      rw [hP] at hf' ⊢
      have hwl : w.length < f' := by
        rw [List.length_append, List.length_append, List.length_append, hlen] at hf'
        omega
      obtain ⟨r2, hr2, hsame⟩ := pad_lex num s (f1 + 1) (p + gn + n) r' (by rw [List.length_drop] at hpos hl ⊢; omega) hr' f' (p' + ((s.drop p).take gn ++ pad).length + n) (by rw [hw]; exact hwl)
      rw [hw] at hr2
      refine ⟨⟨k, t, v, p' + ((s.drop p).take gn ++ pad).length, true⟩ :: r2, ?_, .cons _ _ _ _ rfl rfl rfl rfl hsame⟩
      rw [lexF_step, hgap2, if_neg (by simp), List.drop_left, if_neg hzne', hfirst]
      simp only
      rw [← List.drop_drop, List.drop_left, List.drop_append, hlen, Nat.sub_self, List.drop_zero, List.drop_of_length_le (by omega), List.nil_append, hr2]
end Go.Proofs.YtelphbcdjfdjpaaGreatDoor
