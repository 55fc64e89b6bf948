/- Layer 8: the document's Key; which texts are a number's digits. Conditions: those that each theorem names. -/
import Derived.Test.YtmndmnajgfabnaaDoorIe
namespace Go.Proofs.YtmndmnajgfabnaaDoor
open Go.RowKit Go.Maps Go.Shelf
set_option linter.all false

theorem refKey_any (n : Int) (h0 : -9223372036854775808 ≤ n) (h1 : n ≤ 9223372036854775807) (w : World) :
    Calls Tryd.prog 12 #[.int .i64 n] w fun e w' => e = .returned (.string (bs (keyB n))) ∧ Fr [] w w' := by
  have hd := fun W => digits_any n h0 h1 W
  have ho := fun W => of_any (Lib.itoa n) (Nat.le_trans (Lib.itoa_length_le n h0 h1) (by omega)) W
  rw [keyB_of]
  clear h0 h1
  generalize bs (Lib.itoa n) = S1 at *
  generalize bs (ofB (Lib.itoa n)) = S2 at *
  go_enter Tryd.func12, Tryd.ntmps12
  go_wp2_with (first
    | (go_at_call 36; ((with_reducible refine (hd _).mono ?_); rintro e w1 ⟨rfl, hf1⟩; have F1 := Lib.hid hf1; clear hf1))
    | (go_at_call 30; ((with_reducible refine (ho _).mono ?_); rintro e w2 ⟨rfl, hf2⟩; have F2 := Lib.hid (F1.out.trans hf2 (fun _ h => by cases h)); clear hf2))
    | fail)
  go_ret
  exact ⟨rfl, F2.out⟩
/-! Pure: a text of units that are digits, no 0 ahead, is the digits of its number. -/
def Dg (b : UInt8) : Prop := 48 ≤ b.toNat ∧ b.toNat ≤ 57
theorem unit_zero (x y : UInt8) (r : List UInt8) : U.unitAt (x :: y :: r) 0 = x.toNat * 256 + y.toNat := rfl
theorem unit_succ (x y : UInt8) (r : List UInt8) (i : Nat) : U.unitAt (x :: y :: r) (i + 1) = U.unitAt r i := rfl
theorem ofB_cons (a : UInt8) (l : List UInt8) : ofB (a :: l) = 0 :: a :: ofB l := by
  have hlt := a.toNat_lt
  show U.be a.toNat ++ ofB l = _
  unfold U.be
  rw [Nat.div_eq_of_lt (by omega), Nat.mod_eq_of_lt (by omega), UInt8.ofNat_toNat]
  rfl
theorem unit_ofB (l : List UInt8) (i : Nat) (hi : i < l.length) : U.unitAt (ofB l) i = (l[i]).toNat := by
  induction l generalizing i with
  | nil => simp at hi
  | cons a l ih =>
    rw [ofB_cons]
    cases i with
    | zero => rw [unit_zero]; simp
    | succ i => rw [unit_succ, ih i (by simpa using hi)]; rfl
theorem ofB_inj {a b : List UInt8} (h : ofB a = ofB b) : a = b := by
  have hl := congrArg List.length h
  rw [ofB_len, ofB_len] at hl
  refine List.ext_getElem (by omega) fun i h1 h2 => ?_
  have e1 := unit_ofB a i h1
  rw [h, unit_ofB b i h2] at e1
  exact UInt8.toNat_inj.1 e1.symm
theorem ofB_exists : ∀ (c : Nat) (l : List UInt8), l.length = 2 * c → (∀ j, j < c → 48 ≤ U.unitAt l j ∧ U.unitAt l j ≤ 57) → ∃ ds, ds.length = c ∧ l = ofB ds ∧ ∀ b ∈ ds, Dg b
  | 0, l, hl, _ => ⟨[], rfl, List.eq_nil_of_length_eq_zero (by omega), fun b hb => by cases hb⟩
  | c + 1, l, hl, h => by
    rcases l with _ | ⟨x, _ | ⟨y, r⟩⟩
    · simp at hl
    · simp at hl; omega
    · skip
      obtain ⟨ds, h1, h2, h3⟩ := ofB_exists c r (by simp only [List.length_cons] at hl; omega) (fun j hj => h (j + 1) (by omega))
      have h0 := h 0 (by omega)
      rw [unit_zero] at h0
      have hx : x = 0 := UInt8.toNat_inj.1 (by show x.toNat = 0; omega)
      subst hx
      refine ⟨y :: ds, by simp [h1], by rw [ofB_cons, ← h2], fun b hb => ?_⟩
      rcases List.mem_cons.1 hb with rfl | hb
      · have e : (0 : UInt8).toNat = 0 := rfl
        rw [e] at h0
        exact ⟨by omega, by omega⟩
      · exact h3 b hb
def valF : Nat → List UInt8 → Nat
  | n, [] => n
  | n, b :: r => valF (10 * n + (b.toNat - 48)) r
theorem valF_snoc (b : UInt8) : ∀ (l : List UInt8) (n : Nat), valF n (l ++ [b]) = 10 * valF n l + (b.toNat - 48)
  | [], n => rfl
  | a :: l, n => valF_snoc b l _
theorem digs_ofB (ds : List UInt8) (hd : ∀ b ∈ ds, Dg b) : ∀ (k i n : Nat), i + k = ds.length → digs (ofB ds) k i n = some (valF n (ds.drop i))
  | 0, i, n, h => by rw [List.drop_of_length_le (by omega)]; rfl
  | k + 1, i, n, h => by
    have hi : i < ds.length := by omega
    have hu := unit_ofB ds i hi
    have hb := hd ds[i] (List.getElem_mem hi)
    unfold Dg at hb
    rw [digs, hu, if_neg (by omega), digs_ofB ds hd k (i + 1) _ (by omega), List.drop_eq_getElem_cons hi]
    rfl
theorem digs_some (l : List UInt8) : ∀ (k i n m : Nat), digs l k i n = some m → ∀ j, i ≤ j → j < i + k → 48 ≤ U.unitAt l j ∧ U.unitAt l j ≤ 57
  | 0, i, n, m, _, j, h1, h2 => by omega
  | k + 1, i, n, m, h, j, h1, h2 => by
    rw [digs] at h
    split at h
    · cases h
    · rename_i hc
      by_cases hj : j = i
      · subst hj; omega
      · exact digs_some l k (i + 1) _ m h j (by omega) (by omega)
theorem dd_plain (m : Nat) : ∀ b ∈ Lib.decDigits m, Dg b := fun b hb => dec_digit b hb
theorem dd_val (m : Nat) : valF 0 (Lib.decDigits m) = m := by
  induction m using Nat.strongRecOn with
  | _ m ih =>
    by_cases h : m < 10
    · rw [dd_small m h]
      show 10 * 0 + ((UInt8.ofNat (48 + m)).toNat - 48) = m
      rw [UInt8.toNat_ofNat']
      omega
    · rw [dd_big m h, valF_snoc, ih (m / 10) (by omega), UInt8.toNat_ofNat']
      omega
theorem dd_head (m : Nat) (h1 : 1 ≤ m) : ∃ b r, Lib.decDigits m = b :: r ∧ b ≠ 48 := by
  induction m using Nat.strongRecOn with
  | _ m ih =>
    by_cases h : m < 10
    · refine ⟨_, [], dd_small m h, fun e => ?_⟩
      have := congrArg UInt8.toNat e
      rw [UInt8.toNat_ofNat'] at this
      have e48 : (48 : UInt8).toNat = 48 := rfl
      omega
    · obtain ⟨b, r, e, hb⟩ := ih (m / 10) (by omega) (by omega)
      exact ⟨b, r ++ [UInt8.ofNat (48 + m % 10)], by rw [dd_big m h, e]; rfl, hb⟩
theorem dd_back : ∀ (k : Nat) (ds : List UInt8), ds.length = k + 1 → (∀ b ∈ ds, Dg b) → (k = 0 ∨ ds.head? ≠ some 48) → Lib.decDigits (valF 0 ds) = ds
  | 0, ds, hl, hd, _ => by
    match ds, hl with
    | [b], _ => 
      have hb := hd b (by simp)
      unfold Dg at hb
      show Lib.decDigits (10 * 0 + (b.toNat - 48)) = [b]
      rw [dd_small _ (by omega)]
      congr 1
      apply UInt8.toNat_inj.1
      rw [UInt8.toNat_ofNat']
      omega
  | k + 1, ds, hl, hd, hh => by
    obtain ⟨es, b, rfl⟩ : ∃ es b, ds = es ++ [b] := ⟨ds.dropLast, ds.getLast (by intro e; subst e; simp at hl), (List.dropLast_concat_getLast _).symm⟩
    have hel : es.length = k + 1 := by simp at hl; omega
    have hne : es.head? ≠ some 48 := by
      rcases hh with hh | hh
      · omega
      · match es, hel with
        | a :: r, _ => exact hh
    have hb := hd b (by simp)
    unfold Dg at hb
    have ih := dd_back k es hel (fun b hb => hd b (List.mem_append_left _ hb)) (.inr hne)
    rw [valF_snoc]
    have hv : 1 ≤ valF 0 es := by
      rcases Nat.eq_zero_or_pos (valF 0 es) with h0 | h0
      · rw [h0, dd_small 0 (by omega)] at ih
        rw [← ih] at hne
        exact absurd rfl hne
      · exact h0
    rw [dd_big _ (by omega), show (10 * valF 0 es + (b.toNat - 48)) / 10 = valF 0 es by omega, ih]
    congr 2
    apply UInt8.toNat_inj.1
    rw [UInt8.toNat_ofNat']
    omega
theorem nd_le : ∀ (k u : Nat), u < 10 ^ (k + 1) → Lib.nDigits u ≤ k + 1
  | 0, u, h => by rw [Lib.nDigits_small (by simpa using h)]; omega
  | k + 1, u, h => by
    by_cases hu : u < 10
    · rw [Lib.nDigits_small hu]; omega
    · rw [Lib.nDigits_big hu]
      have := nd_le k (u / 10) (by rw [Nat.pow_succ] at h; omega)
      omega
/-- The document's Index. -/
def refI (l : List UInt8) : Int :=
  if l = [] ∨ l.length % 2 = 1 ∨ 20 < l.length then -1 else
  match digs l (l.length / 2) 0 0 with
  | none => -1
  | some n => if 2147483647 < n ∨ keyB n ≠ l then -1 else n
def ansI : Option Nat → Int
  | none => -1
  | some n => n
theorem refI_idx (l : List UInt8) : refI l = ansI (idx l) := by
  unfold refI idx
  by_cases hbad : l.length % 2 = 1 ∨ l.length / 2 = 0 ∨ 10 < l.length / 2
  · rw [if_pos hbad]
    by_cases hb2 : l = [] ∨ l.length % 2 = 1 ∨ 20 < l.length
    · rw [if_pos hb2]; rfl
    · exfalso
      have : l ≠ [] := fun h => hb2 (.inl h)
      have := List.length_pos_iff.2 this
      omega
  · rw [if_neg hbad]
    rw [if_neg (by rintro (rfl | h | h)
                   · simp at hbad
                   · omega
                   · omega)]
    cases hd : digs l (l.length / 2) 0 0 with
    | none => rfl
    | some n =>
      obtain ⟨ds, h1, h2, h3⟩ := ofB_exists (l.length / 2) l (by omega) (fun j hj => digs_some l _ 0 0 n hd j (Nat.zero_le _) (by omega))
      obtain ⟨c, hc⟩ : ∃ c, c = l.length / 2 := ⟨_, rfl⟩
      rw [← hc] at hd h1 hbad ⊢
      have hn : n = valF 0 ds := by
        have := digs_ofB ds h3 c 0 0 (by omega)
        rw [← h2, hd] at this
        exact Option.some.inj this
      have hu0 : U.unitAt l 0 = (ds[0]'(by omega)).toNat := (congrArg (fun x => U.unitAt x 0) h2).trans (unit_ofB ds 0 (by omega))
      have hhd : ds.head? = some (ds[0]'(by omega)) := by
        match ds, h1 with
        | a :: r, _ => rfl
        | [], h1 => simp at h1; omega
      have key : keyB (n : Int) = l ↔ ¬ (U.unitAt l 0 = 48 ∧ 1 < c) := by
        rw [keyB_of, Lib.itoa_nonneg]
        constructor
        · rintro h ⟨hz, h1c⟩
          have he : Lib.decDigits n = ds := ofB_inj (h.trans h2)
          rcases Nat.eq_zero_or_pos n with h0 | h0
          · rw [h0, dd_small 0 (by omega)] at he
            rw [← he] at h1
            simp at h1
            omega
          · obtain ⟨b, r, e, hb⟩ := dd_head n h0
            rw [he] at e
            subst e
            rw [hu0] at hz
            exact hb (UInt8.toNat_inj.1 hz)
        · intro h
          rw [hn, dd_back (c - 1) ds (by omega) h3 (by
            by_cases h1c : 1 < c
            · refine .inr ?_
              rw [hhd]
              intro e
              have e2 := Option.some.inj e
              exact h ⟨by rw [hu0, e2]; rfl, h1c⟩
            · exact .inl (by omega)), ← h2]
      show (if 2147483647 < n ∨ keyB (n : Int) ≠ l then (-1 : Int) else (n : Int)) = ansI (if (U.unitAt l 0 = 48 ∧ 1 < c) ∨ 2147483647 < n then none else some n)
      by_cases hx : U.unitAt l 0 = 48 ∧ 1 < c
      · rw [if_pos (.inr (fun h => key.1 h hx)), if_pos (.inl hx)]; rfl
      · by_cases hy : 2147483647 < n
        · rw [if_pos (.inl hy), if_pos (.inr hy)]; rfl
        · rw [if_neg (fun h => h.elim (fun h => hy h) (fun h => h (key.2 hx))), if_neg (fun h => h.elim (fun h => hx h) (fun h => hy h))]
          rfl
theorem idx_key (n : Int) : idx (keyB n) = if 0 ≤ n ∧ n ≤ 2147483647 then some n.toNat else none := by
  rw [keyB_of]
  by_cases hneg : n < 0
  · rw [if_neg (by omega)]
    have hi : Lib.itoa n = 45 :: Lib.decDigits n.natAbs := by unfold Lib.itoa; rw [if_pos hneg]
    rw [hi]
    unfold idx
    split
    · rfl
    · rename_i hb
      obtain ⟨c, hc⟩ : ∃ c, (ofB (45 :: Lib.decDigits n.natAbs)).length / 2 = c + 1 := ⟨_, (Nat.succ_pred_eq_of_pos (by omega)).symm⟩
      rw [hc, digs, if_pos (.inl (by rw [unit_ofB _ 0 (by simp)]; show (45 : UInt8).toNat < 48; decide))]
  · obtain ⟨u, rfl⟩ : ∃ u : Nat, n = u := ⟨n.toNat, by omega⟩
    rw [Lib.itoa_nonneg, Int.toNat_natCast]
    have hlen : (ofB (Lib.decDigits u)).length / 2 = Lib.nDigits u := by rw [ofB_len, Lib.decDigits_length]; omega
    have hev : (ofB (Lib.decDigits u)).length % 2 = 0 := by rw [ofB_len]; omega
    have hpos := Lib.nDigits_pos u
    have hdl := Lib.decDigits_length u
    unfold idx
    rw [hlen, hev]
    by_cases h10 : 10 < Lib.nDigits u
    · rw [if_pos (.inr (.inr h10)), if_neg]
      intro h
      have := nd_le 9 u (by have : (10 : Nat) ^ 10 = 10000000000 := by decide
                            show u < 10 ^ 10
                            omega)
      omega
    · rw [if_neg (by omega), digs_ofB _ (dd_plain u) (Lib.nDigits u) 0 0 (by omega)]
      show (if (U.unitAt (ofB (Lib.decDigits u)) 0 = 48 ∧ 1 < Lib.nDigits u) ∨ 2147483647 < valF 0 (Lib.decDigits u) then none else some (valF 0 (Lib.decDigits u))) = _
      rw [dd_val]
      have hx : ¬ (U.unitAt (ofB (Lib.decDigits u)) 0 = 48 ∧ 1 < Lib.nDigits u) := by
        rintro ⟨h1, h2⟩
        rw [unit_ofB _ 0 (by omega)] at h1
        rcases Nat.eq_zero_or_pos u with h0 | h0
        · subst h0
          rw [Lib.nDigits_small (by omega)] at h2
          omega
        · obtain ⟨b, r, e, hb⟩ := dd_head u h0
          have : (Lib.decDigits u)[0]'(by omega) = b := by simp [e]
          rw [this] at h1
          exact hb (UInt8.toNat_inj.1 h1)
      by_cases hy : 2147483647 < u
      · rw [if_pos (.inr hy), if_neg (by omega)]
      · rw [if_neg (fun h => h.elim (fun h => hx h) (fun h => hy h)), if_pos (by omega)]
end Go.Proofs.YtmndmnajgfabnaaDoor
