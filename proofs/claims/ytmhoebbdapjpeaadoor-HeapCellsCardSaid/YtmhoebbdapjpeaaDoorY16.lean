/- Layer 8: the document's Key; which texts are a number's digits. Conditions: those that each theorem names. Layer 8: Put at a heap with blocks beside it; the facts of the statement HeapArrays. Conditions: those that each theorem names. Layer 8: the statement HeapArrays. Conditions: the tables that Key reads. The statement HeapArrays at arguments as they come in. Conditions: the tables that Key reads. -/
import Derived.Test.YtmhoebbdapjpeaaDoorY15
import Derived.Test.YtmhoebbdapjpeaaDoorY11
namespace Go.Proofs.YtmhoebbdapjpeaaDoor
open Go.RowKit Go.Maps Go.Shelf
set_option linter.all false

theorem refKey_any (n : Int) (h0 : -9223372036854775808 ≤ n) (h1 : n ≤ 9223372036854775807) (w : World) :
    Calls Tryd.prog 12 #[.int .i64 n] w fun e w' => e = .returned (.string (bs (keyB n))) ∧ Fr [] w w' := by
  have hd := fun W => digits_any n h0 h1 W
  have ho := fun W => of_any (Lib.itoa n) (Nat.le_trans (Lib.itoa_length_le n h0 h1) (by omega)) W
  rw [keyB_of]
  clear h0 h1
  generalize bs (Lib.itoa n) = S1 at *
  generalize bs (ofB (Lib.itoa n)) = S2 at *
  go_enter Tryd.func12, Tryd.ntmps12
  go_wp2_with (first
    | (go_at_call 36; ((with_reducible refine (hd _).mono ?_); rintro e w1 ⟨rfl, hf1⟩; have F1 := Lib.hid hf1; clear hf1))
    | (go_at_call 30; ((with_reducible refine (ho _).mono ?_); rintro e w2 ⟨rfl, hf2⟩; have F2 := Lib.hid (F1.out.trans hf2 (fun _ h => by cases h)); clear hf2))
    | fail)
  go_ret
  exact ⟨rfl, F2.out⟩
/-! Pure: a text of units that are digits, no 0 ahead, is the digits of its number. -/
def Dg (b : UInt8) : Prop := 48 ≤ b.toNat ∧ b.toNat ≤ 57
theorem unit_zero (x y : UInt8) (r : List UInt8) : U.unitAt (x :: y :: r) 0 = x.toNat * 256 + y.toNat := rfl
theorem unit_succ (x y : UInt8) (r : List UInt8) (i : Nat) : U.unitAt (x :: y :: r) (i + 1) = U.unitAt r i := rfl
theorem ofB_cons (a : UInt8) (l : List UInt8) : ofB (a :: l) = 0 :: a :: ofB l := by
  have hlt := a.toNat_lt
  show U.be a.toNat ++ ofB l = _
  unfold U.be
  rw [Nat.div_eq_of_lt (by omega), Nat.mod_eq_of_lt (by omega), UInt8.ofNat_toNat]
  rfl
theorem unit_ofB (l : List UInt8) (i : Nat) (hi : i < l.length) : U.unitAt (ofB l) i = (l[i]).toNat := by
  induction l generalizing i with
  | nil => simp at hi
  | cons a l ih =>
    rw [ofB_cons]
    cases i with
    | zero => rw [unit_zero]; simp
    | succ i => rw [unit_succ, ih i (by simpa using hi)]; rfl
theorem ofB_inj {a b : List UInt8} (h : ofB a = ofB b) : a = b := by
  have hl := congrArg List.length h
  rw [ofB_len, ofB_len] at hl
  refine List.ext_getElem (by omega) fun i h1 h2 => ?_
  have e1 := unit_ofB a i h1
  rw [h, unit_ofB b i h2] at e1
  exact UInt8.toNat_inj.1 e1.symm
theorem ofB_exists : ∀ (c : Nat) (l : List UInt8), l.length = 2 * c → (∀ j, j < c → 48 ≤ U.unitAt l j ∧ U.unitAt l j ≤ 57) → ∃ ds, ds.length = c ∧ l = ofB ds ∧ ∀ b ∈ ds, Dg b
  | 0, l, hl, _ => ⟨[], rfl, List.eq_nil_of_length_eq_zero (by omega), fun b hb => by cases hb⟩
  | c + 1, l, hl, h => by
    rcases l with _ | ⟨x, _ | ⟨y, r⟩⟩
    · simp at hl
    · simp at hl; omega
    · skip
      obtain ⟨ds, h1, h2, h3⟩ := ofB_exists c r (by simp only [List.length_cons] at hl; omega) (fun j hj => h (j + 1) (by omega))
      have h0 := h 0 (by omega)
      rw [unit_zero] at h0
      have hx : x = 0 := UInt8.toNat_inj.1 (by show x.toNat = 0; omega)
      subst hx
      refine ⟨y :: ds, by simp [h1], by rw [ofB_cons, ← h2], fun b hb => ?_⟩
      rcases List.mem_cons.1 hb with rfl | hb
      · have e : (0 : UInt8).toNat = 0 := rfl
        rw [e] at h0
        exact ⟨by omega, by omega⟩
      · exact h3 b hb
def valF : Nat → List UInt8 → Nat
  | n, [] => n
  | n, b :: r => valF (10 * n + (b.toNat - 48)) r
theorem valF_snoc (b : UInt8) : ∀ (l : List UInt8) (n : Nat), valF n (l ++ [b]) = 10 * valF n l + (b.toNat - 48)
  | [], n => rfl
  | a :: l, n => valF_snoc b l _
theorem digs_ofB (ds : List UInt8) (hd : ∀ b ∈ ds, Dg b) : ∀ (k i n : Nat), i + k = ds.length → digs (ofB ds) k i n = some (valF n (ds.drop i))
  | 0, i, n, h => by rw [List.drop_of_length_le (by omega)]; rfl
  | k + 1, i, n, h => by
    have hi : i < ds.length := by omega
    have hu := unit_ofB ds i hi
    have hb := hd ds[i] (List.getElem_mem hi)
    unfold Dg at hb
    rw [digs, hu, if_neg (by omega), digs_ofB ds hd k (i + 1) _ (by omega), List.drop_eq_getElem_cons hi]
    rfl
theorem digs_some (l : List UInt8) : ∀ (k i n m : Nat), digs l k i n = some m → ∀ j, i ≤ j → j < i + k → 48 ≤ U.unitAt l j ∧ U.unitAt l j ≤ 57
  | 0, i, n, m, _, j, h1, h2 => by omega
  | k + 1, i, n, m, h, j, h1, h2 => by
    rw [digs] at h
    split at h
    · cases h
    · rename_i hc
      by_cases hj : j = i
      · subst hj; omega
      · exact digs_some l k (i + 1) _ m h j (by omega) (by omega)
theorem dd_plain (m : Nat) : ∀ b ∈ Lib.decDigits m, Dg b := fun b hb => dec_digit b hb
theorem dd_val (m : Nat) : valF 0 (Lib.decDigits m) = m := by
  induction m using Nat.strongRecOn with
  | _ m ih =>
    by_cases h : m < 10
    · rw [dd_small m h]
      show 10 * 0 + ((UInt8.ofNat (48 + m)).toNat - 48) = m
      rw [UInt8.toNat_ofNat']
      omega
    · rw [dd_big m h, valF_snoc, ih (m / 10) (by omega), UInt8.toNat_ofNat']
      omega
theorem dd_head (m : Nat) (h1 : 1 ≤ m) : ∃ b r, Lib.decDigits m = b :: r ∧ b ≠ 48 := by
  induction m using Nat.strongRecOn with
  | _ m ih =>
    by_cases h : m < 10
    · refine ⟨_, [], dd_small m h, fun e => ?_⟩
      have := congrArg UInt8.toNat e
      rw [UInt8.toNat_ofNat'] at this
      have e48 : (48 : UInt8).toNat = 48 := rfl
      omega
    · obtain ⟨b, r, e, hb⟩ := ih (m / 10) (by omega) (by omega)
      exact ⟨b, r ++ [UInt8.ofNat (48 + m % 10)], by rw [dd_big m h, e]; rfl, hb⟩
theorem dd_back : ∀ (k : Nat) (ds : List UInt8), ds.length = k + 1 → (∀ b ∈ ds, Dg b) → (k = 0 ∨ ds.head? ≠ some 48) → Lib.decDigits (valF 0 ds) = ds
  | 0, ds, hl, hd, _ => by
    match ds, hl with
    | [b], _ => 
      have hb := hd b (by simp)
      unfold Dg at hb
      show Lib.decDigits (10 * 0 + (b.toNat - 48)) = [b]
      rw [dd_small _ (by omega)]
      congr 1
      apply UInt8.toNat_inj.1
      rw [UInt8.toNat_ofNat']
      omega
  | k + 1, ds, hl, hd, hh => by
    obtain ⟨es, b, rfl⟩ : ∃ es b, ds = es ++ [b] := ⟨ds.dropLast, ds.getLast (by intro e; subst e; simp at hl), (List.dropLast_concat_getLast _).symm⟩
    have hel : es.length = k + 1 := by simp at hl; omega
    have hne : es.head? ≠ some 48 := by
      rcases hh with hh | hh
      · omega
      · match es, hel with
        | a :: r, _ => exact hh
    have hb := hd b (by simp)
    unfold Dg at hb
    have ih := dd_back k es hel (fun b hb => hd b (List.mem_append_left _ hb)) (.inr hne)
    rw [valF_snoc]
    have hv : 1 ≤ valF 0 es := by
      rcases Nat.eq_zero_or_pos (valF 0 es) with h0 | h0
      · rw [h0, dd_small 0 (by omega)] at ih
        rw [← ih] at hne
        exact absurd rfl hne
      · exact h0
    rw [dd_big _ (by omega), show (10 * valF 0 es + (b.toNat - 48)) / 10 = valF 0 es by omega, ih]
    congr 2
    apply UInt8.toNat_inj.1
    rw [UInt8.toNat_ofNat']
    omega
theorem nd_le : ∀ (k u : Nat), u < 10 ^ (k + 1) → Lib.nDigits u ≤ k + 1
  | 0, u, h => by rw [Lib.nDigits_small (by simpa using h)]; omega
  | k + 1, u, h => by
    by_cases hu : u < 10
    · rw [Lib.nDigits_small hu]; omega
    · rw [Lib.nDigits_big hu]
      have := nd_le k (u / 10) (by rw [Nat.pow_succ] at h; omega)
      omega
/-- The document's Index. -/
def refI (l : List UInt8) : Int :=
  if l = [] ∨ l.length % 2 = 1 ∨ 20 < l.length then -1 else
  match digs l (l.length / 2) 0 0 with
  | none => -1
  | some n => if 2147483647 < n ∨ keyB n ≠ l then -1 else n
def ansI : Option Nat → Int
  | none => -1
  | some n => n
theorem refI_idx (l : List UInt8) : refI l = ansI (idx l) := by
  unfold refI idx
  by_cases hbad : l.length % 2 = 1 ∨ l.length / 2 = 0 ∨ 10 < l.length / 2
  · rw [if_pos hbad]
    by_cases hb2 : l = [] ∨ l.length % 2 = 1 ∨ 20 < l.length
    · rw [if_pos hb2]; rfl
    · exfalso
      have : l ≠ [] := fun h => hb2 (.inl h)
      have := List.length_pos_iff.2 this
      omega
  · rw [if_neg hbad]
    rw [if_neg (by rintro (rfl | h | h)
                   · simp at hbad
                   · omega
                   · omega)]
    cases hd : digs l (l.length / 2) 0 0 with
    | none => rfl
    | some n =>
      obtain ⟨ds, h1, h2, h3⟩ := ofB_exists (l.length / 2) l (by omega) (fun j hj => digs_some l _ 0 0 n hd j (Nat.zero_le _) (by omega))
      obtain ⟨c, hc⟩ : ∃ c, c = l.length / 2 := ⟨_, rfl⟩
      rw [← hc] at hd h1 hbad ⊢
      have hn : n = valF 0 ds := by
        have := digs_ofB ds h3 c 0 0 (by omega)
        rw [← h2, hd] at this
        exact Option.some.inj this
      have hu0 : U.unitAt l 0 = (ds[0]'(by omega)).toNat := (congrArg (fun x => U.unitAt x 0) h2).trans (unit_ofB ds 0 (by omega))
      have hhd : ds.head? = some (ds[0]'(by omega)) := by
        match ds, h1 with
        | a :: r, _ => rfl
        | [], h1 => simp at h1; omega
      have key : keyB (n : Int) = l ↔ ¬ (U.unitAt l 0 = 48 ∧ 1 < c) := by
        rw [keyB_of, Lib.itoa_nonneg]
        constructor
        · rintro h ⟨hz, h1c⟩
          have he : Lib.decDigits n = ds := ofB_inj (h.trans h2)
          rcases Nat.eq_zero_or_pos n with h0 | h0
          · rw [h0, dd_small 0 (by omega)] at he
            rw [← he] at h1
            simp at h1
            omega
          · obtain ⟨b, r, e, hb⟩ := dd_head n h0
            rw [he] at e
            subst e
            rw [hu0] at hz
            exact hb (UInt8.toNat_inj.1 hz)
        · intro h
          rw [hn, dd_back (c - 1) ds (by omega) h3 (by
            by_cases h1c : 1 < c
            · refine .inr ?_
              rw [hhd]
              intro e
              have e2 := Option.some.inj e
              exact h ⟨by rw [hu0, e2]; rfl, h1c⟩
            · exact .inl (by omega)), ← h2]
      show (if 2147483647 < n ∨ keyB (n : Int) ≠ l then (-1 : Int) else (n : Int)) = ansI (if (U.unitAt l 0 = 48 ∧ 1 < c) ∨ 2147483647 < n then none else some n)
      by_cases hx : U.unitAt l 0 = 48 ∧ 1 < c
      · rw [if_pos (.inr (fun h => key.1 h hx)), if_pos (.inl hx)]; rfl
      · by_cases hy : 2147483647 < n
        · rw [if_pos (.inl hy), if_pos (.inr hy)]; rfl
        · rw [if_neg (fun h => h.elim (fun h => hy h) (fun h => h (key.2 hx))), if_neg (fun h => h.elim (fun h => hx h) (fun h => hy h))]
          rfl
theorem idx_key (n : Int) : idx (keyB n) = if 0 ≤ n ∧ n ≤ 2147483647 then some n.toNat else none := by
  rw [keyB_of]
  by_cases hneg : n < 0
  · rw [if_neg (by omega)]
    have hi : Lib.itoa n = 45 :: Lib.decDigits n.natAbs := by unfold Lib.itoa; rw [if_pos hneg]
    rw [hi]
    unfold idx
    split
    · rfl
    · rename_i hb
      obtain ⟨c, hc⟩ : ∃ c, (ofB (45 :: Lib.decDigits n.natAbs)).length / 2 = c + 1 := ⟨_, (Nat.succ_pred_eq_of_pos (by omega)).symm⟩
      rw [hc, digs, if_pos (.inl (by rw [unit_ofB _ 0 (by simp)]; show (45 : UInt8).toNat < 48; decide))]
  · obtain ⟨u, rfl⟩ : ∃ u : Nat, n = u := ⟨n.toNat, by omega⟩
    rw [Lib.itoa_nonneg, Int.toNat_natCast]
    have hlen : (ofB (Lib.decDigits u)).length / 2 = Lib.nDigits u := by rw [ofB_len, Lib.decDigits_length]; omega
    have hev : (ofB (Lib.decDigits u)).length % 2 = 0 := by rw [ofB_len]; omega
    have hpos := Lib.nDigits_pos u
    have hdl := Lib.decDigits_length u
    unfold idx
    rw [hlen, hev]
    by_cases h10 : 10 < Lib.nDigits u
    · rw [if_pos (.inr (.inr h10)), if_neg]
      intro h
      have := nd_le 9 u (by have : (10 : Nat) ^ 10 = 10000000000 := by decide
                            show u < 10 ^ 10
                            omega)
      omega
    · rw [if_neg (by omega), digs_ofB _ (dd_plain u) (Lib.nDigits u) 0 0 (by omega)]
      show (if (U.unitAt (ofB (Lib.decDigits u)) 0 = 48 ∧ 1 < Lib.nDigits u) ∨ 2147483647 < valF 0 (Lib.decDigits u) then none else some (valF 0 (Lib.decDigits u))) = _
      rw [dd_val]
      have hx : ¬ (U.unitAt (ofB (Lib.decDigits u)) 0 = 48 ∧ 1 < Lib.nDigits u) := by
        rintro ⟨h1, h2⟩
        rw [unit_ofB _ 0 (by omega)] at h1
        rcases Nat.eq_zero_or_pos u with h0 | h0
        · subst h0
          rw [Lib.nDigits_small (by omega)] at h2
          omega
        · obtain ⟨b, r, e, hb⟩ := dd_head u h0
          have : (Lib.decDigits u)[0]'(by omega) = b := by simp [e]
          rw [this] at h1
          exact hb (UInt8.toNat_inj.1 h1)
      by_cases hy : 2147483647 < u
      · rw [if_pos (.inr hy), if_neg (by omega)]
      · rw [if_neg (fun h => h.elim (fun h => hx h) (fun h => hy h)), if_pos (by omega)]
end Go.Proofs.YtmhoebbdapjpeaaDoor
namespace Go.Proofs.YtmhoebbdapjpeaaDoor
open Go.RowKit Go.Maps
set_option linter.all false

theorem put_all_h {N h : Nat} {A : Hp} {L : List Nat} {w0 w : World} (H : Hv N h A L w0 w) (i : Int) (k : List UInt8) (hk : k.length ≤ 140737488355328) (vk : Int) (vn : Nat) (vt : List UInt8) (ht : vt.length ≤ maxLen) (vr : Int) (hF' : (A.put i k ⟨vk, vn, vt, vr⟩).2.Few) :
    Calls Tryd.prog 18 #[.pointer (some ⟨h, 0, none⟩), .int .i64 i, .string (bs k), .agg #[.int .i64 vk, .float .f64 vn, .string (bs vt), .int .i64 vr]] w fun e w' =>
      e = .returned (.int .i64 (A.put i k ⟨vk, vn, vt, vr⟩).1) ∧ Nx N h (A.put i k ⟨vk, vn, vt, vr⟩).2 L w0 w w' := by
  obtain ⟨sv, gs, hG, hF, h1, h2, h3, h4⟩ := H
  refine (put_all h A sv gs i k hk vk vn vt ht vr w hG hF).mono ?_
  rintro e w' ⟨rfl, hS⟩
  exact ⟨rfl, Hv.step hF' h1 h2 h3 h4 hS⟩
/-- A heap without objects. -/
theorem hv_empty {N h : Nat} {w0 w : World} (left : Nat) (hl : left ≤ 10000) (L : List Nat) (hh : HpC h (.slice none 0 0) (left : Int) w) (hN : N ≤ h) (hL : ∀ M ∈ L, M < w.heap.size ∧ M ≠ h) (hb : Below N w0 w) (hs : N ≤ w.heap.size) : Hv N h ⟨[], left⟩ L w0 w := by
  have hlt := hh.lt
  refine ⟨.slice none 0 0, [], ⟨hh, World.ownsRow_nil _ _ _ _, rfl, fun i o g ho => by simp at ho, ?_, ?_⟩, ⟨hl, Nat.zero_le _, fun i o ho => by simp at ho, fun i o ho => by simp at ho, fun i o ho => by simp at ho⟩, ?_, ?_, hb, hs⟩
  · simp [allBlocks, Value.ownBlock]
  · intro b hb; simp [allBlocks, Value.ownBlock] at hb; omega
  · intro b hb; simp [allBlocks, Value.ownBlock] at hb; omega
  · intro M hM
    refine ⟨(hL M hM).1, ?_⟩
    have := (hL M hM).2
    simp [allBlocks, Value.ownBlock]
    exact this
theorem few_arr (l : List V) (left : Nat) (h1 : left ≤ 10000) (h2 : l.length ≤ 10000) : Hp.Few ⟨[arrO l], left⟩ := by
  have one : ∀ (i : Nat) (o : Ob), [arrO l][i]? = some o → o = arrO l := by
    intro i o h
    cases i with
    | zero => simpa using h.symm
    | succ i => simp at h
  refine ⟨h1, by show 1 ≤ 10000; omega, fun i o ho => ?_, fun i o ho => ?_, fun i o ho => ?_⟩
  · rw [one i o ho]; exact h2
  · rw [one i o ho]; exact Nat.zero_le _
  · rw [one i o ho]; exact Or.inl rfl
/-- Numbers from 0 on. -/
def nums (n : Nat) : List V := (List.range n).map fun i => nv (FloatKind.f64.nearest ((i : Nat) : Int))
theorem nums_len (n : Nat) : (nums n).length = n := by simp [nums]
theorem nums_succ (n : Nat) : nums (n + 1) = nums n ++ [nv (FloatKind.f64.nearest ((n : Nat) : Int))] := by simp [nums, List.range_succ]
theorem nums_at (n i : Nat) (h : i < n) : (nums n)[i]? = some (nv (FloatKind.f64.nearest ((i : Nat) : Int))) := by simp [nums, h]
theorem nums_text (n : Nat) : ∀ u ∈ nums n, u.t.length ≤ maxLen := by
  intro u hu
  unfold nums at hu
  rw [List.mem_map] at hu
  obtain ⟨i, _, rfl⟩ := hu
  exact Nat.zero_le _
theorem cells_snoc (l : List V) (v : V) : itemCells (l ++ [v]) = itemCells l ++ v.cells := by unfold itemCells; rw [List.flatMap_append]; simp
def items1 (n : Nat) : List V := nums n ++ [V.zero, V.zero, nv 13830554455654793216]
theorem items1_len (n : Nat) : (items1 n).length = n + 3 := by unfold items1; rw [List.length_append, nums_len]; rfl
theorem items1_at1 (n : Nat) : (items1 n)[n + 1]? = some V.zero := by unfold items1; rw [List.getElem?_append_right (by rw [nums_len]; omega), nums_len, show n + 1 - n = 1 by omega]; rfl
theorem items1_at2 (n : Nat) : (items1 n)[n + 2]? = some (nv 13830554455654793216) := by unfold items1; rw [List.getElem?_append_right (by rw [nums_len]; omega), nums_len, show n + 2 - n = 2 by omega]; rfl
def heap0 : Hp := ⟨[], 10000⟩
def heap1 (n : Nat) : Hp := ⟨[arrO (nums n)], 10000 - n - 1⟩
def heap2 (n : Nat) : Hp := ⟨[arrO (items1 n)], 10000 - n - 1 - 3⟩
def heap3 (n c : Nat) : Hp := ⟨[arrO (lenItems (items1 n) c)], 10000 - n - 1 - 3 + (n + 3) - c⟩
theorem lenItems_len (l : List V) (m : Nat) : (lenItems l m).length = m := by
  unfold lenItems
  split
  · rw [List.length_take]; omega
  · rw [List.length_append, List.length_replicate]; omega
theorem arr_step (n : Nat) (hn : n < 256) : heap0.array (nums n) = ((0, 0), heap1 n) := by
  unfold Hp.array
  rw [if_pos, if_neg]
  · rw [nums_len]; rfl
  · rw [nums_len]; show ¬ 10000 ≤ n; omega
  · rw [List.all_eq_true]
    intro u hu
    unfold nums at hu
    rw [List.mem_map] at hu
    obtain ⟨i, _, rfl⟩ := hu
    exact rightV_num _ _
theorem key_ne (m : Nat) (hm : m ≤ 2147483647) : keyB (m : Int) ≠ lenB := by
  intro e
  have h1 := idx_key (m : Int)
  rw [e, idx_len, if_pos ⟨by omega, by omega⟩] at h1
  cases h1
theorem put_new_eq {A : Hp} {i : Nat} {o : Ob} {k : List UInt8} {v : V} {j : Nat} (ho : A.objs[i]? = some o) (hv : rightV A.objs.length v = true) (hkl : ¬ (o.kind = 2 ∧ k = lenB)) (hki : oIdx o.kind k = some j) (hj : o.items.length ≤ j) (hr : j - o.items.length < A.left) :
    A.put (i : Int) k v = (0, ⟨A.objs.set i { o with items := putI o.items j v }, A.left - (j + 1 - o.items.length)⟩) := by
  unfold Hp.put
  rw [if_pos (Int.natCast_nonneg i), Int.toNat_natCast, ho]
  simp only
  rw [if_pos hv, if_neg hkl, hki]
  simp only
  rw [if_neg (by omega), if_neg (by omega)]
theorem put_len_eq {A : Hp} {i : Nat} {o : Ob} {v : V} {m : Nat} (ho : A.objs[i]? = some o) (hv : rightV A.objs.length v = true) (hk : o.kind = 2) (h3 : v.k = 3) (hl : lenF v.n = some m) (hr : m ≤ A.left + o.items.length) :
    A.put (i : Int) lenB v = (0, ⟨A.objs.set i { o with items := lenItems o.items m }, A.left + o.items.length - m⟩) := by
  unfold Hp.put
  rw [if_pos (Int.natCast_nonneg i), Int.toNat_natCast, ho]
  simp only
  rw [if_pos hv, if_pos ⟨hk, trivial⟩, if_pos h3, hl]
  simp only
  rw [if_neg (by omega)]
theorem put_step (n : Nat) (hn : n < 256) : (heap1 n).put 0 (keyB ((n + 2 : Nat) : Int)) (nv 13830554455654793216) = (0, heap2 n) := by
  have h1 := idx_key ((n + 2 : Nat) : Int)
  rw [if_pos ⟨by omega, by omega⟩, Int.toNat_natCast] at h1
  have h2 : oIdx (arrO (nums n)).kind (keyB ((n + 2 : Nat) : Int)) = some (n + 2) := by show oIdx 2 _ = _; unfold oIdx; rw [if_pos rfl, h1]
  have hl : (arrO (nums n)).items.length = n := nums_len n
  have := put_new_eq (A := heap1 n) (i := 0) (o := arrO (nums n)) (v := nv 13830554455654793216) rfl (rightV_num _ _) (fun h => key_ne (n + 2) (by omega) h.2) h2 (by rw [hl]; omega) (by rw [hl]; show n + 2 - n < 10000 - n - 1; omega)
  have hp : putI (arrO (nums n)).items (n + 2) (nv 13830554455654793216) = items1 n := by
    unfold putI
    rw [hl, if_neg (by omega), show n + 2 + 1 - n = 3 by omega]
    show (nums n ++ [V.zero, V.zero, V.zero]).set (n + 2) (nv 13830554455654793216) = _
    rw [List.set_append_right _ _ (by rw [nums_len]; omega), nums_len, show n + 2 - n = 2 by omega]
    rfl
  rw [hp, hl, show n + 2 + 1 - n = 3 by omega] at this
  exact this
theorem lenF_all : ((List.range 256).all fun i => decide (lenF (FloatKind.f64.nearest ((i : Nat) : Int)) = some i) && (FloatKind.f64.format.order (FloatKind.f64.nearest ((i : Nat) : Int)) (FloatKind.f64.nearest ((i : Nat) : Int)) == some Ordering.eq)) = true := by kernel_rfl
theorem lenF_small (i : Nat) (h : i < 256) : lenF (FloatKind.f64.nearest ((i : Nat) : Int)) = some i ∧ (FloatKind.f64.format.order (FloatKind.f64.nearest ((i : Nat) : Int)) (FloatKind.f64.nearest ((i : Nat) : Int)) == some Ordering.eq) = true := by
  have := List.all_eq_true.1 lenF_all i (List.mem_range.2 h)
  simp only [Bool.and_eq_true, decide_eq_true_eq] at this
  exact this
theorem len_step (n c : Nat) (hn : n < 256) (hc : c < 256) : (heap2 n).put 0 lenB (nv (FloatKind.f64.nearest ((c : Nat) : Int))) = (0, heap3 n c) := by
  have hl : (arrO (items1 n)).items.length = n + 3 := items1_len n
  have := put_len_eq (A := heap2 n) (i := 0) (o := arrO (items1 n)) (v := nv (FloatKind.f64.nearest ((c : Nat) : Int))) rfl (rightV_num _ _) rfl rfl (lenF_small c hc).1 (by rw [hl]; show c ≤ 10000 - n - 1 - 3 + (n + 3); omega)
  rw [hl] at this
  exact this
theorem own_gone (n c : Nat) (hc : c < 256) : (heap3 n c).own 0 (keyB (c : Int)) = none := by
  unfold Hp.own
  rw [if_pos (by decide)]
  have ho : (heap3 n c).objs[(0 : Int).toNat]? = some (arrO (lenItems (items1 n) c)) := rfl
  rw [ho]
  simp only
  unfold Ob.own
  rw [if_neg (fun h => key_ne c (by omega) h.2)]
  have h1 := idx_key (c : Int)
  rw [if_pos ⟨by omega, by omega⟩, Int.toNat_natCast] at h1
  have h2 : oIdx (arrO (lenItems (items1 n) c)).kind (keyB (c : Int)) = some c := by
    show oIdx 2 _ = _
    unfold oIdx
    rw [if_pos rfl, h1]
  rw [h2]
  show (lenItems (items1 n) c)[c]? = none
  rw [List.getElem?_eq_none (by rw [lenItems_len]; exact Nat.le_refl _)]
theorem items3_at (n c i : Nat) (hi : i < n) (hc : i < c) : (lenItems (items1 n) c)[i]? = some (nv (FloatKind.f64.nearest ((i : Nat) : Int))) := by
  have h0 : (items1 n)[i]? = some (nv (FloatKind.f64.nearest ((i : Nat) : Int))) := by
    unfold items1
    rw [List.getElem?_append_left (by rw [nums_len]; exact hi)]
    exact nums_at n i hi
  unfold lenItems
  split
  · rw [List.getElem?_take, if_pos hc]; exact h0
  · rw [List.getElem?_append_left (by rw [items1_len]; omega)]; exact h0
end Go.Proofs.YtmhoebbdapjpeaaDoor
namespace Go.Proofs.YtmhoebbdapjpeaaDoor
open Go.RowKit Go.Maps
set_option linter.all false

/-- An append of one value to a row of the call's own. -/
theorem append_val (w : World) (lv : Value) (k : Nat) (l : List V) (v : V) (hk : l.length = k) (hk2 : k ≤ 100000) (hr : w.ownsRow 0 31 4 lv k (itemCells l)) (b : Nat) (hb : w.heap[b]? = some (.cells #[.int .i64 v.k, .float .f64 v.n, .string (bs v.t), .int .i64 v.r] 31 (0, 0))) :
    ∃ p c w', (Builtin.append_ #[35, 35] 35 #[lv, .slice (some ⟨b, 0, none⟩) 1 1]).run Tryd.prog w = .ok (.slice p (k + 1) c) w' ∧ w'.ownsRow 0 31 4 (.slice p (k + 1) c) (k + 1) (itemCells (l ++ [v])) ∧ Fr lv.ownBlock.toList w w' ∧ (∀ g, (Value.slice p (k + 1) c).ownBlock = some g → lv.ownBlock = some g ∨ w.heap.size ≤ g) := by
  obtain ⟨i0, hi0, hz0, hz1, hz2⟩ := info_parts infoVal
  obtain ⟨v', w', hrun, hrow, hgr, hfr⟩ := append_own2 (P := Tryd.prog) w 35 35 31 i0 _ 4 40 Tryd.underlying35 hi0 hz0 hz1 hz2 rfl (by decide) lv k (itemCells l) hr ⟨b, 0, none⟩ 1 1 v.cells rfl
    (by
      intro j u hj
      rw [add_plain2, Nat.zero_add]
      refine blk_cell hb j u ?_
      rw [← Array.getElem?_toList]
      exact hj)
    (by intro u hu; simp [V.cells] at hu; rcases hu with rfl | rfl | rfl | rfl <;> rfl) (by unfold maxLen; omega) (by omega)
  obtain ⟨p, c, hv⟩ := row_slice hrow
  subst hv
  refine ⟨p, c, w', hrun, ?_, Fr.grown hgr, hfr⟩
  rw [cells_snoc]
  exact hrow
structure ArrLoop (N h : Nat) (w0 : World) (k : Nat) (lv : Value) (wr : World) : Prop where
  row : wr.ownsRow 0 31 4 lv k (itemCells (nums k))
  hp : HpC h (.slice none 0 0) 10000 wr
  ne : ∀ b ∈ lv.ownBlock.toList, b ≠ h ∧ N ≤ b
  below : Below N w0 wr
  hN : N ≤ h
theorem ArrLoop.fr {N h : Nat} {w0 : World} {k : Nat} {lv : Value} {w w' : World} (H : ArrLoop N h w0 k lv w) (hf : Fr [] w w') (hs : N ≤ w.heap.size) : ArrLoop N h w0 k lv w' :=
  ⟨row_keep H.row (fun b hb => hf.block b ((H.row.lt b (by rwa [Option.mem_toList] at hb)).2) List.not_mem_nil), (hf.block h H.hp.lt List.not_mem_nil).trans H.hp, H.ne, H.below.trans (hf.below hs (fun _ h => by cases h)), H.hN⟩
theorem float_eq (i : Int) : floatOfInt FloatKind.f64 i = FloatKind.f64.nearest i := rfl
theorem ArrLoop.next {N h : Nat} {w0 : World} {k : Nat} {lv : Value} {w : World} (H : ArrLoop N h w0 k lv w) (hs : N ≤ w.heap.size) (hk : k ≤ 1000) :
    ∃ p c w', (Builtin.append_ #[35, 35] 35 #[lv, .slice (some ⟨w.heap.size, 0, none⟩) 1 1]).run Tryd.prog (w.alloc (.cells #[.int .i64 3, .float .f64 (FloatKind.f64.nearest (k : Int)), .string ⟨#[]⟩, .int .i64 0] 31 (0, 0))) = .ok (.slice p (k + 1) c) w' ∧ ArrLoop N h w0 (k + 1) (.slice p (k + 1) c) w' ∧ N ≤ w'.heap.size := by
  have H5 := H.fr (Fr.alloc w (.cells #[.int .i64 3, .float .f64 (FloatKind.f64.nearest (k : Int)), .string ⟨#[]⟩, .int .i64 0] 31 (0, 0))) hs
  have hs5 := heap_size w (.cells #[.int .i64 3, .float .f64 (FloatKind.f64.nearest (k : Int)), .string ⟨#[]⟩, .int .i64 0] 31 (0, 0))
  obtain ⟨p, c, w', hrun, hrow, hfr, hfresh⟩ := append_val _ lv k (nums k) (nv (FloatKind.f64.nearest (k : Int))) (nums_len k) (by omega) H5.row w.heap.size (heap_new w _)
  have hs6 := hfr.size
  refine ⟨p, c, w', hrun, ⟨?_, ?_, ?_, ?_, H.hN⟩, by omega⟩
  · rw [nums_succ]; exact hrow
  · exact (hfr.block h H5.hp.lt (fun hm => (H5.ne h hm).1 rfl)).trans H5.hp
  · intro b hb
    rcases hfresh b (by rwa [Option.mem_toList] at hb) with h1 | h1
    · exact H5.ne b (by rw [h1]; simp)
    · have := H5.hp.lt
      exact ⟨by omega, by omega⟩
  · exact H5.below.trans (hfr.below (by omega) (fun b hb => (H5.ne b hb).2))
set_option maxRecDepth 100000 in
set_option maxHeartbeats 16000000 in
theorem law_arrays (N' : Nat) (n c : Nat) (hn : n < 256) (hc : c < 256) (w : World) (hT : Tb N' w) :
    Calls Tryd.prog 6 #[.int .u8 (n : Int), .int .u8 (c : Int)] w fun e w' => e = .returned (.bool true) ∧ Below w.heap.size w w' := by
  have hst := store_float
  have haw := fun W => awake_any W
  obtain ⟨N, hN⟩ : ∃ N, N = w.heap.size := ⟨_, rfl⟩
  have HN := Lib.hid hN
  have HT := Lib.hid hT
  clear hN
  go_enter Tryd.func6, Tryd.ntmps6
  go_wp2_with fail
  refine (haw _).mono ?_
  rintro e w1 ⟨rfl, f1⟩
  have F1 := Lib.hid f1
  clear f1 haw
  have q2 : Calls Tryd.prog 14 #[.int .i64 10000] w1 fun e w' => e = .returned (.pointer (some ⟨w1.heap.size, 0, none⟩)) ∧ ArrLoop N w1.heap.size w 0 (.slice none 0 0) w' ∧ N ≤ w'.heap.size := by
    refine (new_any 10000 w1).mono ?_
    rintro e w' ⟨rfl, rfl⟩
    have hs := F1.out.size
    have hN := HN.out
    refine ⟨rfl, ⟨World.ownsRow_nil _ _ _ _, heap_new w1 _, fun b hb => by simp [Value.ownBlock] at hb, ?_, by omega⟩, by rw [heap_size]; omega⟩
    exact (F1.out.below (by omega) (fun _ h => by cases h)).alloc (by omega) _
  obtain ⟨h, hh⟩ : ∃ h, h = w1.heap.size := ⟨_, rfl⟩
  rw [← hh] at q2
  clear hh F1
  go_wp2_with fail
  refine q2.mono ?_
  rintro e w2 ⟨rfl, a2, s2⟩
  have A2 := Lib.hid a2
  have S2 := Lib.hid s2
  clear q2 a2 s2
  go_wp2_with fail
  go_loopg [6, 7, 22] n (fun g v6 v7 v22 wr => ∃ (k : Nat) (lv : Value), k + g = n ∧ v22 = .int .i64 k ∧ lv = v6 ∧ ArrLoop N h w k lv wr ∧ N ≤ wr.heap.size)
  case atStart => exact ⟨0, _, by omega, rfl, rfl, A2.out, S2.out⟩
  case round =>
    obtain ⟨k, lv, hk, rfl, rfl, hal, hs⟩ := hrel
    have AL := Lib.hid hal
    have SL := Lib.hid hs
    clear hal hs
    by_cases hkn : k < n
    · have k1 : (k : Int) < (n : Int) := by omega
      have k2 : IntKind.i64.wrap ((k : Int) + 1) = (k : Int) + 1 := IntWalk.i64_in _ (by omega)
      go_wp2_with fail
      refine (num_any _ _).mono ?_
      rintro e w4 ⟨rfl, f4⟩
      have s4 := f4.size
      have sl4 : N ≤ w4.heap.size := Nat.le_trans SL.out s4
      obtain ⟨p, cc, w6, hrun, hal6, hs6⟩ := (AL.out.fr f4 SL.out).next sl4 (by omega)
      rw [float_eq]
      have HRUN := Lib.hid hrun
      have A6 := Lib.hid hal6
      have S6 := Lib.hid hs6
      clear hrun hal6 hs6 sl4 s4 f4
      go_wp2_with (at_builtin; refine wpList_append_run rfl _ _ 35 rfl _ _ _ rfl rfl HRUN.out ?_)
      go_wp2
      go_roundg (n - (k + 1))
      case measure => omega
      case rel => exact ⟨k + 1, _, by omega, by go_num, rfl, A6.out, S6.out⟩
    · obtain rfl : k = n := by omega
      have hkk : ¬ (k : Int) < (k : Int) := by omega
      have hkey : ∀ (z : Nat), z ≤ 1000 → ∀ W, Tb N' W → Calls Tryd.prog 11 #[.int .i64 (z : Int)] W fun e w' => e = .returned (.string (bs (keyB (z : Int)))) ∧ Fr [] W w' := fun z hz W hW => key_any N' (z : Int) (by omega) (by omega) (Nat.le_trans (Lib.itoa_length_le (z : Int) (by omega) (by omega)) (by omega)) W hW
      have HKEY := Lib.hid hkey
      clear hkey
      have tb : ∀ {A : Hp} {L : List Nat} {W : World}, Hv N h A L w W → Tb N' W := fun hv => HT.out.fr0 (Fr.of_below (show Below w.heap.size w _ from by rw [← HN.out]; exact hv.loc.1))
      have TB : Hid (∀ (A : Hp) (L : List Nat) (W : World), Hv N h A L w W → Tb N' W) := fun A L W hv => tb hv
      clear tb
      have hv1 : Hv N h heap0 lv.ownBlock.toList w wr := hv_empty 10000 (by decide) _ AL.out.hp AL.out.hN (fun M hM => ⟨(AL.out.row.lt M (by rwa [Option.mem_toList] at hM)).2, (AL.out.ne M hM).1⟩) AL.out.below SL.out
      have c1 := array_h hv1 (nums k) lv (by rw [nums_len]; omega) (by have := RowAt.of_own AL.out.row; rw [nums_len]; exact this) (fun _ x hx => Or.inl hx) (nums_text k) (by rw [arr_step k hn]; exact few_arr _ _ (by omega) (by rw [nums_len]; omega))
      rw [arr_step k hn] at c1
      go_wp2_with fail
      refine c1.mono ?_
      rintro e w5 ⟨rfl, n5⟩
      have h5 := Lib.hid (n5.hv.sub (L' := []) (fun M hM => by cases hM))
      clear n5 c1 hv1 AL SL
      have e2 : IntKind.i64.wrap ((k : Int) + 2) = (k : Int) + 2 := IntWalk.i64_in _ (by omega)
      have e3 : IntKind.i64.wrap ((k : Int) + 3) = (k : Int) + 3 := IntWalk.i64_in _ (by omega)
      have e1 : IntKind.i64.wrap ((k : Int) + 1) = (k : Int) + 1 := IntWalk.i64_in _ (by omega)
      -- Key(n + 2)
      have c2 := HKEY.out (k + 2) (by omega) w5 (TB.out _ _ _ h5.out)
      rw [show ((k + 2 : Nat) : Int) = (k : Int) + 2 by omega] at c2
      go_wp2_with fail
      refine c2.mono ?_
      rintro e w6 ⟨rfl, f6⟩
      have h6 := Lib.hid (h5.out.fr f6).hv
      clear c2 f6 h5
      go_wp2_with fail
      refine (num_any _ _).mono ?_
      rintro e w7 ⟨rfl, f7⟩
      have h7 := Lib.hid (h6.out.fr f7).hv
      clear f7 h6
      have c3 : Calls Tryd.prog 18 #[.pointer (some ⟨h, 0, none⟩), .int .i64 0, .string (bs (keyB ((k : Int) + 2))), .agg #[.int .i64 3, .float .f64 13830554455654793216, .string ⟨#[]⟩, .int .i64 0]] w7 fun e w' => e = .returned (.int .i64 0) ∧ Nx N h (heap2 k) [] w w7 w' := by
        have ps := put_step k hn
        rw [show ((k + 2 : Nat) : Int) = (k : Int) + 2 by omega] at ps
        have := put_all_h h7.out 0 (keyB ((k : Int) + 2)) (by
          have h2 := Lib.itoa_length_le ((k : Int) + 2) (by omega) (by omega)
          rw [keyB_of, ofB_len]
          omega) 3 13830554455654793216 [] (by decide) 0 (by rw [show (⟨3, 13830554455654793216, [], 0⟩ : V) = nv 13830554455654793216 from rfl, ps]; exact few_arr _ _ (by omega) (by rw [items1_len]; omega))
        rw [show (⟨3, 13830554455654793216, [], 0⟩ : V) = nv 13830554455654793216 from rfl, ps] at this
        exact this
      go_wp2_with fail
      refine c3.mono ?_
      rintro e w8 ⟨rfl, n8⟩
      have h8 := Lib.hid n8.hv
      clear c3 n8 h7
      -- Items
      have c4 := items_h h8.out 0 (arrO (items1 k)) rfl rfl
      rw [show (arrO (items1 k)).items.length = k + 3 from items1_len k] at c4
      go_wp2_with fail
      refine c4.mono ?_
      rintro e w9 ⟨rfl, r9, n9, f9⟩
      have h9 := Lib.hid n9.hv
      obtain ⟨⟨z0, _, _, _⟩, _⟩ := items_at r9 (items1_len k) (k + 1) V.zero (items1_at1 k)
      obtain ⟨⟨_, z1, _, _⟩, _⟩ := items_at r9 (items1_len k) (k + 2) (nv 13830554455654793216) (items1_at2 k)
      replace z0 : w9.cell? ⟨w8.heap.size, (k + 1) * 4, none⟩ = some (.int .i64 0) := z0
      replace z1 : w9.cell? ⟨w8.heap.size, (k + 2) * 4 + 1, none⟩ = some (.float .f64 13830554455654793216) := z1
      obtain ⟨P9, hP9⟩ : ∃ P, P = w8.heap.size := ⟨_, rfl⟩
      rw [← hP9] at z0 z1
      rw [← hP9]
      have c5 := keys_h h9.out N' (TB.out _ _ _ h9.out) 0 (arrO (items1 k)) rfl
      rw [show (arrO (items1 k)).items.length = k + 3 from items1_len k, show (arrO (items1 k)).props.length = 0 from rfl, Nat.add_zero] at c5
      have o1 : (FloatKind.f64.format.order 13830554455654793216 13830554455654793216 != some Ordering.eq) = false := by kernel_rfl
      have i1 : (0 : Int) ≤ (k : Int) + 1 := by omega
      have i2 : (0 : Int) ≤ (k : Int) + 2 := by omega
      have i3 : (k : Int) + 1 < ((k + 3 : Nat) : Int) := by omega
      have i4 : (k : Int) + 2 < ((k + 3 : Nat) : Int) := by omega
      have C5 := Lib.hid c5
      clear c4 n9 f9 r9 h8 hP9 c5
      go_wp2_with fail
      refine C5.out.mono ?_
      rintro e w10 ⟨p10, c10, rfl, _, n10, _⟩
      have h10 := Lib.hid n10.hv
      clear n10 C5 h9 z0 z1 i1 i2 i3 i4 o1
      have c6 : Calls Tryd.prog 30 #[.string ⟨#[108, 101, 110, 103, 116, 104]⟩] w10 fun e w' => e = .returned (.string (bs lenB)) ∧ Fr [] w10 w' := by
        have := of_any [108, 101, 110, 103, 116, 104] (by simp) w10
        rw [ofB_len8] at this
        exact this
      go_wp2_with fail
      refine c6.mono ?_
      rintro e w11 ⟨rfl, f11⟩
      have h11 := Lib.hid (h10.out.fr f11).hv
      clear c6 f11 h10
      go_wp2_with fail
      rw [float_eq]
      refine (num_any _ _).mono ?_
      rintro e w12 ⟨rfl, f12⟩
      have h12 := Lib.hid (h11.out.fr f12).hv
      clear f12 h11
      have c7 : Calls Tryd.prog 18 #[.pointer (some ⟨h, 0, none⟩), .int .i64 0, .string (bs lenB), .agg #[.int .i64 3, .float .f64 (FloatKind.f64.nearest (c : Int)), .string ⟨#[]⟩, .int .i64 0]] w12 fun e w' => e = .returned (.int .i64 0) ∧ Nx N h (heap3 k c) [] w w12 w' := by
        have ps := len_step k c hn hc
        have := put_all_h h12.out 0 lenB (by decide) 3 (FloatKind.f64.nearest (c : Int)) [] (by decide) 0 (by rw [show (⟨3, FloatKind.f64.nearest (c : Int), [], 0⟩ : V) = nv (FloatKind.f64.nearest (c : Int)) from rfl, ps]; exact few_arr _ _ (by omega) (by rw [lenItems_len]; omega))
        rw [show (⟨3, FloatKind.f64.nearest (c : Int), [], 0⟩ : V) = nv (FloatKind.f64.nearest (c : Int)) from rfl, ps] at this
        exact this
      have C7 := Lib.hid c7
      clear c7
      go_wp2_with fail
      refine C7.out.mono ?_
      rintro e w13 ⟨rfl, n13⟩
      have h13 := Lib.hid n13.hv
      clear n13 C7 h12
      have c8 := items_h h13.out 0 (arrO (lenItems (items1 k) c)) rfl rfl
      rw [show (arrO (lenItems (items1 k) c)).items.length = c from lenItems_len _ _] at c8
      have C8 := Lib.hid c8
      clear c8
      go_wp2_with fail
      refine C8.out.mono ?_
      rintro e w14 ⟨rfl, r14, n14, f14⟩
      have h14 := Lib.hid n14.hv
      have hcell : ∀ i, i < k → i < c → w14.cell? ⟨w13.heap.size, i * 4 + 1, none⟩ = some (.float .f64 (FloatKind.f64.nearest ((i : Nat) : Int))) := by
        intro i h1 h2
        obtain ⟨⟨_, q1, _, _⟩, _⟩ := items_at r14 (lenItems_len _ _) i (nv (FloatKind.f64.nearest ((i : Nat) : Int))) (items3_at k c i h1 h2)
        exact q1
      have HC := Lib.hid hcell
      clear C8 n14 f14 r14 h13 hcell
      obtain ⟨P14, hP14⟩ : ∃ P, P = w13.heap.size := ⟨_, rfl⟩
      rw [← hP14] at HC
      rw [← hP14]
      clear hP14
      go_wp2_with fail
      go_loopg [12, 113] c (fun g v12 v113 wr => ∃ i : Nat, i + g = c ∧ v113 = .int .i64 i ∧ wr = w14)
      case atStart => exact ⟨0, by omega, rfl, rfl⟩
      case round =>
        obtain ⟨i, hi, rfl, rfl⟩ := hrel
        by_cases hic : i < c
        · have j1 : (i : Int) < (c : Int) := by omega
          have j2 : IntKind.i64.wrap ((i : Int) + 1) = (i : Int) + 1 := IntWalk.i64_in _ (by omega)
          by_cases hik : i < k
          · have j3 : (i : Int) < (k : Int) := by omega
            have q1 := HC.out i hik hic
            have q2 : (FloatKind.f64.format.order (FloatKind.f64.nearest (i : Int)) (FloatKind.f64.nearest (i : Int)) != some Ordering.eq) = false := by
              have := (lenF_small i (by omega)).2
              show (!(_ == _)) = false
              rw [this]; rfl
            rw [← float_eq] at q1 q2
            go_wp2_with fail
            go_roundg (c - (i + 1))
            case measure => omega
            case rel => exact ⟨i + 1, by omega, by go_num, rfl⟩
          · have j3 : ¬ (i : Int) < (k : Int) := by omega
            go_wp2_with fail
            go_roundg (c - (i + 1))
            case measure => omega
            case rel => exact ⟨i + 1, by omega, by go_num, rfl⟩
        · obtain rfl : i = c := by omega
          have j1 : ¬ (i : Int) < (i : Int) := by omega
          have c9 := HKEY.out i (by omega) wr (TB.out _ _ _ h14.out)
          go_wp2_with fail
          refine c9.mono ?_
          rintro e w15 ⟨rfl, f15⟩
          have h15 := Lib.hid (h14.out.fr f15).hv
          clear c9 f15 h14 HC
          have c10 : Calls Tryd.prog 23 #[.pointer (some ⟨h, 0, none⟩), .int .i64 0, .string (bs (keyB (i : Int)))] w15 fun e w' => e = .returned (.tuple #[.agg #[.int .i64 0, .float .f64 0, .string ⟨#[]⟩, .int .i64 0], .bool false]) ∧ Nx N h (heap3 k i) [] w w15 w' := by
            have := own_all_h h15.out 0 (keyB (i : Int)) (by
              have h2 := Lib.itoa_length_le (i : Int) (by omega) (by omega)
              rw [keyB_of, ofB_len]
              omega)
            rw [own_gone k i hc] at this
            exact this
          go_wp2_with fail
          refine c10.mono ?_
          rintro e w16 ⟨rfl, n16⟩
          have h16 := Lib.hid n16.hv
          clear c10 n16 h15
          go_wp2_with fail
          go_ret
          exact ⟨rfl, by rw [← HN.out]; exact (h16.out.loc.1).alloc h16.out.loc.2 _⟩
end Go.Proofs.YtmhoebbdapjpeaaDoor
namespace Go.Proofs.YtmhoebbdapjpeaaDoor
open Go.RowKit Go.Maps
set_option linter.all false

theorem u8_wf {a : Int} (h : (Lit.int .u8 a).wf = true) : 0 ≤ a ∧ a < 256 := by
  have e1 : IntKind.u8.min = 0 := rfl
  have e2 : IntKind.u8.max = 255 := rfl
  simp only [Lit.wf, Bool.and_eq_true, decide_eq_true_eq] at h
  omega
theorem law_arrays_at (N' : Nat) (a0 : Int) (h0 : (Lit.int .u8 a0).wf = true) (a1 : Int) (h1 : (Lit.int .u8 a1).wf = true) (w : World) (hT : Tb N' w) :
    Calls Tryd.prog 6 #[.int .u8 a0, .int .u8 a1] w fun e w' => e = .returned (.bool true) ∧ Below w.heap.size w w' := by
  obtain ⟨p0, p1⟩ := u8_wf h0
  obtain ⟨q0, q1⟩ := u8_wf h1
  obtain ⟨n, rfl⟩ : ∃ n : Nat, a0 = n := ⟨a0.toNat, by omega⟩
  obtain ⟨c, rfl⟩ : ∃ c : Nat, a1 = c := ⟨a1.toNat, by omega⟩
  exact law_arrays N' n c (by omega) (by omega) w hT
end Go.Proofs.YtmhoebbdapjpeaaDoor
