/- The document's characters, one and all: xmltok.character, xmltok.characters. Conditions: those that each theorem names. The document's characters, one behind the other: xmltok.characters. Conditions: those that each theorem names. Line ends written otherwise: the same characters. Plain facts; no conditions but those that each fact names. -/
import Derived.Test.YtdilngjolhmjnaaGreatDoorB4
import Derived.Test.YtdilngjolhmjnaaGreatDoorNext
import Derived.Test.YtdilngjolhmjnaaGreatDoorA1
namespace Go.Proofs.YtdilngjolhmjnaaGreatDoor
open Go.RowKit Go.Shelf
set_option linter.all false

/-- The character at a list's head and how many bytes it has there, or what is wrong with it. -/
def ch1 (l : List UInt8) : Except Nat (Nat × Nat) :=
  if (U.dec l).2 = 0 then .error 10
  else if (U.dec l).1 = 13 then .ok (10, if l.tail.head? = some 10 then 2 else 1)
  else if K.allowed (U.dec l).1 then .ok ((U.dec l).1, (U.dec l).2)
  else .error 20
theorem readF_step (f : Nat) (b : UInt8) (r : List UInt8) (p : K.Pl) (acc : List Nat) : K.readF (f + 1) (b :: r) p acc = match ch1 (b :: r) with
    | .error e => .error (e, p)
    | .ok (c, n) => K.readF f ((b :: r).drop n) (K.adv p c) (acc ++ [c]) := by
  rw [K.readF]
  unfold ch1
  split
  · rfl
  · split
    · show K.readF f (if r.head? = some 10 then r.drop 1 else r) _ _ = K.readF f ((b :: r).drop (if r.head? = some 10 then 2 else 1)) _ _
      split <;> rfl
    · split <;> rfl
theorem ch1_ok {l : List UInt8} {c n : Nat} (h : ch1 l = .ok (c, n)) : 1 ≤ n ∧ n ≤ l.length ∧ U.scalar c ∧ (U.enc c).length ≤ n := by
  unfold ch1 at h
  split at h
  · cases h
  · rename_i h0
    obtain ⟨c', n', hd⟩ : ∃ c' n', U.dec l = (c', n' + 1) := ⟨(U.dec l).1, (U.dec l).2 - 1, Prod.ext rfl (by simp only; omega)⟩
    obtain ⟨hs, hl, hsp⟩ := U.enc_dec l c' n' hd
    have hle : n' + 1 ≤ l.length := by
      have := congrArg List.length hsp
      rw [List.length_append, hl] at this
      omega
    rw [hd] at h
    simp only at h
    split at h
    · rename_i h13
      subst h13
      simp only [Except.ok.injEq, Prod.mk.injEq] at h
      obtain ⟨rfl, rfl⟩ := h
      have hl1 : 1 ≤ l.length := by omega
      refine ⟨by split <;> omega, ?_, .inl (by decide), by rw [show (U.enc 10).length = 1 from rfl]; split <;> omega⟩
      split
      · rename_i ht
        cases l with
        | nil => cases hl1
        | cons a r =>
          cases r with
          | nil => cases ht
          | cons a2 r2 => simp
      · exact hl1
    · split at h
      · simp only [Except.ok.injEq, Prod.mk.injEq] at h
        obtain ⟨rfl, rfl⟩ := h
        exact ⟨by omega, hle, hs, by omega⟩
      · cases h
theorem readF_fuel : ∀ (f : Nat) (l : List UInt8) (p : K.Pl) (acc : List Nat), l.length < f → K.readF (f + 1) l p acc = K.readF f l p acc
  | 0, l, p, acc, h => by omega
  | f + 1, [], p, acc, h => by rw [K.readF, K.readF] <;> simp
  | f + 1, b :: r, p, acc, h => by
    rw [readF_step, readF_step]
    cases hc : ch1 (b :: r) with
    | error e => rfl
    | ok q =>
      obtain ⟨c, n⟩ := q
      obtain ⟨h1, h2, _⟩ := ch1_ok hc
      exact readF_fuel f _ _ _ (by rw [List.length_drop]; simp only [List.length_cons] at h ⊢; omega)
theorem readF_more (f : Nat) (l : List UInt8) (p : K.Pl) (acc : List Nat) (h : l.length < f) : K.readF f l p acc = K.readF (l.length + 1) l p acc := by
  obtain ⟨k, rfl⟩ : ∃ k, f = l.length + 1 + k := ⟨f - (l.length + 1), by omega⟩
  clear h
  induction k with
  | zero => rfl
  | succ k ih => rw [show l.length + 1 + (k + 1) = (l.length + 1 + k) + 1 by omega, readF_fuel _ _ _ _ (by omega)]; exact ih
/-- The document's characters behind those that were read. -/
def CF (l : List UInt8) (p : K.Pl) (acc : List Nat) : Except K.Er (List Nat) := K.readF (l.length + 1) l p acc
theorem CF_nil (p : K.Pl) (acc : List Nat) : CF [] p acc = .ok acc := rfl
theorem CF_err {l : List UInt8} {p : K.Pl} {acc : List Nat} {e : Nat} (h0 : l ≠ []) (h : ch1 l = .error e) : CF l p acc = .error (e, p) := by
  cases l with
  | nil => exact absurd rfl h0
  | cons b r => unfold CF; rw [readF_step, h]
theorem CF_ok {l : List UInt8} {p : K.Pl} {acc : List Nat} {c n : Nat} (h0 : l ≠ []) (h : ch1 l = .ok (c, n)) : CF l p acc = CF (l.drop n) (K.adv p c) (acc ++ [c]) := by
  cases l with
  | nil => exact absurd rfl h0
  | cons b r =>
    obtain ⟨h1, h2, _⟩ := ch1_ok h
    conv => lhs; unfold CF
    rw [readF_step, h]
    exact readF_more _ _ _ _ (by rw [List.length_drop]; simp only [List.length_cons] at h2 ⊢; omega)

/-- What xmltok.character leaves. -/
def CharRet (r : Except Nat (Nat × Nat)) (p : K.Pl) (w : World) (e : Ending) (w' : World) : Prop := match r with
  | .ok (c, n) => e = .returned (.tuple #[.string (bs (U.enc c)), .int .i64 (n : Int)]) ∧ Below w.heap.size w w'
  | .error er => Fell (er, p) e w' ∧ Below w.heap.size w w'

theorem prefix_call (a q : ByteArray) (v : Bool) (h : Lib.hasPrefix a.data.toList q.data.toList = v) (W : World) : Calls Tryz.prog 54 #[.string a, .string q] W fun e w' => e = .returned (.bool v) ∧ W = w' := by
  subst h
  refine (Tryz.strings_HasPrefix _ _ _).mono ?_
  rintro e w' ⟨rfl, rfl⟩
  exact ⟨rfl, rfl⟩

theorem dec_13 (r : List UInt8) : U.dec (13 :: r) = (13, 1) := U.dec_ascii (13 :: r) (by simp) (by show 13 < 128; decide)

set_option maxHeartbeats 4000000 in
set_option maxRecDepth 100000 in
theorem character_13 (l : List UInt8) (hl : l.length ≤ 65536) (i : Nat) (hi : i < l.length) (r : List UInt8) (hr : l.drop i = 13 :: r) (p : K.Pl) (w : World) :
    Calls Tryz.prog 33 #[.string (bs l), .int .i64 (i : Int), .agg #[.int .i64 (p.1 : Int), .int .i64 (p.2 : Int)]] w (CharRet (ch1 (13 :: r)) p w) := by
  obtain ⟨S, hS⟩ : ∃ S, bs l = S := ⟨_, rfl⟩
  have hsz : S.size = l.length := by rw [← hS]; exact bs_size l
  have hi2 : i < S.size := by omega
  have hget : S[i] = 13 := by
    subst hS
    refine (bs_get l i hi2 hi).trans ?_
    have h1 : (l.drop i)[0]? = some 13 := by rw [hr]; rfl
    rw [List.getElem?_drop, List.getElem?_eq_getElem (by omega)] at h1
    simpa using h1
  have hz : S.size ≤ 65536 := by omega
  have hdr : S.extract i S.size = bs (13 :: r) := by rw [← hS, bs_drop, hr]
  rw [hS]
  clear hS
  have hch : ch1 (13 :: r) = .ok (10, if r.head? = some 10 then 2 else 1) := by
    unfold ch1
    rw [dec_13]
    rfl
  rw [hch]
  have hb := (Below.refl w.heap.size w).alloc (Nat.le_refl _) (.cells #[.int .i64 (p.1 : Int), .int .i64 (p.2 : Int)] 29)
  by_cases h10 : r.head? = some 10
  · have hpre : ∀ W, Calls Tryz.prog 54 #[.string (S.extract i S.size), .string ⟨#[13, 10]⟩] W fun e w' => e = .returned (.bool true) ∧ W = w' := by
      intro W
      refine prefix_call _ _ _ ?_ W
      rw [hdr, bs_list]
      cases r with
      | nil => cases h10
      | cons a r2 =>
        simp only [List.head?_cons, Option.some.injEq] at h10
        subst h10
        rfl
    rw [if_pos h10]
    have HB := Lib.hid hb
    clear h10 hdr hget hr hch hl hi hsz hb
    go_enter Tryz.func33, Tryz.ntmps33
    go_wp2_with (go_at_call 54; refine (hpre _).mono ?_; rintro e w' ⟨rfl, rfl⟩)
    go_ret2
    exact ⟨rfl, HB.out⟩
  · have hpre : ∀ W, Calls Tryz.prog 54 #[.string (S.extract i S.size), .string ⟨#[13, 10]⟩] W fun e w' => e = .returned (.bool false) ∧ W = w' := by
      intro W
      refine prefix_call _ _ _ ?_ W
      rw [hdr, bs_list]
      cases r with
      | nil => rfl
      | cons a r2 =>
        have : a ≠ 10 := fun e => h10 (by rw [e]; rfl)
        show ([13, 10] : List UInt8).isPrefixOf (13 :: a :: r2) = false
        have h2 : ((10 : UInt8) == a) = false := by simpa using fun e => this e.symm
        simp [List.isPrefixOf, h2]
    rw [if_neg h10]
    have HB := Lib.hid hb
    clear h10 hdr hr hch hl hi hsz hb
    go_enter Tryz.func33, Tryz.ntmps33
    go_wp2_with (go_at_call 54; refine (hpre _).mono ?_; rintro e w' ⟨rfl, rfl⟩)
    go_ret2
    exact ⟨rfl, HB.out⟩

theorem enc_13 : U.enc 13 = [13] := rfl
set_option maxHeartbeats 8000000 in
set_option maxRecDepth 100000 in
theorem character_else (l : List UInt8) (hl : l.length ≤ 65536) (i : Nat) (hi : i < l.length) (b0 : UInt8) (r : List UInt8) (hr : l.drop i = b0 :: r) (h13 : b0 ≠ 13) (p : K.Pl) (w : World) (hlow : Low w) (h12 : 12 ≤ w.heap.size) :
    Calls Tryz.prog 33 #[.string (bs l), .int .i64 (i : Int), .agg #[.int .i64 (p.1 : Int), .int .i64 (p.2 : Int)]] w (CharRet (ch1 (b0 :: r)) p w) := by
  obtain ⟨S, hS⟩ : ∃ S, bs l = S := ⟨_, rfl⟩
  have hsz : S.size = l.length := by rw [← hS]; exact bs_size l
  have hi2 : i < S.size := by omega
  have hget : S[i] = b0 := by
    subst hS
    refine (bs_get l i hi2 hi).trans ?_
    have h1 : (l.drop i)[0]? = some b0 := by rw [hr]; rfl
    rw [List.getElem?_drop, List.getElem?_eq_getElem (by omega)] at h1
    simpa using h1
  have hz : S.size ≤ 65536 := by omega
  have hdr : S.extract i S.size = bs (b0 :: r) := by rw [← hS, bs_drop, hr]
  have hls : ls S = l := by rw [← hS]; exact bs_list l
  have hpre : ∀ W, Calls Tryz.prog 54 #[.string (S.extract i S.size), .string ⟨#[13, 10]⟩] W fun e w' => e = .returned (.bool false) ∧ W = w' := by
    intro W
    refine prefix_call _ _ _ ?_ W
    rw [hdr, bs_list]
    show ([13, 10] : List UInt8).isPrefixOf (b0 :: r) = false
    have h2 : ((13 : UInt8) == b0) = false := by simpa using fun e => h13 e.symm
    simp [List.isPrefixOf, h2]
  have hbv : (((b0.toNat : Int)) == 13) = false := by
    rw [beq_eq_false_iff_ne]
    intro e
    exact h13 (UInt8.toNat_inj.1 (by have : (13 : UInt8).toNat = 13 := rfl; omega))
  have hb8 := UInt8.toNat_lt b0
  rw [hS]
  have hb := (Below.refl w.heap.size w).alloc (Nat.le_refl _) (.cells #[.int .i64 (p.1 : Int), .int .i64 (p.2 : Int)] 29)
  have hbox := heap_new w (.cells #[.int .i64 (p.1 : Int), .int .i64 (p.2 : Int)] 29)
  have htab : Lib.Utf8Tabs 1 2 (w.alloc (.cells #[.int .i64 (p.1 : Int), .int .i64 (p.2 : Int)] 29)) := (hlow.below hb h12).tabs
  have hcl : ∀ W, Below (w.heap.size + 1) (w.alloc (.cells #[.int .i64 (p.1 : Int), .int .i64 (p.2 : Int)] 29)) W → W.cell? ⟨w.heap.size, 0, none⟩ = some (.int .i64 (p.1 : Int)) ∧ W.cell? ⟨w.heap.size, 1, none⟩ = some (.int .i64 (p.2 : Int)) := by
    intro W hW
    have := Below.keep (w := w.alloc (.cells #[.int .i64 (p.1 : Int), .int .i64 (p.2 : Int)] 29)) (by rw [heap_size]; exact hW) hbox
    exact ⟨by rw [Lib.cell_of_heap this]; rfl, by rw [Lib.cell_of_heap this]; rfl⟩
  have hfl : ∀ (er : Nat) (W : World), Calls Tryz.prog 17 #[.int .i64 (er : Int), .agg #[.int .i64 (p.1 : Int), .int .i64 (p.2 : Int)]] W fun e w' => Fell (er, p) e w' ∧ Below W.heap.size W w' := fun er W => fail_any er p.1 p.2 W
  have hbsz : (w.alloc (.cells #[.int .i64 (p.1 : Int), .int .i64 (p.2 : Int)] 29)).heap.size = w.heap.size + 1 := heap_size _ _
  obtain ⟨c, m, hd⟩ : ∃ c m, U.dec (b0 :: r) = (c, m) := ⟨_, _, rfl⟩
  cases m with
  | zero =>
    have hnx := next_no S (by omega) (i : Int) c (by unfold nextAt; rw [hls, if_pos ⟨by omega, by omega⟩]; simpa [hr] using hd) _ htab
    have hch : ch1 (b0 :: r) = .error 10 := by unfold ch1; rw [hd]; rfl
    rw [hch]
    have HB := Lib.hid hb
    have HCL := Lib.hid hcl
    have HFL := Lib.hid hfl
    have HSZ := Lib.hid hbsz
    clear hdr hr hch hl hi hsz hb hbox htab hd hls hlow hcl hfl hbsz
    go_enter Tryz.func33, Tryz.ntmps33
    go_wp2_with (first
      | (go_at_call 54; refine (hpre _).mono ?_; rintro e w' ⟨rfl, rfl⟩)
      | (go_at_call 55; refine hnx.mono ?_; rintro e w1 ⟨rfl, hb1⟩; obtain ⟨k1, k2⟩ := HCL.out _ (by rw [← HSZ.out]; exact hb1); have hf := HFL.out 10 w1)
      | (go_at_call 17; refine hf.mono ?_; rintro e w2 ⟨⟨fb, rfl, hfc⟩, hfb⟩))
    exact ⟨rfl, ⟨_, rfl, hfc⟩, (HB.out.trans (hb1.mono (by rw [HSZ.out]; omega))).trans (hfb.mono (by have := hb1.size; rw [HSZ.out] at this; omega))⟩
  | succ n =>
    obtain ⟨hs, hel, hsp⟩ := U.enc_dec _ c n hd
    have hc13 : c ≠ 13 := by
      rintro rfl
      rw [enc_13] at hsp
      simp only [List.cons_append, List.nil_append, List.cons.injEq] at hsp
      exact h13 hsp.1
    have hc : c ≤ 1114111 := by unfold U.scalar at hs; omega
    have hnx := next_ok S (by omega) i hi2 c n (by rw [hls, hr]; exact hd) _ htab
    have hal := allowed_any c (by omega)
    have hlen : i + (n + 1) ≤ l.length := by
      have h1 := congrArg List.length hsp
      rw [List.length_append, hel, ← hr, List.length_drop] at h1
      omega
    cases ha : K.allowed c with
    | false =>
      have hch : ch1 (b0 :: r) = .error 20 := by unfold ch1; rw [hd]; simp [hc13, ha]
      rw [hch]
      rw [ha] at hal
      have HB := Lib.hid hb
      have HCL := Lib.hid hcl
      have HFL := Lib.hid hfl
      have HSZ := Lib.hid hbsz
      have HAL := Lib.hid hal
      clear hdr hr hch hl hi hsz hb hbox htab hd hls hlow hcl hfl hbsz hsp hel hs ha hal hlen
      go_enter Tryz.func33, Tryz.ntmps33
      go_wp2_with (first
        | (go_at_call 54; refine (hpre _).mono ?_; rintro e w' ⟨rfl, rfl⟩)
        | (go_at_call 55; refine hnx.mono ?_; rintro e w1 ⟨rfl, hb1⟩; obtain ⟨k1, k2⟩ := HCL.out _ (by rw [← HSZ.out]; exact hb1); have hf := HFL.out 20 w1)
        | (go_at_call 56; refine (HAL.out _).mono ?_; rintro e w2 ⟨rfl, rfl⟩)
        | (go_at_call 17; refine hf.mono ?_; rintro e w2 ⟨⟨fb, rfl, hfc⟩, hfb⟩))
      exact ⟨rfl, ⟨_, rfl, hfc⟩, (HB.out.trans (hb1.mono (by rw [HSZ.out]; omega))).trans (hfb.mono (by have := hb1.size; rw [HSZ.out] at this; omega))⟩
    | true =>
      have hch : ch1 (b0 :: r) = .ok (c, n + 1) := by unfold ch1; rw [hd]; simp [hc13, ha]
      rw [hch]
      rw [ha] at hal
      have hext : S.extract i (i + (n + 1)) = bs (U.enc c) := by
        rw [← hS, bs_extract, hr, hsp, show i + (n + 1) - i = n + 1 by omega, ← hel, List.take_left' rfl]
      have hle2 : i + (n + 1) ≤ S.size := by omega
      have HB := Lib.hid hb
      have HAL := Lib.hid hal
      have HEX := Lib.hid hext
      have HSZ := Lib.hid hbsz
      clear hdr hr hch hl hi hsz hb hbox htab hd hls hlow hcl hfl hbsz hsp hel hs ha hal hlen hext
      go_enter Tryz.func33, Tryz.ntmps33
      go_wp2_with (first
        | (go_at_call 54; refine (hpre _).mono ?_; rintro e w' ⟨rfl, rfl⟩)
        | (go_at_call 55; refine hnx.mono ?_; rintro e w1 ⟨rfl, hb1⟩)
        | (go_at_call 56; refine (HAL.out _).mono ?_; rintro e w2 ⟨rfl, rfl⟩))
      go_ret2
      exact ⟨by rw [← HEX.out]; rfl, HB.out.trans (hb1.mono (by rw [HSZ.out]; omega))⟩
end Go.Proofs.YtdilngjolhmjnaaGreatDoor
namespace Go.Proofs.YtdilngjolhmjnaaGreatDoor
open Go.RowKit Go.Shelf
set_option linter.all false

theorem CF_facts : ∀ (n : Nat) (l : List UInt8), l.length ≤ n → ∀ (p : K.Pl) (acc cs : List Nat), CF l p acc = .ok cs → K.Sc acc → K.Sc cs ∧ (U.n8 cs).length ≤ (U.n8 acc).length + l.length
  | n, [], _, p, acc, cs, h, ha => by
    rw [CF_nil] at h
    simp only [Except.ok.injEq] at h
    subst h
    exact ⟨ha, by simp⟩
  | 0, _ :: _, hn, _, _, _, _, _ => by simp at hn
  | n + 1, b :: r, hn, p, acc, cs, h, ha => by
    cases hc : ch1 (b :: r) with
    | error e => rw [CF_err (by simp) hc] at h; cases h
    | ok q =>
      obtain ⟨c, m⟩ := q
      rw [CF_ok (by simp) hc] at h
      obtain ⟨h1, h2, h3, h4⟩ := ch1_ok hc
      have hd : ((b :: r).drop m).length = (b :: r).length - m := List.length_drop
      obtain ⟨k1, k2⟩ := CF_facts n ((b :: r).drop m) (by rw [hd]; omega) _ _ _ h (ha.append (fun y hy => by simp only [List.mem_singleton] at hy; subst hy; exact h3))
      refine ⟨k1, ?_⟩
      rw [U.n8_append, List.length_append, one_n8, hd] at k2
      omega

/-- What xmltok.characters leaves. -/
def CharsRet (r : Except K.Er (List Nat)) (B : Nat) (w : World) (e : Ending) (w' : World) : Prop := match r with
  | .ok cs => e = .returned (.string (bs (U.n8 cs))) ∧ Below B w w'
  | .error er => Fell er e w' ∧ Below B w w'
/-- What the loop over characters has come to. -/
def CsRel (l : List UInt8) (N : Nat) (R : Except K.Er (List Nat)) (w : World) (g : Nat) (iv : Value) (wr : World) : Prop :=
  ∃ (i : Nat) (p : K.Pl) (acc : List Nat) (C : Array Value), l.length - i = g ∧ i ≤ l.length ∧ iv = .int .i64 (i : Int) ∧ CF (l.drop i) p acc = R ∧ C.size = 2 ∧ BdAt N N 0 55 C (Lib.byteCells (U.n8 acc)) wr ∧
    wr.heap[N + 1]? = some (.cells #[.int .i64 (p.1 : Int), .int .i64 (p.2 : Int)] 29 (0, 0)) ∧ Below N w wr ∧ (U.n8 acc).length ≤ i ∧ p.1 ≤ i + 1 ∧ p.2 ≤ i + 1 ∧ N + 1 < wr.heap.size
theorem adv_le {p : K.Pl} {c n : Nat} (h1 : p.1 ≤ n) (h2 : p.2 ≤ n) (hn : 0 < n) : (K.adv p c).1 ≤ n + 1 ∧ (K.adv p c).2 ≤ n + 1 := by
  unfold K.adv
  split <;> simp only <;> omega
theorem bd_bel {N b o T : Nat} {C : Array Value} {xs : List Value} {w w' : World} (h : BdAt N b o T C xs w) (k : Below w.heap.size w w') : BdAt N b o T C xs w' := h.bel k

theorem BdAt.far {B b o T k i : Nat} {C D : Array Value} {xs : List Value} {w : World} (h : BdAt B b o T C xs w) (hD : w.heap[k]? = some (.cells D 29 (0, 0))) (hkb : k ≠ b) (v : Value) : BdAt B b o T C xs (w.setCell ⟨k, i, none⟩ v) := by
  obtain ⟨hB, hk, hbk, ha, u, hu, hown⟩ := h
  refine ⟨hB, hk, by rw [Below.heap_setCell _ _ _ _ (by simpa using fun e => hkb e.symm)]; exact hbk, ha, u, hu, ?_⟩
  exact hown.kept (row := some k) ⟨rfl, rfl, rfl, by simp [World.setCell], fun j _ hj => Below.heap_setCell _ _ _ _ (fun e => hj (by simp [e]))⟩ (.inr (Lib.ownBlock_neF hown hD (by decide)))
theorem character_any (l : List UInt8) (hl : l.length ≤ 65536) (i : Nat) (hi : i < l.length) (p : K.Pl) (w : World) (hlow : Low w) (h12 : 12 ≤ w.heap.size) :
    Calls Tryz.prog 33 #[.string (bs l), .int .i64 (i : Int), .agg #[.int .i64 (p.1 : Int), .int .i64 (p.2 : Int)]] w (CharRet (ch1 (l.drop i)) p w) := by
  obtain ⟨b0, r, hr⟩ : ∃ b0 r, l.drop i = b0 :: r := by
    cases h : l.drop i with
    | nil => have := congrArg List.length h; rw [List.length_drop] at this; simp at this; omega
    | cons b0 r => exact ⟨b0, r, rfl⟩
  rw [hr]
  by_cases h13 : b0 = 13
  · subst h13; exact character_13 l hl i hi r hr p w
  · exact character_else l hl i hi b0 r hr h13 p w hlow h12

set_option maxHeartbeats 8000000 in
set_option maxRecDepth 100000 in
theorem characters_any (l : List UInt8) (hl : l.length ≤ 65536) (w : World) (hlow : Low w) (h12 : 12 ≤ w.heap.size) :
    Calls Tryz.prog 19 #[.string (bs l)] w (CharsRet (CF l (1, 1) []) w.heap.size w) := by
  obtain ⟨N, hN⟩ : ∃ N, w.heap.size = N := ⟨_, rfl⟩
  obtain ⟨R, hR⟩ : ∃ R, CF l (1, 1) [] = R := ⟨_, rfl⟩
  have hsz := bs_size l
  have hb0 := bd_fresh w N (by omega)
  rw [hN] at hb0
  have hs1 : (w.alloc (.cells #[.pointer none, .slice none 0 0] 55)).heap.size = N + 1 := by rw [heap_size, hN]
  have hal : Below N w (w.alloc (.cells #[.pointer none, .slice none 0 0] 55)) := (Below.refl _ _).alloc (by omega) _
  have hst : CsRel l N R w l.length (.int .i64 0) ((w.alloc (.cells #[.pointer none, .slice none 0 0] 55)).alloc (.cells #[.int .i64 1, .int .i64 1] 29)) := by
    refine ⟨0, (1, 1), [], #[.pointer none, .slice none 0 0], rfl, Nat.zero_le _, rfl, hR, rfl, hb0.bel ((Below.refl _ _).alloc (Nat.le_refl _) _), ?_, hal.alloc (by omega) _, by simp [U.n8], Nat.le_refl _, Nat.le_refl _, by rw [heap_size, hs1]; omega⟩
    rw [← hs1]
    exact heap_new _ _
  rw [hR, hN]
  have HST := Lib.hid hst
  have HN := Lib.hid hN
  have HL := Lib.hid hlow
  clear hst hN hR hb0 hs1 hal hlow
  go_enter Tryz.func19, Tryz.ntmps19
  go_wp2
  rw [HN.out]
  go_loopg [5] l.length (fun g iv wr => CsRel l N R w g iv wr)
  case atStart => exact HST.out
  case round =>
    obtain ⟨i, p, acc, C, hg, hi, rfl, hCF, hC2, hbd, hat, hbel, hlen, hp1, hp2, hsz2⟩ := hrel
    have hz : (bs l).size ≤ 65536 := by omega
    have hN12 : 12 ≤ N := by have := HN.out; omega
    have hlw := HL.out.below hbel hN12
    have k0 : wr.cell? ⟨N + 1, 0, none⟩ = some (.int .i64 (p.1 : Int)) := by rw [Lib.cell_of_heap hat]; rfl
    have k1 : wr.cell? ⟨N + 1, 1, none⟩ = some (.int .i64 (p.2 : Int)) := by rw [Lib.cell_of_heap hat]; rfl
    have hBd := Lib.hid hbd
    have HAt := Lib.hid hat
    have HBel := Lib.hid hbel
    have HC2 := Lib.hid hC2
    by_cases hlt : i < l.length
    · have hne : l.drop i ≠ [] := by intro h; have := congrArg List.length h; rw [List.length_drop] at this; simp at this; omega
      have hch := character_any l hl i hlt p wr hlw (by have := hbel.size; have := HN.out; omega)
      have hlts : (i : Int) < ((bs l).size : Int) := by omega
      cases hc : ch1 (l.drop i) with
      | error er =>
        rw [hc] at hch
        have hre : R = .error (er, p) := hCF.symm.trans (CF_err hne hc)
        have HRE := Lib.hid hre
        clear hre hCF hc hne hlw hbd hat hbel hC2
        go_wp2_with (go_at_call 33; refine hch.mono ?_; rintro e w1 ⟨⟨fb, rfl, hfc⟩, hfb⟩)
        refine ⟨rfl, ?_⟩
        rw [HRE.out]
        exact ⟨⟨_, rfl, hfc⟩, HBel.out.trans (hfb.mono (by omega))⟩
      | ok q =>
        obtain ⟨c, n⟩ := q
        rw [hc] at hch
        obtain ⟨n1, n2, hs, hen⟩ := ch1_ok hc
        rw [List.length_drop] at n2
        have hre : CF (l.drop (i + n)) (K.adv p c) (acc ++ [c]) = R := by rw [← hCF, CF_ok hne hc, List.drop_drop]
        have hws : ∀ W, Below wr.heap.size wr W → Calls Tryz.prog 34 #[.pointer (some ⟨N, 0, none⟩), .string (bs (U.enc c))] W fun e w' => e = .returned (.tuple #[.int .i64 (bs (U.enc c)).size, .nilIface]) ∧ Wrote N N 0 55 C (Lib.byteCells (U.n8 acc)) (Lib.byteCells (U.enc c)) W w' := by
          intro W hW
          refine writeString_any N N 0 55 C _ _ W (hbd.bel hW) ?_ (by have := hW.size; have := hbel.size; have := HN.out; omega)
          rw [Lib.byteCells_length, bs_size]
          omega
        have hbh := behind_any (U.enc c) (by omega) p (by omega) (by omega)
        rw [K.advB_enc c p hs] at hbh
        have hadv := adv_le (c := c) hp1 hp2 (by omega)
        have HWS := Lib.hid hws
        have HBH := Lib.hid hbh
        have HRE := Lib.hid hre
        have hsi : i + n ≤ 65536 := by omega
        obtain ⟨q, hq⟩ : ∃ q, K.adv p c = q := ⟨_, rfl⟩
        rw [hq] at HBH HRE hadv
        clear hre hCF hc hne hlw hbd hat hbel hC2 hws hbh hq
        go_wp2_with (first
          | (go_at_call 33; refine hch.mono ?_; rintro e w1 ⟨rfl, hb1⟩; have hwc := HWS.out _ hb1; have HB1 := Lib.hid hb1; clear hb1)
          | (go_at_call 34; refine hwc.mono ?_; rintro e w2 ⟨rfl, v2, hbd2, hbel2, hoth2⟩; have hat2 := hoth2 (N + 1) _ (Below.keep HB1.out HAt.out) (by simp) (by intro c' f' h; cases h); have j0 : w2.cell? ⟨N + 1, 0, none⟩ = some (.int .i64 (p.1 : Int)) := (by rw [Lib.cell_of_heap hat2]; rfl); have j1 : w2.cell? ⟨N + 1, 1, none⟩ = some (.int .i64 (p.2 : Int)) := (by rw [Lib.cell_of_heap hat2]; rfl); have HBd2 := Lib.hid hbd2; have HBel2 := Lib.hid hbel2; have HAt2 := Lib.hid hat2; clear hbd2 hbel2 hoth2 hat2; have hbc := HBH.out w2)
          | (go_at_call 35; refine hbc.mono ?_; rintro e w3 ⟨rfl, hb3⟩; have hat3 := Below.keep hb3 HAt2.out; have i0 : w3.cell? ⟨N + 1, 0, none⟩ = some (.int .i64 (p.1 : Int)) := (by rw [Lib.cell_of_heap hat3]; rfl); have i1 : w3.cell? ⟨N + 1, 1, none⟩ = some (.int .i64 (p.2 : Int)) := (by rw [Lib.cell_of_heap hat3]; rfl); have f0 : w3.frozen? ⟨N + 1, 0, none⟩ = false := Lib.frozen_of_heap hat3 _; have f1 : w3.frozen? ⟨N + 1, 1, none⟩ = false := Lib.frozen_of_heap hat3 _; have HAt3 := Lib.hid hat3; have HB3 := Lib.hid hb3; clear hat3 hb3))
        go_roundg (l.length - (i + n))
        case measure => omega
        case rel =>
          have hbd3 := HBd2.out.bel HB3.out
          rw [← Lib.byteCells_append, ← one_n8, ← U.n8_append] at hbd3
          have hbel3 : Below N w w3 := ((HBel.out.trans (HB1.out.mono (by omega))).trans HBel2.out).trans (HB3.out.mono (by have := HB1.out.size; have := HBel2.out.size; omega))
          refine ⟨i + n, q, acc ++ [c], _, rfl, by omega, by go_num, HRE.out, ?_, (hbd3.far HAt3.out (by omega) _).far (heap_set HAt3.out 0 _) (by omega) _, ?_, (hbel3.setCell (p := ⟨N + 1, 0, none⟩) (by simp) _).setCell (p := ⟨N + 1, 1, none⟩) (by simp) _, ?_, ?_, ?_, ?_⟩
          · simp only [Array.size_setIfInBounds]; exact HC2.out
          · rw [heap_set (heap_set HAt3.out 0 _) 1 _]; simp
          · rw [U.n8_append, List.length_append, one_n8]; omega
          · omega
          · omega
          · have h1 := HB1.out.size
            have h2 := HBel2.out.size
            have h3 := HB3.out.size
            have := lt_of_heap HAt3.out
            simp only [World.setCell, Array.size_modify]
            exact this
    · have hie : i = l.length := by omega
      have hre : R = .ok acc := by rw [← hCF, hie, List.drop_length, CF_nil]
      have HRE := Lib.hid hre
      have hst : Calls Tryz.prog 36 #[.pointer (some ⟨N, 0, none⟩)] wr fun e w' => e = .returned (.string (bs (U.n8 acc))) ∧ Below N wr w' := by
        refine (Tryz.Builder_String_any_f N N (U.n8 acc) wr (bd_isBuilder hbd hC2) (by omega)).mono ?_
        rintro e w' ⟨rfl, _, hb⟩
        exact ⟨rfl, hb⟩
      have hge : (((bs l).size : Int)) ≤ (i : Int) := by omega
      clear hre hCF hlw hbd hat hbel hC2 hie
      go_wp2_with (go_at_call 36; refine hst.mono ?_; rintro e w1 ⟨rfl, hb1⟩)
      go_ret
      rw [HRE.out]
      exact ⟨rfl, HBel.out.trans hb1⟩
end Go.Proofs.YtdilngjolhmjnaaGreatDoor
namespace Go.Proofs.YtdilngjolhmjnaaGreatDoor
open Go.RowKit Go.Shelf
set_option linter.all false

/-- Each 10 written otherwise. -/
def tl (q : List UInt8) (l : List UInt8) : List UInt8 := l.flatMap fun b => if b = 10 then q else [b]
theorem tl_nil (q : List UInt8) : tl q [] = [] := rfl
theorem tl_cons (q : List UInt8) (b : UInt8) (l : List UInt8) : tl q (b :: l) = (if b = 10 then q else [b]) ++ tl q l := rfl
theorem tl_ten (q : List UInt8) (l : List UInt8) : tl q (10 :: l) = q ++ tl q l := by rw [tl_cons, if_pos rfl]
theorem tl_other (q : List UInt8) {b : UInt8} (h : b ≠ 10) (l : List UInt8) : tl q (b :: l) = b :: tl q l := by rw [tl_cons, if_neg h]; rfl
theorem tl_append (q a b : List UInt8) : tl q (a ++ b) = tl q a ++ tl q b := List.flatMap_append
theorem tl_high (q : List UInt8) : ∀ (e : List UInt8), (∀ x ∈ e, 128 ≤ x.toNat) → ∀ l, tl q (e ++ l) = e ++ tl q l
  | [], _, l => rfl
  | x :: e, h, l => by
    have hx := h x List.mem_cons_self
    have : x ≠ 10 := by rintro rfl; exact absurd hx (by decide)
    rw [List.cons_append, tl_other q this, tl_high q e (fun y hy => h y (List.mem_cons_of_mem _ hy)) l]
    rfl
theorem tl_back {q : List UInt8} (hq : ∃ q', q = 13 :: q') : ∀ (e : List UInt8), (∀ x ∈ e, 128 ≤ x.toNat) → ∀ (l x : List UInt8), tl q l = e ++ x → ∃ l', l = e ++ l' ∧ x = tl q l'
  | [], _, l, x, h => ⟨l, rfl, h.symm⟩
  | y :: e, hy, l, x, h => by
    have h1 := hy y List.mem_cons_self
    cases l with
    | nil => cases h
    | cons b r =>
      by_cases hb : b = 10
      · subst hb
        obtain ⟨q', rfl⟩ := hq
        rw [tl_ten] at h
        simp only [List.cons_append, List.cons.injEq] at h
        rw [← h.1] at h1
        exact absurd h1 (by decide)
      · rw [tl_other q hb] at h
        simp only [List.cons_append, List.cons.injEq] at h
        obtain ⟨rfl, h2⟩ := h
        obtain ⟨l', rfl, h3⟩ := tl_back hq e (fun z hz => hy z (List.mem_cons_of_mem _ hz)) r x h2
        exact ⟨l', rfl, h3⟩
theorem enc_head {c : Nat} {b : UInt8} {t r x : List UInt8} (h : b :: r = U.enc c ++ x) (hs : U.scalar c) (hb : 128 ≤ b.toNat) : ∀ y ∈ U.enc c, 128 ≤ y.toNat := by
  have hc : 128 ≤ c := by
    rcases Nat.lt_or_ge c 128 with hc | hc
    · rw [K.enc_low hc] at h
      simp only [List.cons_append, List.nil_append, List.cons.injEq] at h
      rw [h.1, K.toNat_ofNat (by omega)] at hb
      omega
    · exact hc
  exact K.enc_high_all hc hs
theorem ch1_high {l : List UInt8} {c n : Nat} (hd : U.dec l = (c, n + 1)) (hc : c ≠ 13) : ch1 l = if K.allowed c then .ok (c, n + 1) else .error 20 := by
  unfold ch1
  rw [hd]
  simp [hc]
theorem ch1_none {l : List UInt8} {c : Nat} (hd : U.dec l = (c, 0)) : ch1 l = .error 10 := by
  unfold ch1
  rw [hd]
  rfl
theorem drop_enc {c n : Nat} (h : (U.enc c).length = n + 1) (x : List UInt8) : (U.enc c ++ x).drop (n + 1) = x := by rw [← h, List.drop_left]
/-- The characters are the same. -/
theorem CF_tl {q : List UInt8} (hq : q = [13] ∨ q = [13, 10]) : ∀ (m : Nat) (l : List UInt8), l.length ≤ m → (∀ x ∈ l, x ≠ 13) → ∀ (p : K.Pl) (acc : List Nat), CF (tl q l) p acc = CF l p acc
  | m, [], _, _, p, acc => by rw [tl_nil]
  | 0, b :: r, h, _, _, _ => by simp at h
  | m + 1, b :: r, h, h13, p, acc => by
    have hq1 : ∃ q', q = 13 :: q' := by rcases hq with rfl | rfl; exact ⟨_, rfl⟩; exact ⟨_, rfl⟩
    have hr : r.length ≤ m := by simpa using h
    have hr13 : ∀ x ∈ r, x ≠ 13 := fun x hx => h13 x (List.mem_cons_of_mem _ hx)
    have hb13 : b ≠ 13 := h13 b List.mem_cons_self
    by_cases hb : b = 10
    · subst hb
      have e1 : ch1 (10 :: r) = .ok (10, 1) := by
        rw [ch1_high (c := 10) (n := 0) (U.dec_ascii (10 :: r) (by simp) (by show 10 < 128; decide)) (by decide)]
        rfl
      rw [CF_ok (by simp) e1, tl_ten]
      have e2 : ∀ (u : List UInt8), ch1 (13 :: u) = .ok (10, if u.head? = some 10 then 2 else 1) := by
        intro u
        unfold ch1
        rw [dec_13]
        rfl
      rcases hq with rfl | rfl
      · have hh : (tl [13] r).head? ≠ some 10 := by
          cases r with
          | nil => simp [tl]
          | cons y r2 =>
            by_cases hy : y = 10
            · subst hy; rw [tl_ten]; show some (13 : UInt8) ≠ some 10; decide
            · rw [tl_other _ hy]; simpa using hy
        have e3 : ch1 ([13] ++ tl [13] r) = .ok (10, 1) := by
          show ch1 (13 :: tl [13] r) = _
          rw [e2, if_neg hh]
        rw [CF_ok (by simp) e3]
        exact CF_tl (.inl rfl) m r hr hr13 _ _
      · have e3 : ch1 ([13, 10] ++ tl [13, 10] r) = .ok (10, 2) := by
          show ch1 (13 :: 10 :: tl [13, 10] r) = _
          rw [e2]
          rfl
        rw [CF_ok (by simp) e3]
        exact CF_tl (.inr rfl) m r hr hr13 _ _
    · rw [tl_other q hb]
      by_cases hlow : b.toNat < 128
      · have d1 : U.dec (b :: r) = (b.toNat, 1) := U.dec_ascii (b :: r) (by simp) hlow
        have d2 : U.dec (b :: tl q r) = (b.toNat, 1) := U.dec_ascii (b :: tl q r) (by simp) hlow
        have hn13 : b.toNat ≠ 13 := fun e => hb13 (UInt8.toNat_inj.1 e)
        have c1 := ch1_high (n := 0) d1 hn13
        have c2 := ch1_high (n := 0) d2 hn13
        cases ha : K.allowed b.toNat with
        | false =>
          rw [ha, if_neg (by decide)] at c1 c2
          rw [CF_err (by simp) c1, CF_err (by simp) c2]
        | true =>
          rw [ha, if_pos rfl] at c1 c2
          rw [CF_ok (by simp) c1, CF_ok (by simp) c2]
          exact CF_tl hq m r hr hr13 _ _
      · have hhigh : 128 ≤ b.toNat := by omega
        obtain ⟨c, n, hd⟩ : ∃ c n, U.dec (b :: r) = (c, n) := ⟨_, _, rfl⟩
        cases n with
        | succ n =>
          obtain ⟨hs, hel, hsp⟩ := U.enc_dec _ c n hd
          have hall := enc_head (t := []) hsp hs hhigh
          have hc13 : c ≠ 13 := by
            rintro rfl
            exact absurd (hall 13 (by show (13 : UInt8) ∈ [13]; simp)) (by decide)
          obtain ⟨l', hl'⟩ : ∃ l', (b :: r).drop (n + 1) = l' := ⟨_, rfl⟩
          rw [hl'] at hsp
          have ht : b :: tl q r = U.enc c ++ tl q l' := by rw [← tl_other q hb, hsp, tl_high q _ hall]
          have hd2 : U.dec (b :: tl q r) = (c, n + 1) := by rw [ht, U.dec_enc c _ hs, hel]
          have c1 := ch1_high hd hc13
          have c2 := ch1_high hd2 hc13
          have hl2 : l'.length ≤ m := by
            have := congrArg List.length hsp
            rw [List.length_append, hel] at this
            simp only [List.length_cons] at this
            omega
          have h132 : ∀ x ∈ l', x ≠ 13 := by
            intro x hx
            refine h13 x ?_
            rw [hsp]
            exact List.mem_append_right _ hx
          cases ha : K.allowed c with
          | false =>
            rw [ha, if_neg (by decide)] at c1 c2
            rw [CF_err (by simp) c1, CF_err (by simp) c2]
          | true =>
            rw [ha, if_pos rfl] at c1 c2
            rw [CF_ok (by simp) c1, CF_ok (by simp) c2, hl', ht, drop_enc hel]
            exact CF_tl hq m l' hl2 h132 _ _
        | zero =>
          have c1 := ch1_none hd
          obtain ⟨c2, n2, hd2⟩ : ∃ c n, U.dec (b :: tl q r) = (c, n) := ⟨_, _, rfl⟩
          cases n2 with
          | zero => rw [CF_err (by simp) c1, CF_err (by simp) (ch1_none hd2)]
          | succ n2 =>
            exfalso
            obtain ⟨hs, hel, hsp⟩ := U.enc_dec _ c2 n2 hd2
            have hall := enc_head (t := []) hsp hs hhigh
            rw [← tl_other q hb] at hsp
            obtain ⟨l', hl', _⟩ := tl_back hq1 _ hall _ _ hsp
            rw [hl', U.dec_enc c2 _ hs, hel] at hd
            simp at hd
theorem tl_length (q : List UInt8) (hq : q.length ≤ 2) : ∀ (l : List UInt8), (tl q l).length ≤ 2 * l.length
  | [] => by simp [tl]
  | b :: r => by
    have := tl_length q hq r
    rw [tl_cons, List.length_append, List.length_cons]
    split
    · omega
    · simp only [List.length_cons, List.length_nil]; omega
end Go.Proofs.YtdilngjolhmjnaaGreatDoor
