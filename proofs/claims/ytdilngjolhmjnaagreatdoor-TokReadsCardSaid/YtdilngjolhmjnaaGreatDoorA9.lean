/- Blanks as spaces: xmltok.spaced, strings.Map with it on characters; what a value is, chunk by chunk. Conditions: those that each theorem names. What a value is, character by character and chunk by chunk: on lists; and what keeps a Builder beside the reader. Conditions: those that each theorem names. The reader takes a value. Conditions: those that each theorem names. -/
import Derived.Test.YtdilngjolhmjnaaGreatDoorA8
import Derived.Shelf.Strings.MapAny
import Derived.Lib.MapLaws
import Derived.Deep.LoopGhost
namespace Go.Proofs.YtdilngjolhmjnaaGreatDoor
open Go.RowKit Go.Shelf
set_option linter.all false

theorem runeCells_enc (c : Nat) (h : U.scalar c) : Lib.runeCells (c : Int) = Lib.byteCells (U.enc c) := by
  unfold U.scalar at h
  unfold Lib.runeCells Lib.byteCells U.enc
  by_cases h1 : c < 128
  · rw [Lib.encodeRuneZ_one (by omega) (by omega), if_pos h1]
    simp only [List.map_cons, List.map_nil, U.ofNat_toNat c (by omega)]
  · by_cases h2 : c < 2048
    · rw [Lib.encodeRuneZ_two (by omega) (by omega), if_neg h1, if_pos h2]
      simp only [List.map_cons, List.map_nil, U.ofNat_toNat (192 + c / 64) (by omega), U.ofNat_toNat (128 + c % 64) (by omega)]
      rfl
    · by_cases h3 : c < 65536
      · rw [Lib.encodeRuneZ_three (by omega), if_neg h1, if_neg h2, if_pos h3]
        simp only [List.map_cons, List.map_nil, U.ofNat_toNat (224 + c / 4096) (by omega), U.ofNat_toNat (128 + c / 64 % 64) (by omega), U.ofNat_toNat (128 + c % 64) (by omega)]
        rfl
      · rw [Lib.encodeRuneZ_four (by omega) (by omega), if_neg h1, if_neg h2, if_neg h3]
        simp only [List.map_cons, List.map_nil, U.ofNat_toNat (240 + c / 262144) (by omega), U.ofNat_toNat (128 + c / 4096 % 64) (by omega), U.ofNat_toNat (128 + c / 64 % 64) (by omega), U.ofNat_toNat (128 + c % 64) (by omega)]
        rfl
theorem byteCells_inj : ∀ {a b : List UInt8}, Lib.byteCells a = Lib.byteCells b → a = b
  | [], [], _ => rfl
  | [], _ :: _, h => by simp [Lib.byteCells] at h
  | _ :: _, [], h => by simp [Lib.byteCells] at h
  | x :: a, y :: b, h => by
    simp only [Lib.byteCells, List.map_cons, List.cons.injEq, Value.int.injEq, true_and] at h
    have h1 : x.toNat = y.toNat := by omega
    rw [UInt8.toNat_inj.1 h1, byteCells_inj h.2]
theorem encodeRune_enc (c : Nat) (h : U.scalar c) : Lib.encodeRune (c : Int) = U.enc c := byteCells_inj (by rw [Lib.byteCells_encodeRune, runeCells_enc c h])
theorem enc_len4 (c : Nat) : (U.enc c).length ≤ 4 := by
  rw [U.enc_length]
  repeat' split
  all_goals omega
theorem n8_len4 : ∀ (l : List Nat), (U.n8 l).length ≤ 4 * l.length
  | [] => by simp [U.n8]
  | c :: l => by
    have := enc_len4 c
    have ih := n8_len4 l
    rw [U.n8_cons, List.length_append, List.length_cons]
    omega

def sp (c : Nat) : Nat := if K.blank c then 32 else c
def spZ (z : Int) : Int := if z = 9 ∨ z = 10 ∨ z = 32 then 32 else z
theorem spZ_nat (c : Nat) : spZ (c : Int) = (sp c : Int) := by
  unfold spZ sp K.blank
  by_cases h : c = 9 ∨ c = 10 ∨ c = 32
  · rw [if_pos (by omega)]
    rw [if_pos (by simp; omega)]
    rfl
  · rw [if_neg (by omega)]
    rw [if_neg (by simp; omega)]
theorem sp_scalar {c : Nat} (h : U.scalar c) : U.scalar (sp c) := by
  unfold sp
  split
  · exact .inl (by decide)
  · exact h
theorem spaced_any (c : Nat) (h : c ≤ 1114111) (w : World) : Calls Tryz.prog 111 #[.int .i32 (c : Int)] w fun e w' => e = .returned (.int .i32 (spZ (c : Int))) ∧ w = w' := by
  have hb := isBlank_any c (by omega)
  rw [spZ_nat]
  have he : sp c = if K.blank c then 32 else c := rfl
  rw [he]
  cases hk : K.blank c with
  | true =>
    rw [hk] at hb
    clear he hk
    go_enter Tryz.func111, Tryz.ntmps111
    go_wp2_with (go_at_call 60; refine (hb _).mono ?_; rintro e w' ⟨rfl, rfl⟩)
    go_ret
    exact ⟨rfl, rfl⟩
  | false =>
    rw [hk] at hb
    clear he hk
    go_enter Tryz.func111, Tryz.ntmps111
    go_wp2_with (go_at_call 60; refine (hb _).mono ?_; rintro e w' ⟨rfl, rfl⟩)
    go_ret
    exact ⟨rfl, rfl⟩
theorem decodeL_enc (c : Nat) (r : List UInt8) (h : U.scalar c) : Lib.decodeL (U.enc c ++ r) = (c, (U.enc c).length) := by
  have hp := U.enc_pos c
  have hne : U.enc c ++ r ≠ [] := by intro e; have := congrArg List.length e; rw [List.length_append, List.length_nil] at this; omega
  have h1 := decodeGo_bs _ hne
  rw [decL_enc c r h] at h1
  rw [← h1]
  unfold Lib.decodeGo Lib.decodeL bs
  rw [if_neg]
  show ¬ ((U.enc c ++ r).toArray).size = 0
  simp
  intro e
  rw [e] at hp
  simp at hp
theorem mapD_n8 : ∀ (l : List Nat), K.Sc l → Lib.mapD spZ (U.n8 l) = U.n8 (l.map sp)
  | [], _ => rfl
  | c :: l, hs => by
    have hne : U.n8 (c :: l) ≠ [] := fun e => by have := K.n8_eq_nil.1 e; cases this
    rw [Lib.mapD_step spZ _ hne, U.n8_cons, decodeL_enc c _ hs.head]
    simp only
    rw [spZ_nat, if_pos (by omega), encodeRune_enc _ (sp_scalar hs.head), List.drop_left' rfl, mapD_n8 l hs.tail, List.map_cons, U.n8_cons]

theorem map_any (l : List Nat) (hs : K.Sc l) (hl : (U.n8 l).length ≤ 65536) (w : World) (h : Low w) :
    Calls Tryz.prog 110 #[.func (.func 111) #[] #[], .string (bs (U.n8 l))] w fun e w' => e = .returned (.string (bs (U.n8 (l.map sp)))) ∧ Below w.heap.size w w' := by
  have hsz := bs_size (U.n8 l)
  refine (Tryz.strings_Map_runes 111 #[] (enters_of Tryz.func111 (by kernel_rfl) rfl) spZ (bs (U.n8 l)) w (by omega) ?_ ?_ h.tabs).mono ?_
  · intro W x hx _
    refine (spaced_any x hx W).mono ?_
    rintro e w' ⟨rfl, rfl⟩
    exact ⟨rfl, 0, rfl⟩
  · intro x hx
    rw [spZ_nat]
    unfold sp
    split <;> omega
  · rintro e w' ⟨rfl, hb⟩
    rw [bs_list, mapD_n8 l hs]
    exact ⟨rfl, hb⟩
end Go.Proofs.YtdilngjolhmjnaaGreatDoor
namespace Go.Proofs.YtdilngjolhmjnaaGreatDoor
open Go.RowKit Go.Shelf
set_option linter.all false

def VF (m : Nat) (s : K.St) (acc : List Nat) : Except K.Er (List Nat × K.St) := K.valueF m (s.1.length + 1) s acc
theorem ref_short {r : List Nat} {p : K.Pl} {c d : Nat} {s : K.St} (h : K.reference (c :: r, p) = .ok (d, s)) : s.1.length < r.length + 1 := by
  unfold K.reference at h
  cases hr : K.refOf (c :: r, p).1.tail with
  | none => rw [hr] at h; cases h
  | some q =>
    obtain ⟨v, n⟩ := q
    rw [hr] at h
    simp only [Except.ok.injEq, Prod.mk.injEq] at h
    obtain ⟨_, rfl⟩ := h
    have hn : 2 ≤ n := by
      unfold K.refOf at hr
      split at hr
      · cases hr
      · split at hr
        · cases hr
        · simp only [Option.some.injEq, Prod.mk.injEq] at hr; omega
    show ((c :: r).drop n).length < _
    rw [List.length_drop, List.length_cons]
    omega
theorem valueF_fuel (m : Nat) : ∀ (n : Nat) (s : K.St) (acc : List Nat) (f g : Nat), s.1.length ≤ n → s.1.length < f → s.1.length < g → K.valueF m f s acc = K.valueF m g s acc
  | n, ([], p), acc, f, g, hn, hf, hg => by
    cases f with
    | zero => simp at hf
    | succ f =>
      cases g with
      | zero => simp at hg
      | succ g => rfl
  | 0, (c :: r, p), acc, f, g, hn, hf, hg => by simp at hn
  | n + 1, (c :: r, p), acc, f, g, hn, hf, hg => by
    cases f with
    | zero => simp at hf
    | succ f =>
      cases g with
      | zero => simp at hg
      | succ g =>
        simp only [List.length_cons] at hn hf hg
        unfold K.valueF
        split
        · rfl
        · split
          · cases hr : K.reference (c :: r, p) with
            | error e => rfl
            | ok q =>
              obtain ⟨d, s1⟩ := q
              have hs := ref_short hr
              exact valueF_fuel m n s1 _ f g (by omega) (by omega) (by omega)
          · split
            · rfl
            · exact valueF_fuel m n (r, K.adv p c) _ f g (by show r.length ≤ n; omega) (by show r.length < f; omega) (by show r.length < g; omega)
theorem VF_nil (m : Nat) (p : K.Pl) (acc : List Nat) : VF m ([], p) acc = .error (21, p) := rfl
theorem VF_mark (m : Nat) (r : List Nat) (p : K.Pl) (acc : List Nat) : VF m (m :: r, p) acc = .ok (acc, (r, K.adv p m)) := by
  unfold VF K.valueF
  rw [if_pos rfl]
theorem VF_ref (m : Nat) (hm : m ≠ 38) (r : List Nat) (p : K.Pl) (acc : List Nat) : VF m (38 :: r, p) acc = match K.reference (38 :: r, p) with
    | .ok (d, s) => VF m s (acc ++ [d])
    | .error e => .error e := by
  show K.valueF m ((38 :: r).length + 1) (38 :: r, p) acc = _
  unfold K.valueF
  rw [if_neg (fun h => hm h.symm), if_pos rfl]
  cases hr : K.reference (38 :: r, p) with
  | error e => rfl
  | ok q =>
    obtain ⟨d, s1⟩ := q
    have hs := ref_short hr
    exact valueF_fuel m _ s1 _ _ _ (Nat.le_refl _) (by simp; omega) (by omega)
theorem VF_lt (m : Nat) (hm : m ≠ 60) (r : List Nat) (p : K.Pl) (acc : List Nat) : VF m (60 :: r, p) acc = .error (21, p) := by
  unfold VF K.valueF
  rw [if_neg (fun h => hm h.symm), if_neg (by decide), if_pos rfl]
theorem VF_one (m : Nat) (c : Nat) (h1 : c ≠ m) (h2 : c ≠ 38) (h3 : c ≠ 60) (r : List Nat) (p : K.Pl) (acc : List Nat) : VF m (c :: r, p) acc = VF m (r, K.adv p c) (acc ++ [sp c]) := by
  show K.valueF m ((c :: r).length + 1) (c :: r, p) acc = _
  unfold K.valueF
  rw [if_neg h1, if_neg h2, if_neg h3]
  exact valueF_fuel m _ (r, K.adv p c) _ _ _ (Nat.le_refl _) (by simp) (by simp)
theorem VF_chunk (m : Nat) : ∀ (a r : List Nat) (p : K.Pl) (acc : List Nat), (∀ c ∈ a, c ≠ m ∧ c ≠ 38 ∧ c ≠ 60) → VF m (a ++ r, p) acc = VF m (r, K.advs p a) (acc ++ a.map sp)
  | [], r, p, acc, _ => by simp [K.advs]
  | c :: a, r, p, acc, h => by
    obtain ⟨h1, h2, h3⟩ := h c List.mem_cons_self
    rw [List.cons_append, VF_one m c h1 h2 h3, VF_chunk m a r _ _ (fun x hx => h x (List.mem_cons_of_mem _ hx)), K.advs_cons]
    simp
theorem allowed_scalar {v : Nat} (h : (K.allowed v || decide (v = 13)) = true) : U.scalar v := by
  unfold U.scalar
  unfold K.allowed at h
  split at h
  · left; omega
  · simp at h; omega
theorem numIn_scalar {base : Nat} {l : List Nat} {v : Nat} (h : K.numIn base l = some v) : U.scalar v := by
  unfold K.numIn at h
  split at h
  · cases h
  · split at h
    · cases h
    · split at h
      · cases h; exact allowed_scalar (by assumption)
      · cases h
theorem meant_scalar {l : List Nat} {v : Nat} (h : K.meant l = some v) : U.scalar v := by
  unfold K.meant at h
  repeat' split at h
  all_goals first
    | (cases h; exact .inl (by decide))
    | (unfold K.numOf at h; split at h <;> exact numIn_scalar h)
    | cases h
theorem ref_scalar {s s1 : K.St} {d : Nat} (h : K.reference s = .ok (d, s1)) : U.scalar d := by
  unfold K.reference at h
  cases hr : K.refOf s.1.tail with
  | none => rw [hr] at h; cases h
  | some q =>
    obtain ⟨v, n⟩ := q
    rw [hr] at h
    simp only [Except.ok.injEq, Prod.mk.injEq] at h
    obtain ⟨rfl, _⟩ := h
    unfold K.refOf at hr
    split at hr
    · cases hr
    · split at hr
      · cases hr
      · rename_i hm
        simp only [Option.some.injEq, Prod.mk.injEq] at hr
        obtain ⟨rfl, _⟩ := hr
        exact meant_scalar hm
theorem sees_one (a c : Nat) (r : List Nat) (p : K.Pl) : K.sees [a] (c :: r, p) = (a == c) := by simp [K.sees, List.isPrefixOf]
theorem sees_nil (a : Nat) (p : K.Pl) : K.sees [a] ([], p) = false := rfl

/-- What a step of the reader leaves of a Builder beside it. -/
theorem BdAt.bar {B b vb o T : Nat} {C : Array Value} {xs : List Value} {w w' : World} (h : BdAt B vb o T C xs w) (k : Bar b w w') (hb : b < B) : BdAt B vb o T C xs w' := by
  obtain ⟨hB, hk, hbk, ha, v, hv, hown⟩ := h
  have hlt := lt_of_heap hbk
  refine ⟨hB, hk, (k.block vb hlt (by omega)).trans hbk, ha, v, hv, hown.kept (row := some b) ⟨k.os, k.tape, k.output, k.size, fun i hi hn => k.block i hi (fun e => hn (by rw [e]))⟩ ?_⟩
  right
  intro e
  have := (hown.lt b e).1
  omega
theorem Bar.belN {b : Nat} {w w1 w2 : World} (h : Bar b w w1) (k : Below w.heap.size w1 w2) : Bar b w w2 :=
  ⟨k.os.trans h.os, k.tape.trans h.tape, k.output.trans h.output, Nat.le_trans h.size k.size, fun i hi hb => (k.block i hi).trans (h.block i hi hb)⟩
theorem Env.belN {b m : Nat} {x : X6} {w w' : World} {N : Nat} (h : Env b m x w) (k : Below N w w') (hm : m < N) (hN : 12 ≤ N) : Env b m x w' :=
  ⟨h.names, h.lies.keep (k.block m hm), h.low.below k hN, h.hb, h.hm⟩
theorem bd_isBuilder {B vb : Nat} {C : Array Value} {xs : List Value} {w : World} (h : BdAt B vb 0 55 C xs w) (h2 : C.size = 2) : Lib.IsBuilderF 55 5 B vb xs w := by
  obtain ⟨hB, hk, hbk, ha, v, hv, hown⟩ := h
  have hne := bd_ne hk hbk hown
  obtain ⟨p, hp⟩ : ∃ p, C[0]? = some p := ⟨_, Array.getElem?_eq_getElem (by omega)⟩
  have hC : C = #[p, v] := by
    refine Array.ext_getElem? ?_
    intro i
    match i with
    | 0 => rw [hp]; rfl
    | 1 => rw [hv]; rfl
    | i + 2 => rw [Array.getElem?_eq_none (by omega), Array.getElem?_eq_none (by simp)]
  subst hC
  rw [hp] at ha
  rcases ha with ha | ha
  · cases ha; exact .inl ⟨hB, v, hbk, hown, hne⟩
  · cases ha; exact .inr ⟨hB, v, hbk, hown, hne⟩
theorem bd_fresh (w : World) (N : Nat) (hN : N ≤ w.heap.size) : BdAt N w.heap.size 0 55 #[.pointer none, .slice none 0 0] [] (w.alloc (.cells #[.pointer none, .slice none 0 0] 55)) :=
  ⟨hN, kindOwn, heap_new _ _, .inl rfl, _, rfl, World.ownsRowF_nil _ _ _ _⟩
end Go.Proofs.YtdilngjolhmjnaaGreatDoor
namespace Go.Proofs.YtdilngjolhmjnaaGreatDoor
open Go.RowKit Go.Shelf
set_option linter.all false

/-- What stands at each head of the loop. -/
def ValRel (b mm m vb N : Nat) (x : X6) (R : Except K.Er (List Nat × K.St)) (w : World) (g : Nat) (wr : World) : Prop :=
  ∃ (s : K.St) (acc : List Nat) (C : Array Value), s.1.length = g ∧ Rd b s x wr ∧ Env b mm x wr ∧ C.size = 2 ∧ BdAt N vb 0 55 C (Lib.byteCells (U.n8 acc)) wr ∧ VF m s acc = R ∧ Bar b w wr ∧ acc.length + s.1.length ≤ 65536 ∧ K.Sc acc ∧ N ≤ wr.heap.size
theorem ValRel.wrote {b mm m vb N : Nat} {x : X6} {R : Except K.Er (List Nat × K.St)} {w : World} {s : K.St} {acc more : List Nat} {C : Array Value} {w1 w2 : World} (hN : w.heap.size = N)
    (hR : Rd b s x w1) (hE : Env b mm x w1) (h2 : C.size = 2) (hw : Wrote N vb 0 55 C (Lib.byteCells (U.n8 acc)) (Lib.byteCells (U.n8 more)) w1 w2) (hb : Bar b w w1) (hbN : b < N) (hmN : mm < N)
    (hv : VF m s (acc ++ more) = R) (hl : (acc ++ more).length + s.1.length ≤ 65536) (hs : K.Sc (acc ++ more)) (hsz : N ≤ w1.heap.size) : ValRel b mm m vb N x R w s.1.length w2 := by
  obtain ⟨v', hbd, hbel, _⟩ := hw
  rw [← Lib.byteCells_append, ← U.n8_append] at hbd
  have h12 : 12 ≤ N := by have := hE.hb; omega
  exact ⟨s, acc ++ more, _, rfl, rd_below hR hbel hbN, hE.belN hbel hmN h12, by simp [h2], hbd, hv, hb.belN (by rw [hN]; exact hbel), hl, hs, Nat.le_trans hsz hbel.size⟩
theorem n8_some (c : Nat) (r : List Nat) : (bs (U.n8 (c :: r))).toList.isEmpty = false := by
  rw [Lib.toList_data, bs_list]
  cases h : U.n8 (c :: r) with
  | nil => exact absurd (K.n8_eq_nil.1 h) (by simp)
  | cons x t => rfl
theorem one_n8 (c : Nat) : U.n8 [c] = U.enc c := by rw [U.n8_cons]; simp [U.n8]

set_option maxHeartbeats 16000000 in
set_option maxRecDepth 100000 in
theorem value_34 (b mm : Nat) (r0 : List Nat) (p0 : K.Pl) (x : X6) (w : World) (h : Rd b (34 :: r0, p0) x w) (he : Env b mm x w) :
    Calls Tryz.prog 100 #[.pointer (some ⟨b, 0, none⟩)] w (Step b x w strRet (VF 34 (r0, K.adv p0 34) [])) := by
  obtain ⟨N, hN⟩ : ∃ N, w.heap.size = N := ⟨_, rfl⟩
  have hbN : b < N := by rw [← hN]; exact h.lt
  have hmN : mm < N := by rw [← hN]; exact he.lt
  have h39 := sees_any [39] (by unfold Small; decide) b _ x w h ⟨#[39]⟩ rfl
  rw [sees_one] at h39
  have hwant := want_any [34] (by unfold Small; decide) b _ x w h ⟨#[34]⟩ rfl
  have hwr : unitOf (K.want [34] (34 :: r0, p0)) = .ok ((), (r0, K.adv p0 34)) := by
    unfold K.want; rw [sees_one, if_pos (by decide)]; rfl
  rw [hwr] at hwant
  generalize hRR : VF 34 (r0, K.adv p0 34) [] = R
  have HRR := Lib.hid hRR
  have hl0 : r0.length ≤ 65535 := by
    have h1 := K.n8_length_le (34 :: r0)
    have h2 := h.1.len
    simp only [List.length_cons] at h1 h2
    omega
  have HE := Lib.hid he
  have HNN := Lib.hid hN
  clear h hwr hRR he
  have h39' : Calls Tryz.prog 59 #[.pointer (some ⟨b, 0, none⟩), .string ⟨#[39]⟩] w fun e w' => e = .returned (.bool false) ∧ w = w' := h39
  clear h39
  have hnum : Hid (N = N) := Lib.hid rfl
  clear hN
  go_enter Tryz.func100, Tryz.ntmps100
  go_wp2_with (first
    | (go_at_call 59; (with_reducible refine h39'.mono ?_); rintro e w' ⟨rfl, rfl⟩)
    | (go_at_call 88; refine hwant.mono ?_; rintro e w1 ⟨rfl, hR1, hB1⟩; have HR1 := Lib.hid hR1; have HB1 := Lib.hid hB1; clear hR1 hB1))
  have hvb : N ≤ w1.heap.size := by rw [← HNN.out]; exact HB1.out.size
  obtain ⟨vb, hvbe⟩ : ∃ vb, w1.heap.size = vb := ⟨_, rfl⟩
  have HVB := Lib.hid hvbe
  rw [hvbe]
  clear hvbe
  go_loopg [5] r0.length (fun g _ wx => ValRel b mm 34 vb N x R w g wx)
  case atStart =>
    have hA : Below w1.heap.size w1 (w1.alloc (.cells #[.pointer none, .slice none 0 0] 55)) := (Below.refl _ _).alloc (Nat.le_refl _) _
    refine ⟨(r0, K.adv p0 34), [], #[.pointer none, .slice none 0 0], rfl, HR1.out.below hA, (HE.out.bar HB1.out (by rw [HNN.out]; exact hbN)).belN hA (by omega) (by have := HE.out.hb; omega), rfl, ?_, HRR.out, HB1.out.bel hA, by simp; omega, (fun c hc => by cases hc), by rw [heap_size]; omega⟩
    have := bd_fresh w1 N hvb
    rw [HVB.out] at this
    exact this
  case round =>
    obtain ⟨⟨l, p⟩, acc, C, hg, hR, hEn, hC2, hbd, hVF, hBar, hlen, hsc, hsz⟩ := hrel
    have hg : l.length = gk := hg
    have hlen : acc.length + l.length ≤ 65536 := hlen
    have hacc4 := n8_len4 acc
    have hsm : ∀ q : ByteArray, q = bs (K.b8 [34]) → Calls Tryz.prog 59 #[.pointer (some ⟨b, 0, none⟩), .string q] wr fun e w' => e = .returned (.bool (K.sees [34] (l, p))) ∧ wr = w' := fun q hq => sees_any [34] (by unfold Small; decide) b _ x wr hR q hq
    have hs38 : ∀ q : ByteArray, q = bs (K.b8 [38]) → Calls Tryz.prog 59 #[.pointer (some ⟨b, 0, none⟩), .string q] wr fun e w' => e = .returned (.bool (K.sees [38] (l, p))) ∧ wr = w' := fun q hq => sees_any [38] (by unfold Small; decide) b _ x wr hR q hq
    have hs60 : ∀ q : ByteArray, q = bs (K.b8 [60]) → Calls Tryz.prog 59 #[.pointer (some ⟨b, 0, none⟩), .string q] wr fun e w' => e = .returned (.bool (K.sees [60] (l, p))) ∧ wr = w' := fun q hq => sees_any [60] (by unfold Small; decide) b _ x wr hR q hq
    have hsm := hsm ⟨#[34]⟩ rfl
    have hs38 := hs38 ⟨#[38]⟩ rfl
    have hs60 := hs60 ⟨#[60]⟩ rfl
    obtain ⟨c0, c1, c2⟩ := hR.cells
    have HV := Lib.hid hVF
    have HBar := Lib.hid hBar
    have HBd := Lib.hid hbd
    have HEn := Lib.hid hEn
    have HR := Lib.hid hR
    have HSc := Lib.hid hsc
    have HC2 := Lib.hid hC2
    clear hVF hBar hbd hEn hR hsc hC2
    cases l with
    | nil =>
      rw [sees_nil] at hsm hs38 hs60
      have hre : R = .error (21, p) := HV.out.symm.trans (VF_nil _ _ _)
      have HRE := Lib.hid hre
      clear hre
      have hemp : (bs (U.n8 ([] : List Nat))).toList.isEmpty = true := by rw [Lib.toList_data]; rfl
      have c0 : wr.cell? ⟨b, 0, none⟩ = some (.string ⟨#[]⟩) := c0
      have c1 : wr.cell? ⟨b, 1, none⟩ = some (.int .i64 (p.1 : Int)) := c1
      have c2 : wr.cell? ⟨b, 2, none⟩ = some (.int .i64 (p.2 : Int)) := c2
      go_wp2_with (first
        | (go_at_call 59; first | ((with_reducible refine hsm.mono ?_); rintro e w' ⟨rfl, rfl⟩) | ((with_reducible refine hs38.mono ?_); rintro e w' ⟨rfl, rfl⟩) | ((with_reducible refine hs60.mono ?_); rintro e w' ⟨rfl, rfl⟩))
        | (go_at_call 17; refine (fail_lit _ 21 rfl p.1 p.2 _).mono ?_; rintro e w' ⟨⟨fb, rfl, hfc⟩, hfb⟩))
      refine ⟨rfl, ?_⟩
      rw [HRE.out]
      exact ⟨⟨_, rfl, hfc⟩, HBar.out.bel hfb⟩
    | cons c r =>
      rw [sees_one] at hsm hs38 hs60
      simp only [List.length_cons] at hg hlen
      by_cases hcm : c = 34
      · subst hcm
        have hre : R = .ok (acc, (r, K.adv p 34)) := HV.out.symm.trans (VF_mark _ _ _ _)
        have HRE := Lib.hid hre
        clear hre
        have hsm : Calls Tryz.prog 59 #[.pointer (some ⟨b, 0, none⟩), .string ⟨#[34]⟩] wr fun e w' => e = .returned (.bool true) ∧ wr = w' := hsm
        have htk := take_any 1 b (34 :: r, p) x wr HR.out 1 (by simp [one_n8, K.enc_low])
        have hsk : K.skip (34 :: r, p) 1 = (r, K.adv p 34) := K.skip_one _ _ _
        unfold Took at htk
        rw [hsk] at htk
        have hstr : ∀ W, Bar b wr W → Calls Tryz.prog 36 #[.pointer (some ⟨vb, 0, none⟩)] W fun e w' => e = .returned (.string (bs (U.n8 acc))) ∧ Below N W w' := by
          intro W hW
          refine (Tryz.Builder_String_any_f N vb (U.n8 acc) W (bd_isBuilder (HBd.out.bar hW hbN) HC2.out) (Nat.le_trans hsz hW.size)).mono ?_
          rintro e w' ⟨rfl, _, hb⟩
          exact ⟨rfl, hb⟩
        have HS := Lib.hid hstr
        clear hstr hsk hs38 hs60
        go_wp2_with (first
          | (go_at_call 59; refine hsm.mono ?_; rintro e w' ⟨rfl, rfl⟩)
          | (go_at_call 61; refine htk.mono ?_; rintro e w2 ⟨rfl, hR2, hB2⟩; have hst := HS.out _ hB2; have HR2 := Lib.hid hR2; have HB2 := Lib.hid hB2; clear hR2 hB2)
          | (go_at_call 36; refine hst.mono ?_; rintro e w3 ⟨rfl, hb3⟩))
        go_ret
        rw [HRE.out]
        refine ⟨rfl, rd_below HR2.out hb3 hbN, (HBar.out.trans HB2.out).belN (by rw [HNN.out]; exact hb3)⟩
      · have hsm : Calls Tryz.prog 59 #[.pointer (some ⟨b, 0, none⟩), .string ⟨#[34]⟩] wr fun e w' => e = .returned (.bool false) ∧ wr = w' := by
          rw [show (34 == c) = false by simpa using fun h => hcm h.symm] at hsm
          exact hsm
        by_cases hc38 : c = 38
        · subst hc38
          have hs38 : Calls Tryz.prog 59 #[.pointer (some ⟨b, 0, none⟩), .string ⟨#[38]⟩] wr fun e w' => e = .returned (.bool true) ∧ wr = w' := hs38
          have href := reference_any b mm r p x wr HR.out HEn.out
          have hvf := VF_ref 34 (by decide) r p acc
          cases hr : K.reference (38 :: r, p) with
          | error er =>
            rw [hr] at href hvf
            have hre : R = .error er := HV.out.symm.trans hvf
            have HRE := Lib.hid hre
            clear hre hvf hr hs60
            go_wp2_with (first
              | (go_at_call 59; first | ((with_reducible refine hsm.mono ?_); rintro e w' ⟨rfl, rfl⟩) | ((with_reducible refine hs38.mono ?_); rintro e w' ⟨rfl, rfl⟩))
              | (go_at_call 94; refine href.mono ?_; rintro e w' ⟨⟨fb, rfl, hfc⟩, hfb⟩))
            refine ⟨rfl, ?_⟩
            rw [HRE.out]
            exact ⟨⟨_, rfl, hfc⟩, HBar.out.trans hfb⟩
          | ok q =>
            obtain ⟨d, s1⟩ := q
            have hds := ref_scalar hr
            have hshort := ref_short hr
            rw [hr] at href hvf
            have hre : VF 34 s1 (acc ++ [d]) = R := hvf.symm.trans HV.out
            have HRE := Lib.hid hre
            have hd : d ≤ 1114111 := by unfold U.scalar at hds; omega
            have hwr : ∀ W, Bar b wr W → Calls Tryz.prog 109 #[.pointer (some ⟨vb, 0, none⟩), .int .i32 (d : Int)] W fun e w' => e = .returned (.tuple #[.int .i64 (Lib.runeCells (d : Int)).length, .nilIface]) ∧ Wrote N vb 0 55 C (Lib.byteCells (U.n8 acc)) (Lib.byteCells (U.n8 [d])) W w' := by
              intro W hW
              rw [one_n8, ← runeCells_enc d hds]
              refine writeRune_any N vb 0 55 C _ _ (by omega) (by omega) W (HBd.out.bar hW hbN) ?_ (Nat.le_trans hsz hW.size)
              rw [Lib.byteCells_length]
              omega
            have HW := Lib.hid hwr
            have HDS := Lib.hid hds
            clear hre hvf hr hs60 hwr hds
            go_wp2_with (first
              | (go_at_call 59; first | ((with_reducible refine hsm.mono ?_); rintro e w' ⟨rfl, rfl⟩) | ((with_reducible refine hs38.mono ?_); rintro e w' ⟨rfl, rfl⟩))
              | (go_at_call 94; refine href.mono ?_; rintro e w2 ⟨rfl, hR2, hB2⟩; have hwc := HW.out _ hB2; have HR2 := Lib.hid hR2; have HB2 := Lib.hid hB2; clear hR2 hB2)
              | (go_at_call 109; refine hwc.mono ?_; rintro e w3 ⟨rfl, hw3⟩; have HW3 := Lib.hid hw3; clear hw3))
            go_roundg s1.1.length
            case measure => omega
            case rel =>
              exact ValRel.wrote HNN.out HR2.out (HEn.out.bar HB2.out HR.out.lt) HC2.out HW3.out (HBar.out.trans HB2.out) hbN hmN HRE.out (by simp; omega) (HSc.out.append (fun y hy => by simp at hy; subst hy; exact HDS.out)) (Nat.le_trans hsz HB2.out.size)
        · have hs38 : Calls Tryz.prog 59 #[.pointer (some ⟨b, 0, none⟩), .string ⟨#[38]⟩] wr fun e w' => e = .returned (.bool false) ∧ wr = w' := by
            rw [show (38 == c) = false by simpa using fun h => hc38 h.symm] at hs38
            exact hs38
          by_cases hc60 : c = 60
          · subst hc60
            have hs60 : Calls Tryz.prog 59 #[.pointer (some ⟨b, 0, none⟩), .string ⟨#[60]⟩] wr fun e w' => e = .returned (.bool true) ∧ wr = w' := hs60
            have hre : R = .error (21, p) := HV.out.symm.trans (VF_lt 34 (by decide) _ _ _)
            have HRE := Lib.hid hre
            have c1 : wr.cell? ⟨b, 1, none⟩ = some (.int .i64 (p.1 : Int)) := c1
            have c2 : wr.cell? ⟨b, 2, none⟩ = some (.int .i64 (p.2 : Int)) := c2
            clear hre
            go_wp2_with (first
              | (go_at_call 59; first | ((with_reducible refine hsm.mono ?_); rintro e w' ⟨rfl, rfl⟩) | ((with_reducible refine hs38.mono ?_); rintro e w' ⟨rfl, rfl⟩) | ((with_reducible refine hs60.mono ?_); rintro e w' ⟨rfl, rfl⟩))
              | (go_at_call 17; refine (fail_lit _ 21 rfl p.1 p.2 _).mono ?_; rintro e w' ⟨⟨fb, rfl, hfc⟩, hfb⟩))
            refine ⟨rfl, ?_⟩
            rw [HRE.out]
            exact ⟨⟨_, rfl, hfc⟩, HBar.out.bel hfb⟩
          · have hs60 : Calls Tryz.prog 59 #[.pointer (some ⟨b, 0, none⟩), .string ⟨#[60]⟩] wr fun e w' => e = .returned (.bool false) ∧ wr = w' := by
              rw [show (60 == c) = false by simpa using fun h => hc60 h.symm] at hs60
              exact hs60
            have hbef := before_any [60, 38, 34] (by unfold Small; decide) (by decide) (by decide) b (c :: r, p) x wr HR.out ⟨#[60, 38, 34]⟩ rfl
            obtain ⟨a, ha⟩ : ∃ a, notIn [60, 38, 34] (c :: r) = a := ⟨_, rfl⟩
            have hane : ∀ y ∈ a, y ≠ 34 ∧ y ≠ 38 ∧ y ≠ 60 := by
              intro y hy
              rw [← ha] at hy
              have := List.all_eq_true.1 List.all_takeWhile y hy
              simp at this
              omega
            have htk : (c :: r).take a.length = a := by rw [← ha]; exact takeWhile_take _ _
            have hapos : 1 ≤ a.length := by
              rw [← ha]
              show 1 ≤ ((c :: r).takeWhile _).length
              rw [List.takeWhile_cons, if_pos (by simp; omega)]
              simp
            have hale : a.length ≤ r.length + 1 := by have := notIn_len [60, 38, 34] (c :: r); rw [ha] at this; exact this
            have hsplit : c :: r = a ++ (c :: r).drop a.length := by conv => lhs; rw [← List.take_append_drop a.length (c :: r), htk]
            have hvf : VF 34 (K.skip (c :: r, p) a.length) (acc ++ a.map sp) = R := by
              rw [← HV.out]
              conv => rhs; rw [hsplit]
              rw [VF_chunk 34 a _ p acc hane]
              unfold K.skip
              rw [htk]
            have htake := take_any a.length b (c :: r, p) x wr HR.out
            have hsca : K.Sc a := by rw [← htk]; exact HR.out.1.sc.take _
            have han8 : (U.n8 a).length ≤ 65536 := by have h1 := n8_take_le (c :: r) a.length; rw [htk] at h1; have h2 := HR.out.1.len; simp only at h2; omega
            have hmap : ∀ W, Below wr.heap.size wr W ∨ Bar b wr W → Calls Tryz.prog 110 #[.func (.func 111) #[] #[], .string (bs (U.n8 a))] W fun e w' => e = .returned (.string (bs (U.n8 (a.map sp)))) ∧ Below W.heap.size W w' := by
              intro W hW
              have hBW : Bar b wr W := hW.elim Below.bar id
              exact map_any a hsca han8 W (HEn.out.bar hBW HR.out.lt).low
            rw [show (c :: r, p).1 = c :: r from rfl, ha, htk] at hbef
            unfold Took at htake
            rw [show (c :: r, p).1 = c :: r from rfl, htk] at htake
            obtain ⟨L, hL⟩ : ∃ L, (U.n8 a).length = L := ⟨_, rfl⟩
            rw [hL] at hbef htake
            have hLle : L ≤ 65536 := by omega
            have hsc2 : K.Sc (a.map sp) := by
              intro y hy
              obtain ⟨z, hz, rfl⟩ := List.mem_map.1 hy
              exact sp_scalar (hsca z hz)
            have hwr : ∀ W, Bar b wr W → Calls Tryz.prog 34 #[.pointer (some ⟨vb, 0, none⟩), .string (bs (U.n8 (a.map sp)))] W fun e w' => e = .returned (.tuple #[.int .i64 (bs (U.n8 (a.map sp))).size, .nilIface]) ∧ Wrote N vb 0 55 C (Lib.byteCells (U.n8 acc)) (Lib.byteCells (U.n8 (a.map sp))) W w' := by
              intro W hW
              have h4 := n8_len4 (a.map sp)
              rw [List.length_map] at h4
              refine writeString_any N vb 0 55 C _ _ W (HBd.out.bar hW hbN) ?_ (Nat.le_trans hsz hW.size)
              rw [Lib.byteCells_length, bs_size]
              omega
            have hskl : (K.skip (c :: r, p) a.length).1.length = r.length + 1 - a.length := by
              show ((c :: r).drop a.length).length = _
              rw [List.length_drop, List.length_cons]
            have htake2 : ∀ W, Below wr.heap.size wr W → Calls Tryz.prog 61 #[.pointer (some ⟨b, 0, none⟩), .int .i64 (L : Int)] W fun e w' => e = .returned (.string (bs (U.n8 a))) ∧ Rd b (K.skip (c :: r, p) a.length) x w' ∧ Bar b W w' := by
              intro W hW
              have := take_any a.length b (c :: r, p) x W (HR.out.below hW) (L : Int) (by rw [show (c :: r, p).1 = c :: r from rfl, htk, hL])
              unfold Took at this
              rw [show (c :: r, p).1 = c :: r from rfl, htk] at this
              exact this
            have HVF := Lib.hid hvf
            have HT2 := Lib.hid htake2
            have HM := Lib.hid hmap
            have HWR := Lib.hid hwr
            have HS2 := Lib.hid hsc2
            have HSK := Lib.hid hskl
            have hne0 := n8_some c r
            clear hvf htake htake2 hmap hwr hsc2 hskl hsca hane htk hsplit ha hL han8
            go_wp2_with (first
              | (go_at_call 59; first | ((with_reducible refine hsm.mono ?_); rintro e w' ⟨rfl, rfl⟩) | ((with_reducible refine hs38.mono ?_); rintro e w' ⟨rfl, rfl⟩) | ((with_reducible refine hs60.mono ?_); rintro e w' ⟨rfl, rfl⟩))
              | (go_at_call 106; refine hbef.mono ?_; rintro e w2 ⟨rfl, hb2⟩; have ht := HT2.out _ hb2; have HB2 := Lib.hid hb2; clear hb2)
              | (go_at_call 61; refine ht.mono ?_; rintro e w3 ⟨rfl, hR3, hB3⟩; have HB3 := Lib.hid ((Below.bar HB2.out).trans hB3); have HR3 := Lib.hid hR3; clear hR3 hB3; have hmp := HM.out _ (.inr HB3.out))
              | (go_at_call 110; refine hmp.mono ?_; rintro e w4 ⟨rfl, hb4⟩; have HB4 := Lib.hid (HB3.out.bel hb4); have HR4 := Lib.hid (HR3.out.below hb4); clear hb4; have hwc := HWR.out _ HB4.out)
              | (go_at_call 34; refine hwc.mono ?_; rintro e w5 ⟨rfl, hw5⟩; have HW5 := Lib.hid hw5; clear hw5))
            go_roundg (K.skip (c :: r, p) a.length).1.length
            case measure => rw [HSK.out]; omega
            case rel =>
              exact ValRel.wrote HNN.out HR4.out (HEn.out.bar HB4.out HR.out.lt) HC2.out HW5.out (HBar.out.trans HB4.out) hbN hmN HVF.out (by rw [HSK.out]; simp; omega) (HSc.out.append HS2.out) (Nat.le_trans hsz HB4.out.size)

set_option maxHeartbeats 16000000 in
set_option maxRecDepth 100000 in
theorem value_39 (b mm : Nat) (r0 : List Nat) (p0 : K.Pl) (x : X6) (w : World) (h : Rd b (39 :: r0, p0) x w) (he : Env b mm x w) :
    Calls Tryz.prog 100 #[.pointer (some ⟨b, 0, none⟩)] w (Step b x w strRet (VF 39 (r0, K.adv p0 39) [])) := by
  obtain ⟨N, hN⟩ : ∃ N, w.heap.size = N := ⟨_, rfl⟩
  have hbN : b < N := by rw [← hN]; exact h.lt
  have hmN : mm < N := by rw [← hN]; exact he.lt
  have h39 := sees_any [39] (by unfold Small; decide) b _ x w h ⟨#[39]⟩ rfl
  rw [sees_one] at h39
  have hwant := want_any [39] (by unfold Small; decide) b _ x w h ⟨#[39]⟩ rfl
  have hwr : unitOf (K.want [39] (39 :: r0, p0)) = .ok ((), (r0, K.adv p0 39)) := by
    unfold K.want; rw [sees_one, if_pos (by decide)]; rfl
  rw [hwr] at hwant
  generalize hRR : VF 39 (r0, K.adv p0 39) [] = R
  have HRR := Lib.hid hRR
  have hl0 : r0.length ≤ 65535 := by
    have h1 := K.n8_length_le (39 :: r0)
    have h2 := h.1.len
    simp only [List.length_cons] at h1 h2
    omega
  have HE := Lib.hid he
  have HNN := Lib.hid hN
  clear h hwr hRR he
  have h39' : Calls Tryz.prog 59 #[.pointer (some ⟨b, 0, none⟩), .string ⟨#[39]⟩] w fun e w' => e = .returned (.bool true) ∧ w = w' := h39
  clear h39
  have hnum : Hid (N = N) := Lib.hid rfl
  clear hN
  go_enter Tryz.func100, Tryz.ntmps100
  go_wp2_with (first
    | (go_at_call 59; (with_reducible refine h39'.mono ?_); rintro e w' ⟨rfl, rfl⟩)
    | (go_at_call 88; refine hwant.mono ?_; rintro e w1 ⟨rfl, hR1, hB1⟩; have HR1 := Lib.hid hR1; have HB1 := Lib.hid hB1; clear hR1 hB1))
  have hvb : N ≤ w1.heap.size := by rw [← HNN.out]; exact HB1.out.size
  obtain ⟨vb, hvbe⟩ : ∃ vb, w1.heap.size = vb := ⟨_, rfl⟩
  have HVB := Lib.hid hvbe
  rw [hvbe]
  clear hvbe
  go_loopg [5] r0.length (fun g _ wx => ValRel b mm 39 vb N x R w g wx)
  case atStart =>
    have hA : Below w1.heap.size w1 (w1.alloc (.cells #[.pointer none, .slice none 0 0] 55)) := (Below.refl _ _).alloc (Nat.le_refl _) _
    refine ⟨(r0, K.adv p0 39), [], #[.pointer none, .slice none 0 0], rfl, HR1.out.below hA, (HE.out.bar HB1.out (by rw [HNN.out]; exact hbN)).belN hA (by omega) (by have := HE.out.hb; omega), rfl, ?_, HRR.out, HB1.out.bel hA, by simp; omega, (fun c hc => by cases hc), by rw [heap_size]; omega⟩
    have := bd_fresh w1 N hvb
    rw [HVB.out] at this
    exact this
  case round =>
    obtain ⟨⟨l, p⟩, acc, C, hg, hR, hEn, hC2, hbd, hVF, hBar, hlen, hsc, hsz⟩ := hrel
    have hg : l.length = gk := hg
    have hlen : acc.length + l.length ≤ 65536 := hlen
    have hacc4 := n8_len4 acc
    have hsm : ∀ q : ByteArray, q = bs (K.b8 [39]) → Calls Tryz.prog 59 #[.pointer (some ⟨b, 0, none⟩), .string q] wr fun e w' => e = .returned (.bool (K.sees [39] (l, p))) ∧ wr = w' := fun q hq => sees_any [39] (by unfold Small; decide) b _ x wr hR q hq
    have hs38 : ∀ q : ByteArray, q = bs (K.b8 [38]) → Calls Tryz.prog 59 #[.pointer (some ⟨b, 0, none⟩), .string q] wr fun e w' => e = .returned (.bool (K.sees [38] (l, p))) ∧ wr = w' := fun q hq => sees_any [38] (by unfold Small; decide) b _ x wr hR q hq
    have hs60 : ∀ q : ByteArray, q = bs (K.b8 [60]) → Calls Tryz.prog 59 #[.pointer (some ⟨b, 0, none⟩), .string q] wr fun e w' => e = .returned (.bool (K.sees [60] (l, p))) ∧ wr = w' := fun q hq => sees_any [60] (by unfold Small; decide) b _ x wr hR q hq
    have hsm := hsm ⟨#[39]⟩ rfl
    have hs38 := hs38 ⟨#[38]⟩ rfl
    have hs60 := hs60 ⟨#[60]⟩ rfl
    obtain ⟨c0, c1, c2⟩ := hR.cells
    have HV := Lib.hid hVF
    have HBar := Lib.hid hBar
    have HBd := Lib.hid hbd
    have HEn := Lib.hid hEn
    have HR := Lib.hid hR
    have HSc := Lib.hid hsc
    have HC2 := Lib.hid hC2
    clear hVF hBar hbd hEn hR hsc hC2
    cases l with
    | nil =>
      rw [sees_nil] at hsm hs38 hs60
      have hre : R = .error (21, p) := HV.out.symm.trans (VF_nil _ _ _)
      have HRE := Lib.hid hre
      clear hre
      have hemp : (bs (U.n8 ([] : List Nat))).toList.isEmpty = true := by rw [Lib.toList_data]; rfl
      have c0 : wr.cell? ⟨b, 0, none⟩ = some (.string ⟨#[]⟩) := c0
      have c1 : wr.cell? ⟨b, 1, none⟩ = some (.int .i64 (p.1 : Int)) := c1
      have c2 : wr.cell? ⟨b, 2, none⟩ = some (.int .i64 (p.2 : Int)) := c2
      go_wp2_with (first
        | (go_at_call 59; first | ((with_reducible refine hsm.mono ?_); rintro e w' ⟨rfl, rfl⟩) | ((with_reducible refine hs38.mono ?_); rintro e w' ⟨rfl, rfl⟩) | ((with_reducible refine hs60.mono ?_); rintro e w' ⟨rfl, rfl⟩))
        | (go_at_call 17; refine (fail_lit _ 21 rfl p.1 p.2 _).mono ?_; rintro e w' ⟨⟨fb, rfl, hfc⟩, hfb⟩))
      refine ⟨rfl, ?_⟩
      rw [HRE.out]
      exact ⟨⟨_, rfl, hfc⟩, HBar.out.bel hfb⟩
    | cons c r =>
      rw [sees_one] at hsm hs38 hs60
      simp only [List.length_cons] at hg hlen
      by_cases hcm : c = 39
      · subst hcm
        have hre : R = .ok (acc, (r, K.adv p 39)) := HV.out.symm.trans (VF_mark _ _ _ _)
        have HRE := Lib.hid hre
        clear hre
        have hsm : Calls Tryz.prog 59 #[.pointer (some ⟨b, 0, none⟩), .string ⟨#[39]⟩] wr fun e w' => e = .returned (.bool true) ∧ wr = w' := hsm
        have htk := take_any 1 b (39 :: r, p) x wr HR.out 1 (by simp [one_n8, K.enc_low])
        have hsk : K.skip (39 :: r, p) 1 = (r, K.adv p 39) := K.skip_one _ _ _
        unfold Took at htk
        rw [hsk] at htk
        have hstr : ∀ W, Bar b wr W → Calls Tryz.prog 36 #[.pointer (some ⟨vb, 0, none⟩)] W fun e w' => e = .returned (.string (bs (U.n8 acc))) ∧ Below N W w' := by
          intro W hW
          refine (Tryz.Builder_String_any_f N vb (U.n8 acc) W (bd_isBuilder (HBd.out.bar hW hbN) HC2.out) (Nat.le_trans hsz hW.size)).mono ?_
          rintro e w' ⟨rfl, _, hb⟩
          exact ⟨rfl, hb⟩
        have HS := Lib.hid hstr
        clear hstr hsk hs38 hs60
        go_wp2_with (first
          | (go_at_call 59; refine hsm.mono ?_; rintro e w' ⟨rfl, rfl⟩)
          | (go_at_call 61; refine htk.mono ?_; rintro e w2 ⟨rfl, hR2, hB2⟩; have hst := HS.out _ hB2; have HR2 := Lib.hid hR2; have HB2 := Lib.hid hB2; clear hR2 hB2)
          | (go_at_call 36; refine hst.mono ?_; rintro e w3 ⟨rfl, hb3⟩))
        go_ret
        rw [HRE.out]
        refine ⟨rfl, rd_below HR2.out hb3 hbN, (HBar.out.trans HB2.out).belN (by rw [HNN.out]; exact hb3)⟩
      · have hsm : Calls Tryz.prog 59 #[.pointer (some ⟨b, 0, none⟩), .string ⟨#[39]⟩] wr fun e w' => e = .returned (.bool false) ∧ wr = w' := by
          rw [show (39 == c) = false by simpa using fun h => hcm h.symm] at hsm
          exact hsm
        by_cases hc38 : c = 38
        · subst hc38
          have hs38 : Calls Tryz.prog 59 #[.pointer (some ⟨b, 0, none⟩), .string ⟨#[38]⟩] wr fun e w' => e = .returned (.bool true) ∧ wr = w' := hs38
          have href := reference_any b mm r p x wr HR.out HEn.out
          have hvf := VF_ref 39 (by decide) r p acc
          cases hr : K.reference (38 :: r, p) with
          | error er =>
            rw [hr] at href hvf
            have hre : R = .error er := HV.out.symm.trans hvf
            have HRE := Lib.hid hre
            clear hre hvf hr hs60
            go_wp2_with (first
              | (go_at_call 59; first | ((with_reducible refine hsm.mono ?_); rintro e w' ⟨rfl, rfl⟩) | ((with_reducible refine hs38.mono ?_); rintro e w' ⟨rfl, rfl⟩))
              | (go_at_call 94; refine href.mono ?_; rintro e w' ⟨⟨fb, rfl, hfc⟩, hfb⟩))
            refine ⟨rfl, ?_⟩
            rw [HRE.out]
            exact ⟨⟨_, rfl, hfc⟩, HBar.out.trans hfb⟩
          | ok q =>
            obtain ⟨d, s1⟩ := q
            have hds := ref_scalar hr
            have hshort := ref_short hr
            rw [hr] at href hvf
            have hre : VF 39 s1 (acc ++ [d]) = R := hvf.symm.trans HV.out
            have HRE := Lib.hid hre
            have hd : d ≤ 1114111 := by unfold U.scalar at hds; omega
            have hwr : ∀ W, Bar b wr W → Calls Tryz.prog 109 #[.pointer (some ⟨vb, 0, none⟩), .int .i32 (d : Int)] W fun e w' => e = .returned (.tuple #[.int .i64 (Lib.runeCells (d : Int)).length, .nilIface]) ∧ Wrote N vb 0 55 C (Lib.byteCells (U.n8 acc)) (Lib.byteCells (U.n8 [d])) W w' := by
              intro W hW
              rw [one_n8, ← runeCells_enc d hds]
              refine writeRune_any N vb 0 55 C _ _ (by omega) (by omega) W (HBd.out.bar hW hbN) ?_ (Nat.le_trans hsz hW.size)
              rw [Lib.byteCells_length]
              omega
            have HW := Lib.hid hwr
            have HDS := Lib.hid hds
            clear hre hvf hr hs60 hwr hds
            go_wp2_with (first
              | (go_at_call 59; first | ((with_reducible refine hsm.mono ?_); rintro e w' ⟨rfl, rfl⟩) | ((with_reducible refine hs38.mono ?_); rintro e w' ⟨rfl, rfl⟩))
              | (go_at_call 94; refine href.mono ?_; rintro e w2 ⟨rfl, hR2, hB2⟩; have hwc := HW.out _ hB2; have HR2 := Lib.hid hR2; have HB2 := Lib.hid hB2; clear hR2 hB2)
              | (go_at_call 109; refine hwc.mono ?_; rintro e w3 ⟨rfl, hw3⟩; have HW3 := Lib.hid hw3; clear hw3))
            go_roundg s1.1.length
            case measure => omega
            case rel =>
              exact ValRel.wrote HNN.out HR2.out (HEn.out.bar HB2.out HR.out.lt) HC2.out HW3.out (HBar.out.trans HB2.out) hbN hmN HRE.out (by simp; omega) (HSc.out.append (fun y hy => by simp at hy; subst hy; exact HDS.out)) (Nat.le_trans hsz HB2.out.size)
        · have hs38 : Calls Tryz.prog 59 #[.pointer (some ⟨b, 0, none⟩), .string ⟨#[38]⟩] wr fun e w' => e = .returned (.bool false) ∧ wr = w' := by
            rw [show (38 == c) = false by simpa using fun h => hc38 h.symm] at hs38
            exact hs38
          by_cases hc60 : c = 60
          · subst hc60
            have hs60 : Calls Tryz.prog 59 #[.pointer (some ⟨b, 0, none⟩), .string ⟨#[60]⟩] wr fun e w' => e = .returned (.bool true) ∧ wr = w' := hs60
            have hre : R = .error (21, p) := HV.out.symm.trans (VF_lt 39 (by decide) _ _ _)
            have HRE := Lib.hid hre
            have c1 : wr.cell? ⟨b, 1, none⟩ = some (.int .i64 (p.1 : Int)) := c1
            have c2 : wr.cell? ⟨b, 2, none⟩ = some (.int .i64 (p.2 : Int)) := c2
            clear hre
            go_wp2_with (first
              | (go_at_call 59; first | ((with_reducible refine hsm.mono ?_); rintro e w' ⟨rfl, rfl⟩) | ((with_reducible refine hs38.mono ?_); rintro e w' ⟨rfl, rfl⟩) | ((with_reducible refine hs60.mono ?_); rintro e w' ⟨rfl, rfl⟩))
              | (go_at_call 17; refine (fail_lit _ 21 rfl p.1 p.2 _).mono ?_; rintro e w' ⟨⟨fb, rfl, hfc⟩, hfb⟩))
            refine ⟨rfl, ?_⟩
            rw [HRE.out]
            exact ⟨⟨_, rfl, hfc⟩, HBar.out.bel hfb⟩
          · have hs60 : Calls Tryz.prog 59 #[.pointer (some ⟨b, 0, none⟩), .string ⟨#[60]⟩] wr fun e w' => e = .returned (.bool false) ∧ wr = w' := by
              rw [show (60 == c) = false by simpa using fun h => hc60 h.symm] at hs60
              exact hs60
            have hbef := before_any [60, 38, 39] (by unfold Small; decide) (by decide) (by decide) b (c :: r, p) x wr HR.out ⟨#[60, 38, 39]⟩ rfl
            obtain ⟨a, ha⟩ : ∃ a, notIn [60, 38, 39] (c :: r) = a := ⟨_, rfl⟩
            have hane : ∀ y ∈ a, y ≠ 39 ∧ y ≠ 38 ∧ y ≠ 60 := by
              intro y hy
              rw [← ha] at hy
              have := List.all_eq_true.1 List.all_takeWhile y hy
              simp at this
              omega
            have htk : (c :: r).take a.length = a := by rw [← ha]; exact takeWhile_take _ _
            have hapos : 1 ≤ a.length := by
              rw [← ha]
              show 1 ≤ ((c :: r).takeWhile _).length
              rw [List.takeWhile_cons, if_pos (by simp; omega)]
              simp
            have hale : a.length ≤ r.length + 1 := by have := notIn_len [60, 38, 39] (c :: r); rw [ha] at this; exact this
            have hsplit : c :: r = a ++ (c :: r).drop a.length := by conv => lhs; rw [← List.take_append_drop a.length (c :: r), htk]
            have hvf : VF 39 (K.skip (c :: r, p) a.length) (acc ++ a.map sp) = R := by
              rw [← HV.out]
              conv => rhs; rw [hsplit]
              rw [VF_chunk 39 a _ p acc hane]
              unfold K.skip
              rw [htk]
            have htake := take_any a.length b (c :: r, p) x wr HR.out
            have hsca : K.Sc a := by rw [← htk]; exact HR.out.1.sc.take _
            have han8 : (U.n8 a).length ≤ 65536 := by have h1 := n8_take_le (c :: r) a.length; rw [htk] at h1; have h2 := HR.out.1.len; simp only at h2; omega
            have hmap : ∀ W, Below wr.heap.size wr W ∨ Bar b wr W → Calls Tryz.prog 110 #[.func (.func 111) #[] #[], .string (bs (U.n8 a))] W fun e w' => e = .returned (.string (bs (U.n8 (a.map sp)))) ∧ Below W.heap.size W w' := by
              intro W hW
              have hBW : Bar b wr W := hW.elim Below.bar id
              exact map_any a hsca han8 W (HEn.out.bar hBW HR.out.lt).low
            rw [show (c :: r, p).1 = c :: r from rfl, ha, htk] at hbef
            unfold Took at htake
            rw [show (c :: r, p).1 = c :: r from rfl, htk] at htake
            obtain ⟨L, hL⟩ : ∃ L, (U.n8 a).length = L := ⟨_, rfl⟩
            rw [hL] at hbef htake
            have hLle : L ≤ 65536 := by omega
            have hsc2 : K.Sc (a.map sp) := by
              intro y hy
              obtain ⟨z, hz, rfl⟩ := List.mem_map.1 hy
              exact sp_scalar (hsca z hz)
            have hwr : ∀ W, Bar b wr W → Calls Tryz.prog 34 #[.pointer (some ⟨vb, 0, none⟩), .string (bs (U.n8 (a.map sp)))] W fun e w' => e = .returned (.tuple #[.int .i64 (bs (U.n8 (a.map sp))).size, .nilIface]) ∧ Wrote N vb 0 55 C (Lib.byteCells (U.n8 acc)) (Lib.byteCells (U.n8 (a.map sp))) W w' := by
              intro W hW
              have h4 := n8_len4 (a.map sp)
              rw [List.length_map] at h4
              refine writeString_any N vb 0 55 C _ _ W (HBd.out.bar hW hbN) ?_ (Nat.le_trans hsz hW.size)
              rw [Lib.byteCells_length, bs_size]
              omega
            have hskl : (K.skip (c :: r, p) a.length).1.length = r.length + 1 - a.length := by
              show ((c :: r).drop a.length).length = _
              rw [List.length_drop, List.length_cons]
            have htake2 : ∀ W, Below wr.heap.size wr W → Calls Tryz.prog 61 #[.pointer (some ⟨b, 0, none⟩), .int .i64 (L : Int)] W fun e w' => e = .returned (.string (bs (U.n8 a))) ∧ Rd b (K.skip (c :: r, p) a.length) x w' ∧ Bar b W w' := by
              intro W hW
              have := take_any a.length b (c :: r, p) x W (HR.out.below hW) (L : Int) (by rw [show (c :: r, p).1 = c :: r from rfl, htk, hL])
              unfold Took at this
              rw [show (c :: r, p).1 = c :: r from rfl, htk] at this
              exact this
            have HVF := Lib.hid hvf
            have HT2 := Lib.hid htake2
            have HM := Lib.hid hmap
            have HWR := Lib.hid hwr
            have HS2 := Lib.hid hsc2
            have HSK := Lib.hid hskl
            have hne0 := n8_some c r
            clear hvf htake htake2 hmap hwr hsc2 hskl hsca hane htk hsplit ha hL han8
            go_wp2_with (first
              | (go_at_call 59; first | ((with_reducible refine hsm.mono ?_); rintro e w' ⟨rfl, rfl⟩) | ((with_reducible refine hs38.mono ?_); rintro e w' ⟨rfl, rfl⟩) | ((with_reducible refine hs60.mono ?_); rintro e w' ⟨rfl, rfl⟩))
              | (go_at_call 106; refine hbef.mono ?_; rintro e w2 ⟨rfl, hb2⟩; have ht := HT2.out _ hb2; have HB2 := Lib.hid hb2; clear hb2)
              | (go_at_call 61; refine ht.mono ?_; rintro e w3 ⟨rfl, hR3, hB3⟩; have HB3 := Lib.hid ((Below.bar HB2.out).trans hB3); have HR3 := Lib.hid hR3; clear hR3 hB3; have hmp := HM.out _ (.inr HB3.out))
              | (go_at_call 110; refine hmp.mono ?_; rintro e w4 ⟨rfl, hb4⟩; have HB4 := Lib.hid (HB3.out.bel hb4); have HR4 := Lib.hid (HR3.out.below hb4); clear hb4; have hwc := HWR.out _ HB4.out)
              | (go_at_call 34; refine hwc.mono ?_; rintro e w5 ⟨rfl, hw5⟩; have HW5 := Lib.hid hw5; clear hw5))
            go_roundg (K.skip (c :: r, p) a.length).1.length
            case measure => rw [HSK.out]; omega
            case rel =>
              exact ValRel.wrote HNN.out HR4.out (HEn.out.bar HB4.out HR.out.lt) HC2.out HW5.out (HBar.out.trans HB4.out) hbN hmN HVF.out (by rw [HSK.out]; simp; omega) (HSc.out.append HS2.out) (Nat.le_trans hsz HB4.out.size)

theorem value_none (b : Nat) (s : K.St) (x : X6) (w : World) (h : Rd b s x w) (h34 : K.sees [34] s = false) (h39 : K.sees [39] s = false) :
    Calls Tryz.prog 100 #[.pointer (some ⟨b, 0, none⟩)] w fun e w' => Fell (21, s.2) e w' ∧ Bar b w w' := by
  have hs39 := sees_any [39] (by unfold Small; decide) b _ x w h ⟨#[39]⟩ rfl
  rw [h39] at hs39
  have hwant := want_any [34] (by unfold Small; decide) b _ x w h ⟨#[34]⟩ rfl
  have hwr : unitOf (K.want [34] s) = .error (21, s.2) := by unfold K.want; rw [h34]; rfl
  rw [hwr] at hwant
  clear hwr h34 h39 h
  go_enter Tryz.func100, Tryz.ntmps100
  go_wp2_with (first
    | (go_at_call 59; refine hs39.mono ?_; rintro e w' ⟨rfl, rfl⟩)
    | (go_at_call 88; refine hwant.mono ?_; rintro e w1 ⟨⟨fb, rfl, hfc⟩, hfb⟩))
  exact ⟨rfl, ⟨_, rfl, hfc⟩, hfb⟩
theorem value_any (b mm : Nat) (s : K.St) (x : X6) (w : World) (h : Rd b s x w) (he : Env b mm x w) :
    Calls Tryz.prog 100 #[.pointer (some ⟨b, 0, none⟩)] w (Step b x w strRet (K.value s)) := by
  obtain ⟨l, p⟩ := s
  cases l with
  | nil => exact value_none b ([], p) x w h rfl rfl
  | cons c r =>
    by_cases h34 : c = 34
    · subst h34; exact value_34 b mm r p x w h he
    · by_cases h39 : c = 39
      · subst h39; exact value_39 b mm r p x w h he
      · have hv : K.value (c :: r, p) = .error (21, p) := by
          show (if c = 34 ∨ c = 39 then _ else _) = _
          rw [if_neg (by omega)]
        rw [hv]
        exact value_none b (c :: r, p) x w h (by rw [sees_one]; simpa using fun h => h34 h.symm) (by rw [sees_one]; simpa using fun h => h39 h.symm)
end Go.Proofs.YtdilngjolhmjnaaGreatDoor
