/- The reader lays a tag behind what it has told. Conditions: those that each theorem names. The reader takes an end tag. Conditions: those that each theorem names. The reader takes a start tag. Conditions: those that each theorem names; the premise on attributes is what the reader's walk over them leaves. -/
import Derived.Test.YtdilngjolhmjnaaGreatDoorEndText
namespace Go.Proofs.YtdilngjolhmjnaaGreatDoor
open Go.RowKit Go.Shelf
set_option linter.all false

theorem BdAt.grown {B b o T : Nat} {C : Array Value} {xs : List Value} {w w3 : World} {row : Option Nat} (h : BdAt B b o T C xs w) (hg : w.grownBy w3 row) (hr : ∀ r, row = some r → ∃ c f, w.heap[r]? = some (.cells c 38 f)) (hT : T ≠ 38) : BdAt B b o T C xs w3 := by
  obtain ⟨hB, hk, hbk, ha, u, hu, hown⟩ := h
  have hlt := lt_of_heap hbk
  have h1 : w3.heap[b]? = some (.cells C T (0, 0)) := by
    rw [hg.block b hlt ?_]
    · exact hbk
    · intro e
      obtain ⟨c, f, hc⟩ := hr b e.symm
      rw [hbk] at hc
      cases hc
      exact hT rfl
  refine ⟨hB, hk, h1, ha, u, hu, hown.kept hg ?_⟩
  cases hub : u.ownBlock with
  | none => exact .inl rfl
  | some q =>
    right
    intro e
    obtain ⟨c, f, hc⟩ := hr q e.symm
    obtain ⟨c', f', hc'⟩ := Lib.ownsRowF_kind hown q hub
    rw [hc] at hc'
    cases hc'
abbrev tokVal (t : K.Tk) (av : Value) : Value := .agg #[.int .i64 (t.kind : Int), .string (bs (U.n8 t.name)), av, .string (bs (U.n8 t.text)), .int .i64 (t.place.1 : Int), .int .i64 (t.place.2 : Int), .bool t.empty]
theorem endText_len (t : K.Told) : (K.endText t).length = t.toks.length + (if t.text = [] then 0 else 1) := by
  unfold K.endText
  split <;> simp
theorem own_one {w : World} {B : Nat} {e : TypeId} {sz n : Nat} {v : Value} {xs : List Value} (h : w.ownsRow B e sz v n xs) : v.oneCell' = true := by
  rcases h.2 with ⟨rfl, _⟩ | ⟨g, cap, cur, rfl, _⟩ <;> rfl
theorem tok_one {k : K.Tk} {av : Value} (h : av.oneCell' = true) : ∀ u ∈ tokCells k av, u.oneCell' = true := by
  intro u hu
  simp only [tokCells, List.mem_cons, List.not_mem_nil, or_false] at hu
  rcases hu with rfl | rfl | rfl | rfl | rfl | rfl | rfl
  all_goals first | exact h | rfl
/-- What tag leaves. -/
def Tagged (b mm B : Nat) (s : K.St) (t : K.Told) (k : K.Tk) (w : World) (e : Ending) (w' : World) : Prop :=
  e = .returned (.tuple #[]) ∧ ∃ x', Inv b mm B s (K.tag t k) x' w' ∧ Below B w w'

set_option maxHeartbeats 8000000 in
set_option maxRecDepth 100000 in
theorem tag_any (b mm B : Nat) (s : K.St) (t : K.Told) (x : X6) (w : World) (h : Inv b mm B s t x w) (h12 : 12 ≤ B) (k : K.Tk) (av : Value) (hav : w.ownsRow B 40 4 av k.attrs.length (attrCells k.attrs))
    (hmany : t.toks.length + (if t.text = [] then 0 else 1) + 1 + s.1.length ≤ 65537) :
    Calls Tryz.prog 93 #[.pointer (some ⟨b, 0, none⟩), tokVal k av] w (Tagged b mm B s t k w) := by
  have hblt := h.rd.lt
  have hBb := h.hB
  have hbox : Below w.heap.size w (w.alloc (.cells #[.int .i64 (k.kind : Int), .string (bs (U.n8 k.name)), av, .string (bs (U.n8 k.text)), .int .i64 (k.place.1 : Int), .int .i64 (k.place.2 : Int), .bool k.empty] 38)) := (Below.refl _ _).alloc (Nat.le_refl _) _
  have hI1 : Inv b mm B s t x (w.alloc (.cells #[.int .i64 (k.kind : Int), .string (bs (U.n8 k.name)), av, .string (bs (U.n8 k.text)), .int .i64 (k.place.1 : Int), .int .i64 (k.place.2 : Int), .bool k.empty] 38)) := h.step (h.rd.below hbox) (.of_below hbox) (Nat.le_refl _)
  have hend := endText_any b mm B s t x _ hI1 h12
  have hnew := heap_new w (.cells #[.int .i64 (k.kind : Int), .string (bs (U.n8 k.name)), av, .string (bs (U.n8 k.text)), .int .i64 (k.place.1 : Int), .int .i64 (k.place.2 : Int), .bool k.empty] 38)
  have hlvb : some w.heap.size ≠ x.2.1.ownBlock := by
    intro e
    obtain ⟨xs, ho, _⟩ := h.list
    have hl := (own_block ho w.heap.size e.symm).2
    obtain ⟨c, hc⟩ := hl
    have := lt_of_heap hc
    omega
  have hav1 : KeepT 40 w (w.alloc (.cells #[.int .i64 (k.kind : Int), .string (bs (U.n8 k.name)), av, .string (bs (U.n8 k.text)), .int .i64 (k.place.1 : Int), .int .i64 (k.place.2 : Int), .bool k.empty] 38)) := .bel hbox
  have hlen := endText_len t
  have hone := own_one hav
  obtain ⟨i0, hi0, hz0, hz1, hz2⟩ := info_parts info38
  have HBOX := Lib.hid hbox
  have HNEW := Lib.hid hnew
  have HAV := Lib.hid (hav1.own hav)
  have HLEN := Lib.hid hlen
  have hN : B ≤ w.heap.size := by omega
  clear hbox hnew hav1 hav hlen hI1 h
  go_enter Tryz.func93, Tryz.ntmps93
  go_wp2_with fail
  refine hend.mono ?_
  rintro e w2 ⟨rfl, x1, hI, hB2, hKO, hK40, hK29⟩
  obtain ⟨hrd, henv, hB, ⟨xs, hown, htoks⟩, htext, hat, ⟨hl, hc, hlv, hcv⟩, hsc, hr0, hm0⟩ := hI
  have hbx := hKO w.heap.size _ HNEW.out hlvb
  have hav2 := hK40
  have hhb : w2.heap[b]? = some (.cells (cells9 s x1) 57 (0, 0)) := hrd.2
  have c4 : w2.cell? ⟨b, 4, none⟩ = some x1.2.1 := by rw [Lib.cell_of_heap hhb]; rfl
  have f4 : w2.frozen? ⟨b, 4, none⟩ = false := Lib.frozen_of_heap hhb _
  have d0 : w2.cell? ⟨w.heap.size, 0, none⟩ = some (.int .i64 (k.kind : Int)) := by rw [Lib.cell_of_heap hbx]; rfl
  have d1 : w2.cell? ⟨w.heap.size, 1, none⟩ = some (.string (bs (U.n8 k.name))) := by rw [Lib.cell_of_heap hbx]; rfl
  have d2 : w2.cell? ⟨w.heap.size, 2, none⟩ = some av := by rw [Lib.cell_of_heap hbx]; rfl
  have d3 : w2.cell? ⟨w.heap.size, 3, none⟩ = some (.string (bs (U.n8 k.text))) := by rw [Lib.cell_of_heap hbx]; rfl
  have d4 : w2.cell? ⟨w.heap.size, 4, none⟩ = some (.int .i64 (k.place.1 : Int)) := by rw [Lib.cell_of_heap hbx]; rfl
  have d5 : w2.cell? ⟨w.heap.size, 5, none⟩ = some (.int .i64 (k.place.2 : Int)) := by rw [Lib.cell_of_heap hbx]; rfl
  have d6 : w2.cell? ⟨w.heap.size, 6, none⟩ = some (.bool k.empty) := by rw [Lib.cell_of_heap hbx]; rfl
  have hn63 : (K.endText t).length + 1 ≤ maxLen := by have := HLEN.out; unfold maxLen; omega
  have hnby : ((K.endText t).length + 1) * 88 ≤ 140737488355328 := by have := HLEN.out; omega
  have hblt2 : b < w2.heap.size := lt_of_heap hhb
  have hbl : x1.2.1.ownBlock ≠ some b := by
    intro e
    obtain ⟨_, c, hc'⟩ := own_block hown b e
    rw [hhb] at hc'
    cases hc'
  have HLV := Lib.hid hlv
  have HCV := Lib.hid hcv
  have HAT := Lib.hid hat
  clear hlv hcv hat
  go_wp2_with fail
  go_region_law (first
    | ((refine step_append_lies _ (by rfl) _ _ _ (by rfl) B 38 i0 _ 7 88 Tryz.underlying23 hi0 hz0 hz1 hz2 rfl (by omega) x1.2.1 (K.endText t).length xs (by rfl) ((hown.alloc _).drew) ⟨w2.heap.size, 0, none⟩ 1 1 (tokCells k av) (by rfl) (by rfl) (World.news_of_block (cs := #[.int .i64 (k.kind : Int), .string (bs (U.n8 k.name)), av, .string (bs (U.n8 k.text)), .int .i64 (k.place.1 : Int), .int .i64 (k.place.2 : Int), .bool k.empty]) (t := 38) (fr := (0, 0)) (heap_alloc_new w2 _)) (tok_one hone) (by omega) hn63 hnby (by simp; omega) (w2.heap.size + 1) (by simp) ?_; intro g cap w3 hown3 hgrow hat3 hlt3; have hb3 : w3.heap[b]? = some (.cells (cells9 s x1) 57 (0, 0)) := (hgrow.block b (by simp; omega) hbl.symm).trans (Below.keep ((Below.refl w2.heap.size w2).alloc (Nat.le_refl _) _) hhb); have j4 : w3.cell? ⟨b, 4, none⟩ = some x1.2.1 := (by rw [Lib.cell_of_heap hb3]; rfl); have jf : w3.frozen? ⟨b, 4, none⟩ = false := Lib.frozen_of_heap hb3 _)))
  all_goals
    have HM := Lib.hid hgrow
    have HO3 := Lib.hid hown3
    have HB3 := Lib.hid hb3
    clear hgrow hown3 hb3 hat3
    go_wp2
    go_end0
    obtain ⟨hL, hBB, _, _, _, hE⟩ := told_more (t := ⟨K.endText t, [], t.place⟩) (w := w2) (w2 := w2) (o := .cells #[.int .i64 (k.kind : Int), .string (bs (U.n8 k.name)), av, .string (bs (U.n8 k.text)), .int .i64 (k.place.1 : Int), .int .i64 (k.place.2 : Int), .bool k.empty] 38) hrd henv hB hown htoks h12 hhb (Below.refl _ _) (Lib.OthersKept.refl _ _ _) k av (hav2.own HAV.out) HO3.out ⟨HM.out.os, HM.out.tape, HM.out.output, HM.out.size, HM.out.block⟩ HB3.out (Lib.OthersKept.refl _ _ _) (Below.refl _ _)
    have hrow := own_block hown
    have hal : Below w2.heap.size w2 (w2.alloc (.cells #[.int .i64 (k.kind : Int), .string (bs (U.n8 k.name)), av, .string (bs (U.n8 k.text)), .int .i64 (k.place.1 : Int), .int .i64 (k.place.2 : Int), .bool k.empty] 38)) := (Below.refl _ _).alloc (Nat.le_refl _) _
    have hbd : BdAt B b 5 57 ((cells9 s x1).setIfInBounds 4 (.slice (some ⟨g, 0, none⟩) ((K.endText t).length + 1) cap)) (Lib.byteCells (U.n8 [])) (w3.setCell ⟨b, 4, none⟩ (.slice (some ⟨g, 0, none⟩) ((K.endText t).length + 1) cap)) := by
      refine BdAt.put ?_ (by decide) (by decide) _
      refine (htext.bel hal).grown (row := x1.2.1.ownBlock) ⟨HM.out.os, HM.out.tape, HM.out.output, HM.out.size, HM.out.block⟩ ?_ (by decide)
      intro r hr
      obtain ⟨_, c, hc⟩ := hrow r hr
      exact ⟨c, _, Below.keep hal hc⟩
    refine ⟨rfl, (x1.1, .slice (some ⟨g, 0, none⟩) ((K.endText t).length + 1) cap, x1.2.2.1, x1.2.2.2.1, x1.2.2.2.2), ⟨⟨hrd.1, hbd.2.2.1⟩, hE _ rfl, hB, hL, hbd, fun h => absurd rfl h, ⟨hl, hc, HLV.out, HCV.out⟩, fun c hc => (by cases hc), by show 0 + _ ≤ _; omega, ?_⟩, ((HBOX.out.mono hN).trans hB2).trans hBB⟩
    show (K.endText t ++ [k]).length + 0 + _ ≤ _
    rw [List.length_append, HLEN.out]
    exact hmany
end Go.Proofs.YtdilngjolhmjnaaGreatDoor
namespace Go.Proofs.YtdilngjolhmjnaaGreatDoor
open Go.RowKit Go.Shelf
set_option linter.all false

theorem own_base {w : World} {B N : Nat} {e : TypeId} {sz n : Nat} {v : Value} {xs : List Value} (h : w.ownsRow N e sz v n xs) (hB : B ≤ N) : w.ownsRow B e sz v n xs :=
  ⟨h.1, h.2.imp id fun ⟨g, cap, cur, hv, hb, r⟩ => ⟨g, cap, cur, hv, Nat.le_trans hB hb, r⟩⟩
/-- A store into the box of a tag leaves the reader and what it has told. -/
theorem Inv.setBox {b mm B N : Nat} {s : K.St} {t : K.Told} {x : X6} {w : World} {D : Array Value} (h : Inv b mm B s t x w) (hN : b ≠ N) (hNB : 12 ≤ N) (hNl : x.2.1.ownBlock ≠ some N) (hbox : w.heap[N]? = some (.cells D 38 (0, 0))) (i : Nat) (v : Value) :
    Inv b mm B s t x (w.setCell ⟨N, i, none⟩ v) := by
  obtain ⟨hrd, henv, hB, ⟨xs, hown, htoks⟩, htext, hat, hhere, hsc, hr0, hm0⟩ := h
  have hother : ∀ k, k ≠ N → (w.setCell ⟨N, i, none⟩ v).heap[k]? = w.heap[k]? := fun k hk => Below.heap_setCell _ _ _ _ (by simpa using hk)
  have hmm : mm ≠ N := by
    obtain ⟨es, clock, hm, _⟩ := henv.lies
    rintro rfl
    rw [hm] at hbox
    cases hbox
  refine ⟨hrd.other _ _ hN _, henv.other _ _ hmm hNB _, hB, ⟨xs, ?_, htoks.keep (KeepT.set hbox (by decide) i v)⟩, ?_, hat, hhere, hsc, hr0, hm0⟩
  · refine ⟨hown.1, ?_⟩
    rcases hown.2 with hn | ⟨g, cap, cur, hv, hBg, hg, r⟩
    · exact .inl hn
    · refine .inr ⟨g, cap, cur, hv, hBg, ?_, r⟩
      rw [hother g ?_]
      · exact hg
      · rintro rfl
        exact hNl (by rw [hv]; rfl)
  · obtain ⟨_, hk, hbk, ha, u, hu, ho⟩ := htext
    refine ⟨hB, hk, (hother b hN).trans hbk, ha, u, hu, ho.kept (row := some N) ⟨rfl, rfl, rfl, by simp [World.setCell], fun k _ hk => hother k (fun e => hk (by rw [e]))⟩ ?_⟩
    right
    intro e
    obtain ⟨c, f, hc⟩ := Lib.ownsRowF_kind ho N e
    rw [hbox] at hc
    cases hc
/-- The reader under way in a tag, whose box is block N. -/
structure Stg (b mm B N : Nat) (s : K.St) (t : K.Told) (x : X6) (D : Array Value) (w W : World) : Prop where
  inv : Inv b mm B s t x W
  box : W.heap[N]? = some (.cells D 38 (0, 0))
  bel : Below B w W
  hN : B ≤ N
  hb : b ≠ N
  hl : x.2.1.ownBlock ≠ some N
theorem Stg.step {b mm B N : Nat} {s s' : K.St} {t : K.Told} {x : X6} {D : Array Value} {w W W' : World} (h : Stg b mm B N s t x D w W) (hR : Rd b s' x W') (k : Bar b W W') (hl : s'.1.length ≤ s.1.length) : Stg b mm B N s' t x D w W' :=
  ⟨h.inv.step hR k hl, k.keep (Ne.symm h.hb) h.box, h.bel.trans (k.below h.inv.hB (by have := h.inv.rd.lt; have := h.inv.hB; omega)), h.hN, h.hb, h.hl⟩
theorem Stg.set {b mm B N : Nat} {s : K.St} {t : K.Told} {x : X6} {D : Array Value} {w W : World} (h : Stg b mm B N s t x D w W) (h12 : 12 ≤ B) (i : Nat) (v : Value) : Stg b mm B N s t x (D.setIfInBounds i v) w (W.setCell ⟨N, i, none⟩ v) :=
  ⟨h.inv.setBox h.hb (Nat.le_trans h12 h.hN) h.hl h.box i v, heap_set h.box i v, h.bel.setCell (p := ⟨N, i, none⟩) h.hN v, h.hN, h.hb, h.hl⟩
theorem Stg.start {b mm B : Nat} {s : K.St} {t : K.Told} {x : X6} {w : World} (h : Inv b mm B s t x w) (D : Array Value) : Stg b mm B w.heap.size s t x D w (w.alloc (.cells D 38)) := by
  have hbox : Below w.heap.size w (w.alloc (.cells D 38)) := (Below.refl _ _).alloc (Nat.le_refl _) _
  have hlt := h.rd.lt
  have hBb := h.hB
  refine ⟨h.step (h.rd.below hbox) (.of_below hbox) (Nat.le_refl _), heap_new _ _, hbox.mono (by omega), by omega, by omega, ?_⟩
  intro e
  obtain ⟨xs, ho, _⟩ := h.list
  obtain ⟨_, c, hc⟩ := own_block ho w.heap.size e
  have := lt_of_heap hc
  omega
/-- What taking a tag leaves. -/
def TagStep (b mm B : Nat) (t : K.Told) (w : World) (r : Except K.Er (K.Tk × K.St)) (e : Ending) (w' : World) : Prop := match r with
  | .ok (k, s) => e = .returned (.tuple #[]) ∧ ∃ x', Inv b mm B s (K.tag t k) x' w' ∧ Below B w w'
  | .error er => Fell er e w' ∧ Below B w w'
theorem skip_le (s : K.St) (n : Nat) : (K.skip s n).1.length ≤ s.1.length := by show (s.1.drop n).length ≤ _; rw [List.length_drop]; omega
theorem name_le {s s1 : K.St} {n : List Nat} (h : K.name s = .ok (n, s1)) : s1.1.length ≤ s.1.length := by
  unfold K.name at h
  split at h
  · split at h
    · cases h
    · cases h; exact skip_le _ _
  · cases h
theorem want_le {t : List Nat} {s s1 : K.St} (h : K.want t s = .ok s1) : s1.1.length + 0 ≤ s.1.length := by
  unfold K.want at h
  split at h
  · cases h; exact skip_le _ _
  · cases h
theorem Stg.cells {b mm B N : Nat} {s : K.St} {t : K.Told} {x : X6} {d0 d1 d2 d3 d4 d5 d6 : Value} {w W : World} (h : Stg b mm B N s t x #[d0, d1, d2, d3, d4, d5, d6] w W) :
    W.cell? ⟨N, 0, none⟩ = some d0 ∧ W.cell? ⟨N, 1, none⟩ = some d1 ∧ W.cell? ⟨N, 2, none⟩ = some d2 ∧ W.cell? ⟨N, 3, none⟩ = some d3 ∧ W.cell? ⟨N, 4, none⟩ = some d4 ∧ W.cell? ⟨N, 5, none⟩ = some d5 ∧ W.cell? ⟨N, 6, none⟩ = some d6 ∧ (∀ i, W.frozen? ⟨N, i, none⟩ = false) := by
  refine ⟨?_, ?_, ?_, ?_, ?_, ?_, ?_, fun i => Lib.frozen_of_heap h.box i⟩
  all_goals (rw [Lib.cell_of_heap h.box]; rfl)
theorem gt_small : Small [62] := by unfold Small; decide

set_option maxHeartbeats 8000000 in
set_option maxRecDepth 100000 in
theorem endTag_any (b mm B : Nat) (s : K.St) (t : K.Told) (x : X6) (w : World) (h : Inv b mm B s t x w) (h12 : 12 ≤ B) (hs2 : (U.n8 (s.1.take 2)).length = 2) (hl2 : 2 ≤ s.1.length) :
    Calls Tryz.prog 67 #[.pointer (some ⟨b, 0, none⟩)] w (TagStep b mm B t w (K.endTag s)) := by
  obtain ⟨c0, c1, c2⟩ := h.rd.cells
  have S0 := Lib.hid (Stg.start h #[.int .i64 2, .string ⟨#[]⟩, .slice none 0 0, .string ⟨#[]⟩, .int .i64 (s.2.1 : Int), .int .i64 (s.2.2 : Int), .bool false])
  have htk := take_any 2 b s x _ S0.out.inv.rd 2 (by rw [hs2]; rfl)
  have hm0 := h.many
  have hsk : (K.skip s 2).1.length + 2 ≤ s.1.length := by show (s.1.drop 2).length + 2 ≤ _; rw [List.length_drop]; omega
  have hE : K.endTag s = match K.name (K.skip s 2) with
    | .error e => .error e
    | .ok (n, s1) => match K.want [62] (K.blanks s1) with
      | .error e => .error e
      | .ok s2 => .ok (⟨2, n, [], [], s.2, false⟩, s2) := rfl
  rw [hE]
  have HN : Hid (∀ W, Rd b (K.skip s 2) x W → Calls Tryz.prog 87 #[.pointer (some ⟨b, 0, none⟩)] W (Step b x W strRet (K.name (K.skip s 2)))) := Lib.hid fun W hW => name_any b _ x W hW
  clear h hE
  cases hn : K.name (K.skip s 2) with
  | error er =>
    rw [hn] at HN
    clear hn
    go_enter Tryz.func67, Tryz.ntmps67
    go_wp2_with (first
      | (go_at_call 61; refine htk.mono ?_; rintro e w1 ⟨rfl, hR1, hB1⟩; have hnm := HN.out _ hR1; have S1 := Lib.hid (S0.out.step hR1 hB1 (skip_le _ _)); clear hR1 hB1)
      | (go_at_call 87; refine hnm.mono ?_; rintro e w2 ⟨⟨fb, rfl, hfc⟩, hfb⟩))
    exact ⟨rfl, ⟨_, rfl, hfc⟩, S1.out.bel.trans (hfb.below S1.out.inv.hB (by have := S1.out.inv.rd.lt; have := S1.out.inv.hB; omega))⟩
  | ok q =>
    obtain ⟨nm, s1⟩ := q
    have hnl := name_le hn
    rw [hn] at HN
    clear hn
    simp only
    have HB : Hid (∀ (s : K.St) W, Rd b s x W → Calls Tryz.prog 83 #[.pointer (some ⟨b, 0, none⟩)] W fun e w' => e = .returned (.bool (decide (0 < K.nblank s))) ∧ Rd b (K.blanks s) x w' ∧ Bar b W w') := Lib.hid fun s W hW => blanks_any b s x W hW
    have HW : Hid (∀ W, Rd b (K.blanks s1) x W → Calls Tryz.prog 88 #[.pointer (some ⟨b, 0, none⟩), .string ⟨#[62]⟩] W (Step b x W noRet (unitOf (K.want [62] (K.blanks s1))))) := Lib.hid fun W hW => want_any [62] gt_small b _ x W hW _ rfl
    cases hw : K.want [62] (K.blanks s1) with
    | error er =>
      rw [hw] at HW
      clear hw
      go_enter Tryz.func67, Tryz.ntmps67
      go_wp2_with (first
        | (go_at_call 61; refine htk.mono ?_; rintro e w1 ⟨rfl, hR1, hB1⟩; have hnm := HN.out _ hR1; have S1 := Lib.hid (S0.out.step hR1 hB1 (skip_le _ _)); clear hR1 hB1)
        | (go_at_call 87; refine hnm.mono ?_; rintro e w2 ⟨rfl, hR2, hB2⟩; have S2 := Lib.hid (S1.out.step hR2 hB2 hnl); clear hR2 hB2; obtain ⟨_, e1, _, _, _, _, _, ef⟩ := S2.out.cells; have ef1 := ef 1; clear ef; have S3 := Lib.hid (S2.out.set h12 1 (.string (bs (U.n8 nm)))); have hbl := HB.out _ _ S3.out.inv.rd)
        | (go_at_call 83; refine hbl.mono ?_; rintro e w4 ⟨rfl, hR4, hB4⟩; have S4 := Lib.hid (S3.out.step hR4 hB4 (skip_le _ _)); have hwn := HW.out _ hR4; clear hR4 hB4)
        | (go_at_call 88; refine hwn.mono ?_; rintro e w5 ⟨⟨fb, rfl, hfc⟩, hfb⟩))
      exact ⟨rfl, ⟨_, rfl, hfc⟩, S4.out.bel.trans (hfb.below S4.out.inv.hB (by have := S4.out.inv.rd.lt; have := S4.out.inv.hB; omega))⟩
    | ok s2 =>
      have hwl := want_le hw
      rw [hw] at HW
      clear hw
      simp only
      have hbl0 : (K.blanks s1).1.length ≤ s1.1.length := skip_le _ _
      have HT : Hid (∀ W, Inv b mm B s2 t x W → Calls Tryz.prog 93 #[.pointer (some ⟨b, 0, none⟩), tokVal ⟨2, nm, [], [], s.2, false⟩ (.slice none 0 0)] W (Tagged b mm B s2 t ⟨2, nm, [], [], s.2, false⟩ W)) :=
        Lib.hid fun W hW => tag_any b mm B s2 t x W hW h12 _ _ ⟨rfl, .inl ⟨rfl, rfl⟩⟩ (by omega)
      go_enter Tryz.func67, Tryz.ntmps67
      go_wp2_with (first
        | (go_at_call 61; refine htk.mono ?_; rintro e w1 ⟨rfl, hR1, hB1⟩; have hnm := HN.out _ hR1; have S1 := Lib.hid (S0.out.step hR1 hB1 (skip_le _ _)); clear hR1 hB1)
        | (go_at_call 87; refine hnm.mono ?_; rintro e w2 ⟨rfl, hR2, hB2⟩; have S2 := Lib.hid (S1.out.step hR2 hB2 hnl); clear hR2 hB2; obtain ⟨_, e1, _, _, _, _, _, ef⟩ := S2.out.cells; have ef1 := ef 1; clear ef; have S3 := Lib.hid (S2.out.set h12 1 (.string (bs (U.n8 nm)))); have hbl := HB.out _ _ S3.out.inv.rd)
        | (go_at_call 83; refine hbl.mono ?_; rintro e w4 ⟨rfl, hR4, hB4⟩; have S4 := Lib.hid (S3.out.step hR4 hB4 (skip_le _ _)); have hwn := HW.out _ hR4; clear hR4 hB4)
        | (go_at_call 88; refine hwn.mono ?_; rintro e w5 ⟨rfl, hR5, hB5⟩; have S5 := Lib.hid (S4.out.step hR5 hB5 (by omega)); have htg := HT.out _ S5.out.inv; obtain ⟨g0, g1, g2, g3, g4, g5, g6, _⟩ := S5.out.cells; clear hR5 hB5)
        | (go_at_call 93; refine htg.mono ?_; rintro e w6 ⟨rfl, x', hI, hB6⟩; have HI := Lib.hid hI; clear hI))
      go_end0
      exact ⟨rfl, x', HI.out, S5.out.bel.trans hB6⟩
end Go.Proofs.YtdilngjolhmjnaaGreatDoor
namespace Go.Proofs.YtdilngjolhmjnaaGreatDoor
open Go.RowKit Go.Shelf
set_option linter.all false

/-- What taking attributes leaves. -/
def AttrStep (b : Nat) (x : X6) (w : World) (r : Except K.Er (List K.At × K.St)) (e : Ending) (w' : World) : Prop := match r with
  | .ok (l, s) => ∃ av, e = .returned av ∧ w'.ownsRow w.heap.size 40 4 av l.length (attrCells l) ∧ Rd b s x w' ∧ Bar b w w'
  | .error er => Fell er e w' ∧ Bar b w w'
/-- The premise: attributes are taken as the chapter says. -/
def AttrsOk : Prop := ∀ (b mm : Nat) (s : K.St) (x : X6) (w : World), Rd b s x w → Env b mm x w → Calls Tryz.prog 62 #[.pointer (some ⟨b, 0, none⟩)] w (AttrStep b x w (K.attrs s))
theorem attr1_le {s s1 : K.St} {a : K.At} (h : K.attr1 s = .ok (a, s1)) (hv : ∀ s v s', K.value s = .ok (v, s') → s'.1.length ≤ s.1.length) : s1.1.length ≤ s.1.length := by
  unfold K.attr1 at h
  cases hn : K.name s with
  | error e => rw [hn] at h; cases h
  | ok q =>
    obtain ⟨n, t1⟩ := q
    rw [hn] at h
    simp only at h
    have h1 := name_le hn
    cases hw : K.want [61] (K.blanks t1) with
    | error e => rw [hw] at h; cases h
    | ok t2 =>
      rw [hw] at h
      simp only at h
      have h2 := want_le hw
      have h2' : (K.blanks t1).1.length ≤ t1.1.length := skip_le _ _
      cases hvv : K.value (K.blanks t2) with
      | error e => rw [hvv] at h; cases h
      | ok q =>
        obtain ⟨v, t3⟩ := q
        rw [hvv] at h
        simp only [Except.ok.injEq, Prod.mk.injEq] at h
        have h3 := hv _ _ _ hvv
        have h3' : (K.blanks t2).1.length ≤ t2.1.length := skip_le _ _
        rw [← h.2]
        omega
theorem valueF_le (m : Nat) : ∀ (f : Nat) (s : K.St) (acc v : List Nat) (s' : K.St), K.valueF m f s acc = .ok (v, s') → s'.1.length ≤ s.1.length
  | 0, _, _, _, _, h => by unfold K.valueF at h; cases h
  | f + 1, ([], p), _, _, _, h => by unfold K.valueF at h; cases h
  | f + 1, (c :: r, p), acc, v, s', h => by
    unfold K.valueF at h
    split at h
    · simp only [Except.ok.injEq, Prod.mk.injEq] at h
      rw [← h.2]
      simp
    · split at h
      · cases hr : K.reference (c :: r, p) with
        | error e => rw [hr] at h; cases h
        | ok q =>
          obtain ⟨d, s1⟩ := q
          rw [hr] at h
          have h1 := ref_short hr
          have h2 := valueF_le m f s1 _ _ _ h
          simp only [List.length_cons]
          omega
      · split at h
        · cases h
        · have h2 := valueF_le m f (r, K.adv p c) _ _ _ h
          simp only [List.length_cons] at h2 ⊢
          omega
theorem value_le (s : K.St) (v : List Nat) (s' : K.St) (h : K.value s = .ok (v, s')) : s'.1.length ≤ s.1.length := by
  obtain ⟨l, p⟩ := s
  cases l with
  | nil => cases h
  | cons c r =>
    unfold K.value at h
    simp only at h
    split at h
    · have := valueF_le c _ _ _ _ _ h
      simp only [List.length_cons] at this ⊢
      omega
    · cases h
theorem attrsF_le : ∀ (f : Nat) (s : K.St) (acc l : List K.At) (s' : K.St), K.attrsF f s acc = .ok (l, s') → s'.1.length ≤ s.1.length
  | 0, s, acc, l, s', h => by unfold K.attrsF at h; simp only [Except.ok.injEq, Prod.mk.injEq] at h; rw [← h.2]; exact Nat.le_refl _
  | f + 1, s, acc, l, s', h => by
    unfold K.attrsF at h
    have hb : (K.blanks s).1.length ≤ s.1.length := skip_le _ _
    split at h
    · simp only [Except.ok.injEq, Prod.mk.injEq] at h
      rw [← h.2]
      exact hb
    · cases ha : K.attr1 (K.blanks s) with
      | error e => rw [ha] at h; cases h
      | ok q =>
        obtain ⟨a, s1⟩ := q
        rw [ha] at h
        have h1 := attr1_le ha value_le
        have h2 := attrsF_le f s1 _ _ _ h
        omega
theorem attrs_le {s s' : K.St} {l : List K.At} (h : K.attrs s = .ok (l, s')) : s'.1.length ≤ s.1.length := attrsF_le _ _ _ _ _ h
theorem own_slice {w : World} {B : Nat} {e : TypeId} {sz n : Nat} {v : Value} {xs : List Value} (h : w.ownsRow B e sz v n xs) : ∃ p m c, v = .slice p m c := by
  rcases h.2 with ⟨rfl, _⟩ | ⟨g, cap, cur, rfl, _⟩
  · exact ⟨_, _, _, rfl⟩
  · exact ⟨_, _, _, rfl⟩
theorem slash_small : Small [47] := by unfold Small; decide

set_option maxHeartbeats 16000000 in
set_option maxRecDepth 100000 in
theorem startTag_any (HAT : AttrsOk) (b mm B : Nat) (s : K.St) (t : K.Told) (x : X6) (w : World) (h : Inv b mm B s t x w) (h12 : 12 ≤ B) (hs2 : (U.n8 (s.1.take 1)).length = 1) (hl2 : 1 ≤ s.1.length) :
    Calls Tryz.prog 68 #[.pointer (some ⟨b, 0, none⟩)] w (TagStep b mm B t w (K.startTag s)) := by
  obtain ⟨c0, c1, c2⟩ := h.rd.cells
  have S0 := Lib.hid (Stg.start h #[.int .i64 1, .string ⟨#[]⟩, .slice none 0 0, .string ⟨#[]⟩, .int .i64 (s.2.1 : Int), .int .i64 (s.2.2 : Int), .bool false])
  have htk := take_any 1 b s x _ S0.out.inv.rd 1 (by rw [hs2]; rfl)
  have hm0 := h.many
  have hsk : (K.skip s 1).1.length + 1 ≤ s.1.length := by show (s.1.drop 1).length + 1 ≤ _; rw [List.length_drop]; omega
  have hE : K.startTag s = match K.name (K.skip s 1) with
    | .error e => .error e
    | .ok (n, s1) => match K.attrs s1 with
      | .error e => .error e
      | .ok (l, s2) => match K.want [62] (if K.sees [47] s2 then K.skip s2 1 else s2) with
        | .error e => .error e
        | .ok s3 => .ok (⟨1, n, l, [], s.2, K.sees [47] s2⟩, s3) := rfl
  rw [hE]
  have HN : Hid (∀ W, Rd b (K.skip s 1) x W → Calls Tryz.prog 87 #[.pointer (some ⟨b, 0, none⟩)] W (Step b x W strRet (K.name (K.skip s 1)))) := Lib.hid fun W hW => name_any b _ x W hW
  clear h hE
  cases hn : K.name (K.skip s 1) with
  | error er =>
    rw [hn] at HN
    clear hn
    go_enter Tryz.func68, Tryz.ntmps68
    go_wp2_with (first
      | (go_at_call 61; first | ((with_reducible refine htk.mono ?_); rintro e w1 ⟨rfl, hR1, hB1⟩; have hnm := HN.out _ hR1; have S1 := Lib.hid (S0.out.step hR1 hB1 (skip_le _ _)); clear hR1 hB1))
      | (go_at_call 87; refine hnm.mono ?_; rintro e w2 ⟨⟨fb, rfl, hfc⟩, hfb⟩))
    exact ⟨rfl, ⟨_, rfl, hfc⟩, S1.out.bel.trans (hfb.below S1.out.inv.hB (by have := S1.out.inv.rd.lt; have := S1.out.inv.hB; omega))⟩
  | ok q =>
    obtain ⟨nm, s1⟩ := q
    have hnl := name_le hn
    rw [hn] at HN
    clear hn
    simp only
    have HA : Hid (∀ W, Rd b s1 x W → Env b mm x W → Calls Tryz.prog 62 #[.pointer (some ⟨b, 0, none⟩)] W (AttrStep b x W (K.attrs s1))) := Lib.hid fun W hW hE => HAT b mm s1 x W hW hE
    cases ha : K.attrs s1 with
    | error er =>
      rw [ha] at HA
      clear ha
      go_enter Tryz.func68, Tryz.ntmps68
      go_wp2_with (first
        | (go_at_call 61; first | ((with_reducible refine htk.mono ?_); rintro e w1 ⟨rfl, hR1, hB1⟩; have hnm := HN.out _ hR1; have S1 := Lib.hid (S0.out.step hR1 hB1 (skip_le _ _)); clear hR1 hB1))
        | (go_at_call 87; refine hnm.mono ?_; rintro e w2 ⟨rfl, hR2, hB2⟩; have S2 := Lib.hid (S1.out.step hR2 hB2 hnl); clear hR2 hB2; obtain ⟨_, e1, _, _, _, _, _, ef⟩ := S2.out.cells; have ef1 := ef 1; clear ef; have S3 := Lib.hid (S2.out.set h12 1 (.string (bs (U.n8 nm)))); have hat := HA.out _ S3.out.inv.rd S3.out.inv.env)
        | (go_at_call 62; refine hat.mono ?_; rintro e w2 ⟨⟨fb, rfl, hfc⟩, hfb⟩))
      exact ⟨rfl, ⟨_, rfl, hfc⟩, S3.out.bel.trans (hfb.below S3.out.inv.hB (by have := S3.out.inv.rd.lt; have := S3.out.inv.hB; omega))⟩
    | ok q =>
      obtain ⟨l, s2⟩ := q
      have hal := attrs_le ha
      rw [ha] at HA
      clear ha
      simp only
      have HS : Hid (∀ W, Rd b s2 x W → Calls Tryz.prog 59 #[.pointer (some ⟨b, 0, none⟩), .string ⟨#[47]⟩] W fun e w' => e = .returned (.bool (K.sees [47] s2)) ∧ W = w') := Lib.hid fun W hW => sees_any [47] slash_small b s2 x W hW _ rfl
      cases hse : K.sees [47] s2 with
      | false =>
        rw [if_neg (by decide)]
        rw [hse] at HS
        have HW : Hid (∀ W, Rd b (s2) x W → Calls Tryz.prog 88 #[.pointer (some ⟨b, 0, none⟩), .string ⟨#[62]⟩] W (Step b x W noRet (unitOf (K.want [62] (s2))))) := Lib.hid fun W hW => want_any [62] gt_small b _ x W hW _ rfl
        cases hw : K.want [62] (s2) with
        | error er =>
          rw [hw] at HW
          clear hw hse
          go_enter Tryz.func68, Tryz.ntmps68
          go_wp2_with (first
            | (go_at_call 61; first | ((with_reducible refine htk.mono ?_); rintro e w1 ⟨rfl, hR1, hB1⟩; have hnm := HN.out _ hR1; have S1 := Lib.hid (S0.out.step hR1 hB1 (skip_le _ _)); clear hR1 hB1))
            | (go_at_call 87; refine hnm.mono ?_; rintro e w2 ⟨rfl, hR2, hB2⟩; have S2 := Lib.hid (S1.out.step hR2 hB2 hnl); clear hR2 hB2; obtain ⟨_, e1, _, _, _, _, _, ef⟩ := S2.out.cells; have ef1 := ef 1; clear ef; have S3 := Lib.hid (S2.out.set h12 1 (.string (bs (U.n8 nm)))); have hat := HA.out _ S3.out.inv.rd S3.out.inv.env)
            | (go_at_call 62; refine hat.mono ?_; rintro e w4 ⟨av, rfl, hO4, hR4, hB4⟩; obtain ⟨ap, an, ac, rfl⟩ := own_slice hO4; have S4 := Lib.hid (S3.out.step hR4 hB4 hal); have O4 := Lib.hid (own_base hO4 (by have := S3.out.inv.rd.lt; have := S3.out.inv.hB; omega : B ≤ _)); clear hR4 hB4 hO4; obtain ⟨_, _, q2, _, _, _, _, qf⟩ := S4.out.cells; have qf2 := qf 2; clear qf; have S5 := Lib.hid (S4.out.set h12 2 (.slice ap an ac)); have O5 := Lib.hid ((KeepT.set S4.out.box (by decide) 2 (.slice ap an ac)).own O4.out); have hsl := HS.out _ S5.out.inv.rd)
            | (go_at_call 59; refine hsl.mono ?_; rintro e w' ⟨rfl, rfl⟩; have hwn := HW.out _ S5.out.inv.rd)
            | (go_at_call 88; refine hwn.mono ?_; rintro e w8 ⟨⟨fb, rfl, hfc⟩, hfb⟩))
          exact ⟨rfl, ⟨_, rfl, hfc⟩, S5.out.bel.trans (hfb.below S5.out.inv.hB (by have := S5.out.inv.rd.lt; have := S5.out.inv.hB; omega))⟩
        | ok s3 =>
          have hwl := want_le hw
          rw [hw] at HW
          clear hw hse
          simp only
          have HT : Hid (∀ (av : Value) W, Inv b mm B s3 t x W → W.ownsRow B 40 4 av l.length (attrCells l) → Calls Tryz.prog 93 #[.pointer (some ⟨b, 0, none⟩), tokVal ⟨1, nm, l, [], s.2, false⟩ av] W (Tagged b mm B s3 t ⟨1, nm, l, [], s.2, false⟩ W)) :=
            Lib.hid fun av W hW hO => tag_any b mm B s3 t x W hW h12 _ av hO (by omega)
          go_enter Tryz.func68, Tryz.ntmps68
          go_wp2_with (first
            | (go_at_call 61; first | ((with_reducible refine htk.mono ?_); rintro e w1 ⟨rfl, hR1, hB1⟩; have hnm := HN.out _ hR1; have S1 := Lib.hid (S0.out.step hR1 hB1 (skip_le _ _)); clear hR1 hB1))
            | (go_at_call 87; refine hnm.mono ?_; rintro e w2 ⟨rfl, hR2, hB2⟩; have S2 := Lib.hid (S1.out.step hR2 hB2 hnl); clear hR2 hB2; obtain ⟨_, e1, _, _, _, _, _, ef⟩ := S2.out.cells; have ef1 := ef 1; clear ef; have S3 := Lib.hid (S2.out.set h12 1 (.string (bs (U.n8 nm)))); have hat := HA.out _ S3.out.inv.rd S3.out.inv.env)
            | (go_at_call 62; refine hat.mono ?_; rintro e w4 ⟨av, rfl, hO4, hR4, hB4⟩; obtain ⟨ap, an, ac, rfl⟩ := own_slice hO4; have S4 := Lib.hid (S3.out.step hR4 hB4 hal); have O4 := Lib.hid (own_base hO4 (by have := S3.out.inv.rd.lt; have := S3.out.inv.hB; omega : B ≤ _)); clear hR4 hB4 hO4; obtain ⟨_, _, q2, _, _, _, _, qf⟩ := S4.out.cells; have qf2 := qf 2; clear qf; have S5 := Lib.hid (S4.out.set h12 2 (.slice ap an ac)); have O5 := Lib.hid ((KeepT.set S4.out.box (by decide) 2 (.slice ap an ac)).own O4.out); have hsl := HS.out _ S5.out.inv.rd)
            | (go_at_call 59; refine hsl.mono ?_; rintro e w' ⟨rfl, rfl⟩; have hwn := HW.out _ S5.out.inv.rd)
            | (go_at_call 88; refine hwn.mono ?_; rintro e w8 ⟨rfl, hR8, hB8⟩; have S8 := Lib.hid (S5.out.step hR8 hB8 (by omega)); have htg := HT.out (.slice ap an ac) _ S8.out.inv ((KeepT.bar hB8 S5.out.inv.rd.2 (by decide)).own O5.out); obtain ⟨g0, g1, g2, g3, g4, g5, g6, _⟩ := S8.out.cells; clear hR8 hB8)
            | (go_at_call 93; refine htg.mono ?_; rintro e w9 ⟨rfl, x', hI, hB9⟩; have HI := Lib.hid hI; clear hI))
          go_end0
          exact ⟨rfl, x', HI.out, S8.out.bel.trans hB9⟩
      | true =>
        rw [if_pos rfl]
        have hlen1 : (U.n8 (s2.1.take 1)).length = 1 := by
          obtain ⟨l2, p2⟩ := s2
          cases l2 with
          | nil => exact absurd (show false = true from hse) (by decide)
          | cons c r =>
            rw [sees_one] at hse
            have : (47 : Nat) = c := by simpa using hse
            subst this
            simp [one_n8, K.enc_low]
        have HTK : Hid (∀ W, Rd b s2 x W → Calls Tryz.prog 61 #[.pointer (some ⟨b, 0, none⟩), .int .i64 1] W (Took b s2 x 1 W)) := Lib.hid fun W hW => take_any 1 b s2 x W hW 1 (by rw [hlen1]; rfl)
        have hskl : (K.skip s2 1).1.length ≤ s2.1.length := skip_le _ _
        rw [hse] at HS
        have HW : Hid (∀ W, Rd b (K.skip s2 1) x W → Calls Tryz.prog 88 #[.pointer (some ⟨b, 0, none⟩), .string ⟨#[62]⟩] W (Step b x W noRet (unitOf (K.want [62] (K.skip s2 1))))) := Lib.hid fun W hW => want_any [62] gt_small b _ x W hW _ rfl
        cases hw : K.want [62] (K.skip s2 1) with
        | error er =>
          rw [hw] at HW
          clear hw hse
          go_enter Tryz.func68, Tryz.ntmps68
          go_wp2_with (first
            | (go_at_call 61; first | ((with_reducible refine htk.mono ?_); rintro e w1 ⟨rfl, hR1, hB1⟩; have hnm := HN.out _ hR1; have S1 := Lib.hid (S0.out.step hR1 hB1 (skip_le _ _)); clear hR1 hB1) | ((with_reducible refine htk2.mono ?_); rintro e w6 ⟨rfl, hR6, hB6⟩; have S6 := Lib.hid (S5.out.step hR6 hB6 hskl); have O6 := Lib.hid ((KeepT.bar hB6 S5.out.inv.rd.2 (by decide)).own O5.out); clear hR6 hB6; obtain ⟨_, _, _, _, _, _, y6, yf⟩ := S6.out.cells; have yf6 := yf 6; clear yf; have S7 := Lib.hid (S6.out.set h12 6 (.bool true)); have O7 := Lib.hid ((KeepT.set S6.out.box (by decide) 6 (.bool true)).own O6.out); have hwn := HW.out _ S7.out.inv.rd))
            | (go_at_call 87; refine hnm.mono ?_; rintro e w2 ⟨rfl, hR2, hB2⟩; have S2 := Lib.hid (S1.out.step hR2 hB2 hnl); clear hR2 hB2; obtain ⟨_, e1, _, _, _, _, _, ef⟩ := S2.out.cells; have ef1 := ef 1; clear ef; have S3 := Lib.hid (S2.out.set h12 1 (.string (bs (U.n8 nm)))); have hat := HA.out _ S3.out.inv.rd S3.out.inv.env)
            | (go_at_call 62; refine hat.mono ?_; rintro e w4 ⟨av, rfl, hO4, hR4, hB4⟩; obtain ⟨ap, an, ac, rfl⟩ := own_slice hO4; have S4 := Lib.hid (S3.out.step hR4 hB4 hal); have O4 := Lib.hid (own_base hO4 (by have := S3.out.inv.rd.lt; have := S3.out.inv.hB; omega : B ≤ _)); clear hR4 hB4 hO4; obtain ⟨_, _, q2, _, _, _, _, qf⟩ := S4.out.cells; have qf2 := qf 2; clear qf; have S5 := Lib.hid (S4.out.set h12 2 (.slice ap an ac)); have O5 := Lib.hid ((KeepT.set S4.out.box (by decide) 2 (.slice ap an ac)).own O4.out); have hsl := HS.out _ S5.out.inv.rd)
            | (go_at_call 59; refine hsl.mono ?_; rintro e w' ⟨rfl, rfl⟩; have htk2 := HTK.out _ S5.out.inv.rd)
            | (go_at_call 88; refine hwn.mono ?_; rintro e w8 ⟨⟨fb, rfl, hfc⟩, hfb⟩))
          exact ⟨rfl, ⟨_, rfl, hfc⟩, S7.out.bel.trans (hfb.below S7.out.inv.hB (by have := S7.out.inv.rd.lt; have := S7.out.inv.hB; omega))⟩
        | ok s3 =>
          have hwl := want_le hw
          rw [hw] at HW
          clear hw hse
          simp only
          have HT : Hid (∀ (av : Value) W, Inv b mm B s3 t x W → W.ownsRow B 40 4 av l.length (attrCells l) → Calls Tryz.prog 93 #[.pointer (some ⟨b, 0, none⟩), tokVal ⟨1, nm, l, [], s.2, true⟩ av] W (Tagged b mm B s3 t ⟨1, nm, l, [], s.2, true⟩ W)) :=
            Lib.hid fun av W hW hO => tag_any b mm B s3 t x W hW h12 _ av hO (by omega)
          go_enter Tryz.func68, Tryz.ntmps68
          go_wp2_with (first
            | (go_at_call 61; first | ((with_reducible refine htk.mono ?_); rintro e w1 ⟨rfl, hR1, hB1⟩; have hnm := HN.out _ hR1; have S1 := Lib.hid (S0.out.step hR1 hB1 (skip_le _ _)); clear hR1 hB1) | ((with_reducible refine htk2.mono ?_); rintro e w6 ⟨rfl, hR6, hB6⟩; have S6 := Lib.hid (S5.out.step hR6 hB6 hskl); have O6 := Lib.hid ((KeepT.bar hB6 S5.out.inv.rd.2 (by decide)).own O5.out); clear hR6 hB6; obtain ⟨_, _, _, _, _, _, y6, yf⟩ := S6.out.cells; have yf6 := yf 6; clear yf; have S7 := Lib.hid (S6.out.set h12 6 (.bool true)); have O7 := Lib.hid ((KeepT.set S6.out.box (by decide) 6 (.bool true)).own O6.out); have hwn := HW.out _ S7.out.inv.rd))
            | (go_at_call 87; refine hnm.mono ?_; rintro e w2 ⟨rfl, hR2, hB2⟩; have S2 := Lib.hid (S1.out.step hR2 hB2 hnl); clear hR2 hB2; obtain ⟨_, e1, _, _, _, _, _, ef⟩ := S2.out.cells; have ef1 := ef 1; clear ef; have S3 := Lib.hid (S2.out.set h12 1 (.string (bs (U.n8 nm)))); have hat := HA.out _ S3.out.inv.rd S3.out.inv.env)
            | (go_at_call 62; refine hat.mono ?_; rintro e w4 ⟨av, rfl, hO4, hR4, hB4⟩; obtain ⟨ap, an, ac, rfl⟩ := own_slice hO4; have S4 := Lib.hid (S3.out.step hR4 hB4 hal); have O4 := Lib.hid (own_base hO4 (by have := S3.out.inv.rd.lt; have := S3.out.inv.hB; omega : B ≤ _)); clear hR4 hB4 hO4; obtain ⟨_, _, q2, _, _, _, _, qf⟩ := S4.out.cells; have qf2 := qf 2; clear qf; have S5 := Lib.hid (S4.out.set h12 2 (.slice ap an ac)); have O5 := Lib.hid ((KeepT.set S4.out.box (by decide) 2 (.slice ap an ac)).own O4.out); have hsl := HS.out _ S5.out.inv.rd)
            | (go_at_call 59; refine hsl.mono ?_; rintro e w' ⟨rfl, rfl⟩; have htk2 := HTK.out _ S5.out.inv.rd)
            | (go_at_call 88; refine hwn.mono ?_; rintro e w8 ⟨rfl, hR8, hB8⟩; have S8 := Lib.hid (S7.out.step hR8 hB8 (by omega)); have htg := HT.out (.slice ap an ac) _ S8.out.inv ((KeepT.bar hB8 S7.out.inv.rd.2 (by decide)).own O7.out); obtain ⟨g0, g1, g2, g3, g4, g5, g6, _⟩ := S8.out.cells; clear hR8 hB8)
            | (go_at_call 93; refine htg.mono ?_; rintro e w9 ⟨rfl, x', hI, hB9⟩; have HI := Lib.hid hI; clear hI))
          go_end0
          exact ⟨rfl, x', HI.out, S8.out.bel.trans hB9⟩

end Go.Proofs.YtdilngjolhmjnaaGreatDoor
