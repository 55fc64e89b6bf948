/- The reader ends its text: a token behind those that it has told. Conditions: those that each theorem names. -/
import Derived.Test.YtdilngjolhmjnaaGreatDoorB1
import Derived.Deep.RegionHeld3
import Derived.Deep.RegionLaw
namespace Go.Proofs.YtdilngjolhmjnaaGreatDoor
open Go.RowKit Go.Shelf
set_option linter.all false

theorem info38 : (Tryz.prog.info? 38).map (fun i => (i.zero, i.size, i.bytes)) = some (some (.agg #[.int .i64 0, .string ⟨#[]⟩, .slice none 0 0, .string ⟨#[]⟩, .int .i64 0, .int .i64 0, .bool false]), 7, 88) := by kernel_rfl
theorem info40 : (Tryz.prog.info? 40).map (fun i => (i.zero, i.size, i.bytes)) = some (some (.agg #[.string ⟨#[]⟩, .string ⟨#[]⟩, .int .i64 0, .int .i64 0]), 4, 48) := by kernel_rfl
/-- Other blocks of tokens' cells stay. -/
def KeepOther (lv : Value) (w w' : World) : Prop := ∀ (g : Nat) (c : Array Value), w.heap[g]? = some (.cells c 38 (0, 0)) → some g ≠ lv.ownBlock → w'.heap[g]? = some (.cells c 38 (0, 0))
/-- What endText leaves. -/
def Ended (b mm B : Nat) (s : K.St) (t : K.Told) (x : X6) (w : World) (e : Ending) (w' : World) : Prop :=
  e = .returned (.tuple #[]) ∧ ∃ x', Inv b mm B s ⟨K.endText t, [], t.place⟩ x' w' ∧ Below B w w' ∧ KeepOther x.2.1 w w' ∧ KeepT 40 w w' ∧ KeepT 29 w w'

theorem reset_raw (B b o T : Nat) (C : Array Value) (w : World) (hB : B ≤ b) (hk : BdKind T o C.size) (hbk : w.heap[b]? = some (.cells C T (0, 0))) :
    Calls Tryz.prog 71 #[.pointer (some ⟨b, o, none⟩)] w fun e w' => e = .returned (.tuple #[]) ∧ BdAt B b o T ((C.setIfInBounds o (.pointer none)).setIfInBounds (o + 1) (.slice none 0 0)) [] w' ∧ Below B w w' ∧ Lib.OthersKept 5 (some b) w w' := by
  have hroom := hk.room
  obtain ⟨p, hp⟩ : ∃ p, C[o]? = some p := ⟨_, Array.getElem?_eq_getElem (by omega)⟩
  obtain ⟨v, hv⟩ : ∃ v, C[o + 1]? = some v := ⟨_, Array.getElem?_eq_getElem (by omega)⟩
  have c0 : w.cell? ⟨b, o, none⟩ = some p := by rw [Lib.cell_of_heap hbk]; exact hp
  have c1 : w.cell? ⟨b, o + 1, none⟩ = some v := by rw [Lib.cell_of_heap hbk]; exact hv
  have f0 : w.frozen? ⟨b, o, none⟩ = false := Lib.frozen_of_heap hbk _
  have f1 : w.frozen? ⟨b, o + 1, none⟩ = false := Lib.frozen_of_heap hbk _
  have HBK := Lib.hid hbk
  clear hbk hv hp
  go_enter Tryz.func71, Tryz.ntmps71
  go_wp2
  go_end0
  refine ⟨rfl, ⟨hB, by simpa using hk, heap_set (heap_set HBK.out o _) (o + 1) _, .inl ?_, .slice none 0 0, ?_, World.ownsRowF_nil _ _ _ _⟩, ((Below.refl B w).setCell (p := ⟨b, o, none⟩) hB _).setCell (p := ⟨b, o + 1, none⟩) hB _, ((Lib.OthersKept.refl _ _ _).setCell ⟨b, o, none⟩ rfl _).setCell ⟨b, o + 1, none⟩ rfl _⟩
  · rw [Array.getElem?_setIfInBounds_ne (by omega), Array.getElem?_setIfInBounds_self_of_lt (by omega)]
  · rw [Array.getElem?_setIfInBounds_self_of_lt (by rw [Array.size_setIfInBounds]; omega)]

/-- The tokens with one more: what the append, the store and what comes behind them leave. -/
theorem told_more {b mm B : Nat} {s : K.St} {t : K.Told} {x : X6} {w w2 w3 w4 : World} {xs : List Value} (hrd : Rd b s x w) (henv : Env b mm x w) (hB : B ≤ b) (hown : w.ownsRow B 38 7 x.2.1 t.toks.length xs) (htoks : ToksAt B w t.toks xs) (h12 : 12 ≤ B)
    (hb2 : w2.heap[b]? = some (.cells (cells9 s x) 57 (0, 0))) (hbel2 : Below B w w2) (ho2 : Lib.OthersKept 5 (some b) w w2)
    (o : Obj) {g cap : Nat} (tk : K.Tk) (av : Value) (hav : w2.ownsRow B 40 4 av tk.attrs.length (attrCells tk.attrs)) (hown3 : w3.ownsRow B 38 7 (.slice (some ⟨g, 0, none⟩) (t.toks.length + 1) cap) (t.toks.length + 1) (xs ++ tokCells tk av)) (hgrow : (w2.alloc o).grownBy w3 x.2.1.ownBlock)
    (hb3 : w3.heap[b]? = some (.cells (cells9 s x) 57 (0, 0))) (h4 : Lib.OthersKept 5 (some b) (w3.setCell ⟨b, 4, none⟩ (.slice (some ⟨g, 0, none⟩) (t.toks.length + 1) cap)) w4) (hbel4 : Below B (w3.setCell ⟨b, 4, none⟩ (.slice (some ⟨g, 0, none⟩) (t.toks.length + 1) cap)) w4) :
    (∃ ys, w4.ownsRow B 38 7 (.slice (some ⟨g, 0, none⟩) (t.toks.length + 1) cap) (t.toks ++ [tk]).length ys ∧ ToksAt B w4 (t.toks ++ [tk]) ys) ∧ Below B w w4 ∧ KeepOther x.2.1 w w4 ∧ KeepT 40 w w4 ∧ KeepT 29 w w4 ∧
    (∀ x' : X6, x'.1 = x.1 → Env b mm x' w4) := by
  have hBsz : B ≤ w2.heap.size := by have := lt_of_heap hb2; omega
  have hrow := own_block hown
  have hown2 : w2.ownsRow B 38 7 x.2.1 t.toks.length xs := (KeepT.others ho2 hrd.2 (by decide) (by decide)).own hown
  have hrow2 := own_block hown2
  have hal : Below w2.heap.size w2 (w2.alloc o) := (Below.refl _ _).alloc (Nat.le_refl _) _
  have hb3' := heap_set hb3 4 (Value.slice (some ⟨g, 0, none⟩) (t.toks.length + 1) cap)
  have k23 : ∀ e, e ≠ 38 → KeepT e w2 w3 := fun e he => (KeepT.bel hal).trans (KeepT.grown hgrow (fun r hr => by
    obtain ⟨_, c, hc⟩ := hrow2 r hr
    exact ⟨c, 38, _, Below.keep hal hc, fun h => he h.symm⟩))
  have k34 : ∀ e, e ≠ 57 → e ≠ 5 → KeepT e w3 w4 := fun e h1 h2 => (KeepT.set hb3 h1 4 _).trans (KeepT.others h4 hb3' h1 h2)
  have k2 : ∀ e, e ≠ 57 → e ≠ 5 → KeepT e w w2 := fun e h1 h2 => KeepT.others ho2 hrd.2 h1 h2
  have hbel3 : Below B w2 w3 := (hal.mono hBsz).grown hgrow (by have := heap_size w2 o; omega) (fun r hr => (hrow2 r hr).1)
  have hbel34 : Below B w3 w4 := ((Below.refl B w3).setCell (p := ⟨b, 4, none⟩) hB _).trans hbel4
  refine ⟨⟨xs ++ tokCells tk av, ?_, ?_⟩, (hbel2.trans hbel3).trans hbel34, ?_, ((k2 40 (by decide) (by decide)).trans (k23 40 (by decide))).trans (k34 40 (by decide) (by decide)), ((k2 29 (by decide) (by decide)).trans (k23 29 (by decide))).trans (k34 29 (by decide) (by decide)), ?_⟩
  · rw [List.length_append]
    exact (k34 38 (by decide) (by decide)).own hown3
  · refine ToksAt.snoc ?_ ?_
    · exact ((k23 40 (by decide)).trans (k34 40 (by decide) (by decide))).own hav
    · exact htoks.keep (((k2 40 (by decide) (by decide)).trans (k23 40 (by decide))).trans (k34 40 (by decide) (by decide)))
  · intro r c hr hne
    refine k34 38 (by decide) (by decide) r c ?_
    have h2 := k2 38 (by decide) (by decide) r c hr
    rw [hgrow.block r (by have := lt_of_heap h2; have := heap_size w2 o; omega) hne]
    exact Below.keep hal h2
  · intro x' hx
    refine ⟨hx.trans henv.names, ?_, henv.low.below ((hbel2.trans hbel3).trans hbel34) h12, henv.hb, henv.hm⟩
    obtain ⟨es, clock, hm, r⟩ := henv.lies
    have m2 := ho2 mm _ hm (by simp; exact henv.hm) (fun c f => by simp)
    have m3 : w3.heap[mm]? = some (.map es clock) := by
      rw [hgrow.block mm (by have := lt_of_heap m2; have := heap_size w2 o; omega) ?_]
      · exact Below.keep hal m2
      · intro h
        obtain ⟨_, c, hc⟩ := hrow2 mm h.symm
        rw [m2] at hc
        cases hc
    have m3' : (w3.setCell ⟨b, 4, none⟩ (.slice (some ⟨g, 0, none⟩) (t.toks.length + 1) cap)).heap[mm]? = some (.map es clock) := by
      rw [Below.heap_setCell _ _ _ _ (by simpa using henv.hm)]
      exact m3
    exact ⟨es, clock, h4 mm _ m3' (by simp; exact henv.hm) (fun c f => by simp), r⟩

set_option maxHeartbeats 8000000 in
set_option maxRecDepth 100000 in
theorem endText_any (b mm B : Nat) (s : K.St) (t : K.Told) (x : X6) (w : World) (h : Inv b mm B s t x w) (h12 : 12 ≤ B) :
    Calls Tryz.prog 40 #[.pointer (some ⟨b, 0, none⟩)] w (Ended b mm B s t x w) := by
  obtain ⟨hrd, henv, hB, ⟨xs, hown, htoks⟩, htext, hat, ⟨hl, hc, hlv, hcv⟩, hsc, hr0, hm0⟩ := h
  have hlen := len_any B b 5 57 _ _ w htext
  rw [text_len] at hlen
  by_cases ht : t.text = []
  · have h0 : (U.n8 t.text).length = 0 := by rw [ht]; rfl
    rw [h0] at hlen
    have hlen : Calls Tryz.prog 70 #[.pointer (some ⟨b, 5, none⟩)] w fun e w' => e = .returned (.int .i64 0) ∧ w = w' := hlen
    have hfin : Inv b mm B s ⟨K.endText t, [], t.place⟩ x w := by
      have he : K.endText t = t.toks := by unfold K.endText; rw [if_pos ht]
      rw [he]
      refine ⟨hrd, henv, hB, ⟨xs, hown, htoks⟩, by rw [ht] at htext; exact htext, fun h => absurd rfl h, ⟨hl, hc, hlv, hcv⟩, fun c hc => (by cases hc), by show 0 + _ ≤ _; omega, ?_⟩
      rw [ht] at hm0
      exact hm0
    have HF := Lib.hid hfin
    clear hfin htext h0 ht hat hrd henv hown htoks hlv hcv
    go_enter Tryz.func40, Tryz.ntmps40
    go_wp2_with (go_at_call 70; refine hlen.mono ?_; rintro e w' ⟨rfl, rfl⟩)
    refine bodyPost_ret (results_none rfl _ _ _) rfl ?_
    exact ⟨rfl, x, HF.out, Below.refl _ _, fun _ _ hg _ => hg, KeepT.refl _ _, KeepT.refl _ _⟩
  · have h0 : (((U.n8 t.text).length : Int) == 0) = false := by
      have : (U.n8 t.text).length ≠ 0 := fun h => ht (K.n8_eq_nil.1 (List.eq_nil_of_length_eq_zero h))
      exact beq_eq_false_iff_ne.2 (by omega)
    obtain ⟨hp1, hp2⟩ := hat ht
    have hhb : w.heap[b]? = some (.cells (cells9 s x) 57 (0, 0)) := hrd.2
    have c4 : w.cell? ⟨b, 4, none⟩ = some x.2.1 := by rw [Lib.cell_of_heap hhb]; rfl
    have c7 : w.cell? ⟨b, 7, none⟩ = some (.int .i64 (t.place.1 : Int)) := by rw [Lib.cell_of_heap hhb, ← hp1]; rfl
    have c8 : w.cell? ⟨b, 8, none⟩ = some (.int .i64 (t.place.2 : Int)) := by rw [Lib.cell_of_heap hhb, ← hp2]; rfl
    have hstr : ∀ W, W.heap[b]? = w.heap[b]? → W.ownsRowF B 5 1 x.2.2.2.1 (Lib.byteCells (U.n8 t.text)).length (Lib.byteCells (U.n8 t.text)) → Calls Tryz.prog 36 #[.pointer (some ⟨b, 5, none⟩)] W fun e w' => e = .returned (.string (bs (U.n8 t.text))) ∧ w'.heap[b]? = some (.cells (cells9 s x) 57 (0, 0)) ∧ Below B W w' ∧ Lib.OthersKept 5 (some b) W w' := by
      intro W hW hWo
      obtain ⟨_, hk, _, ha, _⟩ := htext
      exact string_any B b 5 57 _ (U.n8 t.text) W ⟨hB, hk, hW.trans hhb, ha, _, rfl, hWo⟩ (fun h => ht (K.n8_eq_nil.1 h))
    have hbuf : w.ownsRowF B 5 1 x.2.2.2.1 (Lib.byteCells (U.n8 t.text)).length (Lib.byteCells (U.n8 t.text)) := by
      obtain ⟨_, _, _, _, v, hv, ho⟩ := htext
      have hv : some x.2.2.2.1 = some v := hv
      cases hv
      exact ho
    obtain ⟨i0, hi0, hz0, hz1, hz2⟩ := info_parts info38
    have hblt : b < w.heap.size := lt_of_heap hhb
    have hn63 : t.toks.length + 1 ≤ maxLen := by unfold maxLen; omega
    have hnby : (t.toks.length + 1) * 88 ≤ 140737488355328 := by omega
    have hbl : x.2.1.ownBlock ≠ some b := by
      intro e
      obtain ⟨_, c, hc'⟩ := own_block hown b e
      rw [hhb] at hc'
      cases hc'
    have HLV := Lib.hid hlv
    have HCV := Lib.hid hcv
    clear hlv hcv
    go_enter Tryz.func40, Tryz.ntmps40
    go_wp2_with (go_at_call 70; refine hlen.mono ?_; rintro e w' ⟨rfl, rfl⟩)
    go_region_law
      (first
        | ((refine step_append_lies _ (by rfl) _ _ _ (by rfl) B 38 i0 _ 7 88 Tryz.underlying23 hi0 hz0 hz1 hz2 rfl (by omega) x.2.1 t.toks.length xs (by rfl) ((hown2.alloc _).drew) ⟨w2.heap.size, 0, none⟩ 1 1 [.int .i64 3, .string ⟨#[]⟩, .slice none 0 0, .string (bs (U.n8 t.text)), .int .i64 (t.place.1 : Int), .int .i64 (t.place.2 : Int), .bool false] (by rfl) (by rfl) (World.news_of_block (cs := #[.int .i64 3, .string ⟨#[]⟩, .slice none 0 0, .string (bs (U.n8 t.text)), .int .i64 (t.place.1 : Int), .int .i64 (t.place.2 : Int), .bool false]) (t := 38) (fr := (0, 0)) (heap_alloc_new w2 _)) (by simp [Value.oneCell']) (by omega) hn63 hnby hBs (w2.heap.size + 1) (by simp) ?_; intro g cap w3 hown3 hgrow hat3 hlt3; have hb3 : w3.heap[b]? = some (.cells (cells9 s x) 57 (0, 0)) := (hgrow.block b (by simp; omega) hbl.symm).trans (Below.keep ((Below.refl w2.heap.size w2).alloc (Nat.le_refl _) _) hb2); have j4 : w3.cell? ⟨b, 4, none⟩ = some x.2.1 := (by rw [Lib.cell_of_heap hb3]; rfl); have j7 : w3.cell? ⟨b, 7, none⟩ = some (.int .i64 (t.place.1 : Int)) := (by rw [Lib.cell_of_heap hb3, ← hp1]; rfl); have j8 : w3.cell? ⟨b, 8, none⟩ = some (.int .i64 (t.place.2 : Int)) := (by rw [Lib.cell_of_heap hb3, ← hp2]; rfl); have jf : w3.frozen? ⟨b, 4, none⟩ = false := Lib.frozen_of_heap hb3 _))
        | ((go_simp; go_at_call 36; refine (hstr w.drew rfl hbuf).mono ?_; rintro e w2 ⟨rfl, hb2, hbel2, ho2⟩; have k4 : w2.cell? ⟨b, 4, none⟩ = some x.2.1 := (by rw [Lib.cell_of_heap hb2]; rfl); have k7 : w2.cell? ⟨b, 7, none⟩ = some (.int .i64 (t.place.1 : Int)) := (by rw [Lib.cell_of_heap hb2, ← hp1]; rfl); have k8 : w2.cell? ⟨b, 8, none⟩ = some (.int .i64 (t.place.2 : Int)) := (by rw [Lib.cell_of_heap hb2, ← hp2]; rfl); have hown2 : w2.ownsRow B 38 7 x.2.1 t.toks.length xs := (KeepT.others (w := w.drew) ho2 hhb (by decide) (by decide)).own hown; have hbl2 : b < w2.heap.size := lt_of_heap hb2; have hBs : B ≤ (w2.alloc (.cells #[.int .i64 3, .string ⟨#[]⟩, .slice none 0 0, .string (bs (U.n8 t.text)), .int .i64 (t.place.1 : Int), .int .i64 (t.place.2 : Int), .bool false] 38)).drew.heap.size := (by have := hbel2.size; simp; omega))))
    all_goals
      have hreset := reset_raw B b 5 57 _ (w3.setCell ⟨b, 4, none⟩ (.slice (some ⟨g, 0, none⟩) (t.toks.length + 1) cap)) hB (by simpa using kindReader) (heap_set hb3 4 _)
      have HM := Lib.hid hgrow
      have HO3 := Lib.hid hown3
      have HB2 := Lib.hid hb2
      have HBel2 := Lib.hid hbel2
      have HOt2 := Lib.hid ho2
      have HB3 := Lib.hid hb3
      clear hgrow hown3 hb2 hbel2 ho2 hb3 hat3
      go_wp2_with (go_at_call 71; refine hreset.mono ?_; rintro e w4 ⟨rfl, hbd4, hbel4, ho4⟩)
      go_end0
      obtain ⟨hL, hBB, hKO, hK40, hK29, hE⟩ := told_more (w := w) hrd henv hB hown htoks h12 HB2.out (((Below.refl B w).drew).trans HBel2.out) (show Lib.OthersKept 5 (some b) w w2 from HOt2.out) _ ⟨3, [], [], t.text, t.place, false⟩ (.slice none 0 0) ⟨rfl, .inl ⟨rfl, rfl⟩⟩ HO3.out HM.out HB3.out ho4 hbel4
      have hend : K.endText t = t.toks ++ [⟨3, [], [], t.text, t.place, false⟩] := by unfold K.endText; rw [if_neg ht]
      refine ⟨rfl, (x.1, .slice (some ⟨g, 0, none⟩) (t.toks.length + 1) cap, .pointer none, .slice none 0 0, x.2.2.2.2), ⟨⟨hrd.1, hbd4.2.2.1⟩, hE _ rfl, hB, ?_, hbd4, fun h => absurd rfl h, ⟨hl, hc, HLV.out, HCV.out⟩, fun c hc => (by cases hc), by show 0 + _ ≤ _; omega, ?_⟩, hBB, hKO, hK40, hK29⟩
      · rw [hend]; exact hL
      · rw [hend]
        rw [if_neg ht] at hm0
        show (t.toks ++ [_]).length + 0 + _ ≤ _
        rw [List.length_append]
        exact hm0
end Go.Proofs.YtdilngjolhmjnaaGreatDoor
