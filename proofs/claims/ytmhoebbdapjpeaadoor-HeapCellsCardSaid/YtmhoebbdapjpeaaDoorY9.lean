/- Layer 8: Get, Drop. Conditions: those that each theorem names. Layer 8: Key. Conditions: those that each theorem names. Layer 8: Keys. Conditions: those that each theorem names. Layer 8: a copy of values; Items. Conditions: those that each theorem names. -/
import Derived.Test.YtmhoebbdapjpeaaDoorY8
import Derived.Test.YtmhoebbdapjpeaaDoorY5
import Derived.Lib.ItoaLen
import Derived.OwnWalk
import Derived.Laws.CopyRow
namespace Go.Proofs.YtmhoebbdapjpeaaDoor
open Go.RowKit Go.Maps
set_option linter.all false

theorem findAns_form (R : Option (Nat × V)) : ∃ (a k : Int) (n : Nat) (T : ByteArray) (r : Int), findAns R = .tuple #[.int .i64 a, .agg #[.int .i64 k, .float .f64 n, .string T, .int .i64 r]] ∧ ansV (R.map (·.2)) = .tuple #[.agg #[.int .i64 k, .float .f64 n, .string T, .int .i64 r], .bool (a != -1)] := by
  rcases R with _ | ⟨i, v⟩
  · exact ⟨-1, 0, 0, ⟨#[]⟩, 0, rfl, rfl⟩
  · refine ⟨i, v.k, v.n, bs v.t, v.r, rfl, ?_⟩
    have : ((i : Int) != -1) = true := by rw [bne_iff_ne]; omega
    rw [this]
    rfl
theorem Bx.over {N : Nat} {k k' : Int} {n n' : Nat} {S S' : ByteArray} {r r' : Int} {w : World} (H : Bx N k n S r w) :
    Bx N k' n' S' r' ((((w.setCell ⟨N, 0, none⟩ (.int .i64 k')).setCell ⟨N, 1, none⟩ (.float .f64 n')).setCell ⟨N, 2, none⟩ (.string S')).setCell ⟨N, 3, none⟩ (.int .i64 r')) :=
  heap_set (heap_set (heap_set (heap_set H 0 _) 1 _) 2 _) 3 _
set_option maxRecDepth 100000 in
set_option maxHeartbeats 1000000 in
theorem get_any (h : Nat) (A : Hp) (sv : Value) (gs : List Gx) (i : Int) (k : List UInt8) (hk : k.length ≤ 140737488355328) (w : World) (H : HeapG h A sv gs w) (F : A.Few) :
    Calls Tryd.prog 24 #[.pointer (some ⟨h, 0, none⟩), .int .i64 i, .string (bs k)] w fun e w' => e = .returned (ansV ((A.find k i).map (·.2))) ∧ Fr [] w w' := by
  have hfind : ∀ W, Fr [] w W → Calls Tryd.prog 55 #[.pointer (some ⟨h, 0, none⟩), .int .i64 i, .string (bs k)] W (FindPost (A.find k i) W) := fun W hW => hFind_any h A sv gs i k hk W (H.fr hW) F
  obtain ⟨a, fk, fn, fT, fr, hfa, hans⟩ := findAns_form (A.find k i)
  have hfind' : ∀ W, Fr [] w W → Calls Tryd.prog 55 #[.pointer (some ⟨h, 0, none⟩), .int .i64 i, .string (bs k)] W fun e w' => e = .returned (.tuple #[.int .i64 a, .agg #[.int .i64 fk, .float .f64 fn, .string fT, .int .i64 fr]]) ∧ Fr [] W w' := by
    intro W hW
    refine (hfind W hW).mono ?_
    rintro e w' ⟨rfl, hf⟩
    exact ⟨by rw [hfa], hf⟩
  rw [hans]
  have HF := Lib.hid hfind'
  have r0 := Lib.hid (Fr.alloc w (.cells #[.int .i64 0, .float .f64 0, .string ⟨#[]⟩, .int .i64 0] 31 (0, 0)))
  have x0 := Lib.hid (Bx.new 0 0 ⟨#[]⟩ 0 w)
  have hst := store_float
  clear hfind hfind' hfa hans H F hk
  generalize bs k = S at *
  go_enter Tryd.func24, Tryd.ntmps24
  go_wp2_with (first
    | (go_at_call 55; ((with_reducible refine (HF.out _ r0.out).mono ?_); rintro e w1 ⟨rfl, hf1⟩; have R1 := Lib.hid (r0.out.trans hf1 (fun _ h => by cases h)); have hx1 := x0.out.below hf1.below0; obtain ⟨y0, y1, y2, y3⟩ := hx1.cells; have z0 := blk_free hx1 0; have z1 := blk_free hx1 1; have z2 := blk_free hx1 2; have z3 := blk_free hx1 3; have hN1 : w.heap.size < w1.heap.size := lt_of_heap hx1; have X1 := Lib.hid hx1; clear hx1 hf1))
    | fail)
  have hR := (fr_box R1.out (.int .i64 fk) (.float .f64 fn) (.string fT) (.int .i64 fr)).trans (Fr.alloc _ (.cells #[.int .i64 fk, .float .f64 fn, .string fT, .int .i64 fr] 31 (0, 0))) (fun _ h => by cases h)
  have hB := (X1.out.over (k' := fk) (n' := fn) (S' := fT) (r' := fr)).below (Fr.alloc _ (.cells #[.int .i64 fk, .float .f64 fn, .string fT, .int .i64 fr] 31 (0, 0))).below0
  clear y0 y1 y2 y3 z0 z1 z2 z3
  generalize (World.alloc _ _) = W3 at hR hB ⊢
  obtain ⟨y0, y1, y2, y3⟩ := hB.cells
  exact bodyPost_ret (v := .tuple #[.agg #[.int .i64 fk, .float .f64 fn, .string fT, .int .i64 fr], .bool (a != -1)]) (by simp [results, Tryd.results24, go_sem, y0, y1, y2, y3]) rfl ⟨rfl, hR⟩
def dropP (l : List (List UInt8 × V)) (k : List UInt8) : List (List UInt8 × V) := l.filter fun q => decide (q.1 ≠ k)
theorem dropP_L (L : List Pr) (k : List UInt8) : (dropL L k).map (·.2) = dropP (L.map (·.2)) k := by
  unfold dropL dropP; rw [List.filter_map]; rfl
set_option maxRecDepth 100000 in
set_option maxHeartbeats 2000000 in
theorem drop_props (h : Nat) (A : Hp) (sv : Value) (gs : List Gx) (i : Nat) (o : Ob) (k : List UInt8) (hk : k.length ≤ 140737488355328) (w : World)
    (H : HeapG h A sv gs w) (F : A.Few) (ho : A.objs[i]? = some o) (hkl : ¬ (o.kind = 2 ∧ k = lenB)) (hki : oIdx o.kind k = none) (v : V) (hv : lookP o.props k = some v) :
    Calls Tryd.prog 26 #[.pointer (some ⟨h, 0, none⟩), .int .i64 (i : Int), .string (bs k)] w fun e w' => e = .returned (.bool true) ∧ Step h ⟨A.objs.set i { o with props := dropP o.props k }, A.left + 1⟩ (allBlocks h sv gs) w w' := by
  have hi : i < gs.length := by
    rw [← H.len]
    rcases Nat.lt_or_ge i A.objs.length with h' | h'
    · exact h'
    · rw [List.getElem?_eq_none h'] at ho; cases ho
  have hg : gs[i]? = some gs[i] := List.getElem?_eq_getElem hi
  generalize gs[i] = g at hg
  obtain ⟨gb, cap, hsv, hcell, hgbm, _⟩ := H.obj hg
  have hlen' := H.len
  have hmx : k.length ≤ maxLen := Nat.le_trans hk (by decide)
  have hownv : o.own k = some v := by unfold Ob.own; rw [if_neg hkl, hki]; exact hv
  have hown : Calls Tryd.prog 23 #[.pointer (some ⟨h, 0, none⟩), .int .i64 (i : Int), .string (bs k)] w fun e w' => e = .returned (.tuple #[.agg #[.int .i64 v.k, .float .f64 v.n, .string (bs v.t), .int .i64 v.r], .bool true]) ∧ Fr [] w w' := by
    have := own_any h A sv gs i o k hk w H ho F.objs (F.items i o ho)
    rw [hownv] at this
    exact this
  have hblk : ∀ W, Fr [] w W → W.cell? ⟨g.blk, 0, none⟩ = some (.int .i64 o.kind) := fun W hW => blk_cell ((H.fr hW).obs i o g ho hg).blk 0 _ rfl
  have hisl : ∀ W, Fr [] w W → Calls Tryd.prog 47 #[.pointer (some ⟨g.blk, 0, none⟩), .string (bs k)] W fun e w' => e = .returned (.bool false) ∧ W = w' := by
    intro W hW
    refine (isLength_any g.blk o.kind k W (hblk W hW)).mono ?_
    rintro e w' ⟨rfl, rfl⟩
    refine ⟨ret_bool ?_, rfl⟩
    rw [Bool.and_eq_false_iff, decide_eq_false_iff_not, decide_eq_false_iff_not]
    by_cases h2 : o.kind = 2
    · exact Or.inr (fun e => hkl ⟨h2, e⟩)
    · exact Or.inl h2
  have hidx : ∀ W, Fr [] w W → Calls Tryd.prog 49 #[.pointer (some ⟨g.blk, 0, none⟩), .string (bs k)] W fun e w' => e = .returned (.tuple #[.int .i64 0, .bool false]) ∧ ∃ d, w' = W.drewN d := by
    intro W hW
    refine (oIndex_any g.blk o.kind k hk W (hblk W hW)).mono ?_
    rintro e w' ⟨rfl, hd⟩
    exact ⟨by rw [hki]; rfl, hd⟩
  have hob := H.obs i o g ho hg
  have hlt := H.lt_g hg
  have hgh := H.apart_h hg
  have hhl := H.lt_h
  have hleft := F.left
  have hdrop : ∀ W, Fr [] w W → Calls Tryd.prog 56 #[.pointer (some ⟨g.blk, 2, none⟩), .string (bs k)] W fun e w' => e = .returned (.tuple #[]) ∧
      (w'.cell? ⟨h, 1, none⟩ = some (.int .i64 (A.left : Int)) ∧ w'.frozen? ⟨h, 1, none⟩ = false ∧ Step h ⟨A.objs.set i { o with props := dropP o.props k }, A.left + 1⟩ (allBlocks h sv gs) w (w'.setCell ⟨h, 1, none⟩ (.int .i64 ((A.left : Int) + 1)))) := by
    intro W hW
    have hHW := H.fr hW
    have hobW := hHW.obs i o g ho hg
    have hltW := hHW.lt_g hg
    obtain ⟨b, op, L, it⟩ := g
    have hvL : (L.find? (fun q => decide (q.2.1 = k))).map (·.2.2) = some v := by rw [← lookP_L, ← hob.eq]; exact hv
    obtain ⟨⟨x, k', v0⟩, hf⟩ : ∃ q, L.find? (fun q => decide (q.2.1 = k)) = some q := by
      cases hq : L.find? (fun q => decide (q.2.1 = k)) with
      | none => rw [hq] at hvL; cases hvL
      | some q => exact ⟨q, rfl⟩
    obtain ⟨m, r, rfl⟩ : ∃ m r, op = some (m, r) := by
      rcases op with _ | ⟨m, r⟩
      · have : L = [] := hob.props
        subst this
        cases hf
      · exact ⟨m, r, rfl⟩
    obtain ⟨hA, hbb⟩ := apart_R hobW.apart
    have hltR : ∀ x ∈ blocksR (some (m, r)) L, x < W.heap.size := fun x hx => hltW x (Gx.r_mem (Gx.mk b (some (m, r)) L it) hx)
    refine (pDrop_any b m r L k hmx W (blk_cell hobW.blk 2 _ rfl) hobW.props hA hobW.keys hbb hltR x k' v0 hf).mono ?_
    rintro e w' ⟨rfl, hD⟩
    have hhb : h ∉ m :: r :: L.map (·.1) := fun hm => hgh (Gx.r_mem (Gx.mk b (some (m, r)) L it) hm)
    have hhW : w'.heap[h]? = some (.cells #[sv, .int .i64 (A.left : Int)] 72 (0, 0)) := (hD.fr.block h hHW.lt_h hhb).trans hHW.hp
    refine ⟨rfl, blk_cell hhW 1 _ rfl, blk_free hhW 1, Step.pre hW ?_⟩
    have hset : HpC h sv (((A.left + 1 : Nat) : Int)) (w'.setCell ⟨h, 1, none⟩ (.int .i64 ((A.left : Int) + 1))) := by
      have := heap_set hhW 1 (.int .i64 ((A.left : Int) + 1))
      exact this
    have hPk : PropsR (some (m, r)) (dropL L k) (w'.setCell ⟨h, 1, none⟩ (.int .i64 ((A.left : Int) + 1))) := by
      refine hD.props.keep (fun y hy => heap_set_other ?_ 1 _)
      rintro rfl
      apply hhb
      have : blocksR (some (m, r)) (dropL L k) = m :: r :: (dropL L k).map (·.1) := rfl
      rw [this] at hy
      rcases List.mem_cons.1 hy with rfl | hy
      · exact List.mem_cons_self
      · rcases List.mem_cons.1 hy with rfl | hy
        · exact List.mem_cons_of_mem _ List.mem_cons_self
        · rw [List.mem_map] at hy
          obtain ⟨q, hq, rfl⟩ := hy
          exact List.mem_cons_of_mem _ (List.mem_cons_of_mem _ (List.mem_map_of_mem (f := fun q : Pr => q.1) (List.mem_filter.1 hq).1))
    have hsub : ((dropL L k).map (·.1)).Sublist (L.map (·.1)) := List.Sublist.map _ List.filter_sublist
    have hsub2 : ((dropL L k).map (·.2.1)).Sublist (L.map (·.2.1)) := List.Sublist.map _ List.filter_sublist
    have hfr : Fr (h :: m :: r :: L.map (·.1)) W (w'.setCell ⟨h, 1, none⟩ (.int .i64 ((A.left : Int) + 1))) := (hD.fr.mono (fun z hz => Or.inl (List.mem_cons_of_mem _ hz))).trans (Fr.set w' h 1 _) (fun z hz => Or.inl (by simp at hz; rw [hz]; exact List.mem_cons_self))
    have hU := Upd.props (L' := dropL L k) hobW hset hPk hgh hfr hltW ?_ ?_ ?_
    · rw [dropP_L, ← hob.eq] at hU
      exact hHW.step ho hg hU
    · exact hsub.nodup (List.nodup_cons.1 (List.nodup_cons.1 hA).2).2
    · intro y hy
      have hyL := hsub.subset hy
      exact ⟨Or.inl hyL, Nat.lt_of_lt_of_le (hltR y (List.mem_cons_of_mem _ (List.mem_cons_of_mem _ hyL))) hfr.size⟩
    · exact hsub2.nodup hobW.keys
  subst hsv
  have hc0 : ∀ W, Fr [] w W → W.cell? ⟨h, 0, none⟩ = some (.slice (some ⟨gb, 0, none⟩) gs.length cap) := fun W hW => (H.fr hW).hp.c0
  have hcr : ∀ W, Fr [] w W → W.cell? ⟨gb, i, none⟩ = some (.pointer (some ⟨g.blk, 0, none⟩)) := fun W hW => (hW.cell (H.lt gb hgbm) List.not_mem_nil i).trans hcell
  have hin : gs.length ≤ 10000 := by have := F.objs; omega
  have HISL := Lib.hid hisl
  have HIDX := Lib.hid hidx
  have HDR := Lib.hid hdrop
  have HC0 := Lib.hid hc0
  have HCR := Lib.hid hcr
  have hst := store_float
  generalize hO : allBlocks h (.slice (some ⟨gb, 0, none⟩) gs.length cap) gs = O at *
  generalize (⟨A.objs.set i { o with props := dropP o.props k }, A.left + 1⟩ : Hp) = A2 at *
  obtain ⟨z, hz⟩ : ∃ z : Int, z = (A.left : Int) := ⟨_, rfl⟩
  rw [← hz] at HDR
  have hz1 : IntKind.i64.wrap (z + 1) = z + 1 := IntWalk.i64_in _ (by omega)
  obtain ⟨G, hG⟩ : ∃ G, G = gs.length := ⟨_, rfl⟩
  rw [← hG] at hin hi HC0
  generalize g.blk = b at *
  clear hG hO hisl hidx hdrop hc0 hcr hblk hownv hki hkl hv F ho hg H hcell hgbm hlen' hmx hk hob hlt hgh hhl hleft hz
  generalize bs k = S at *
  generalize v.k = vk at *
  generalize v.n = vn at *
  generalize bs v.t = vT at *
  generalize v.r = vr at *
  go_enter Tryd.func26, Tryd.ntmps26
  go_wp2_with (first
    | (go_at_call 23; ((with_reducible refine hown.mono ?_); rintro e w1 ⟨rfl, hf1⟩; have R1 := Lib.hid (hf1.trans (Fr.alloc w1 (.cells #[.int .i64 vk, .float .f64 vn, .string vT, .int .i64 vr] 31 (0, 0))) (fun _ h => by cases h)); clear hf1; have k0 := HC0.out _ R1.out; have k1 := HCR.out _ R1.out))
    | (go_at_call 47; ((with_reducible refine (HISL.out _ R1.out).mono ?_); rintro e w2 ⟨rfl, rfl⟩))
    | (go_at_call 49; ((with_reducible refine (HIDX.out _ R1.out).mono ?_); rintro e w3 ⟨rfl, d, rfl⟩; have R2 := Lib.hid (R1.out.trans (Fr.drewN _ d) (fun _ h => by cases h))))
    | (go_at_call 56; ((with_reducible refine (HDR.out _ R2.out).mono ?_); rintro e w4 ⟨rfl, q1, q2, hS⟩; have HS := Lib.hid hS; clear hS))
    | fail)
  go_ret
  exact ⟨rfl, HS.out⟩
end Go.Proofs.YtmhoebbdapjpeaaDoor
namespace Go.Proofs.YtmhoebbdapjpeaaDoor
open Go.RowKit Go.Maps
set_option linter.all false

/-- The tables that are read lie below block N. -/
structure Tb (N : Nat) (w : World) : Prop where
  big : 6 ≤ N
  size : N ≤ w.heap.size
  utf : Lib.Utf8Tabs 1 2 w
  pow : Lib.TabIs Tryd.prog w "internal/strconv.uint64pow10" .u64 Lib.pow10Tab
theorem gn_it : Tryd.prog.globalNamed "internal/strconv.uint64pow10" = some 3 := by kernel_rfl
theorem Tb.below {N B : Nat} {w w' : World} (h : Tb N w) (k : Below B w w') (hB : N ≤ B) : Tb N w' := by
  have h6 := h.big
  have c : ∀ (a : Addr), a.block < 6 → w'.cell? a = w.cell? a := by
    intro a ha
    unfold World.cell?
    rw [k.block a.block (by omega)]
  refine ⟨h.big, Nat.le_trans h.size k.size, ⟨fun x hx => (c _ (by show 1 < 6; decide)).trans (h.utf.1 x hx), fun i hi => ⟨(c _ (by show 2 < 6; decide)).trans (h.utf.2 i hi).1, (c _ (by show 2 < 6; decide)).trans (h.utf.2 i hi).2⟩⟩, ?_⟩
  have h2 := h.pow
  unfold Lib.TabIs World.var? at h2 ⊢
  rw [gn_it] at h2 ⊢
  simp only [Option.bind_some] at h2 ⊢
  rw [k.block _ (by show 3 < B; omega)]
  exact h2
theorem Tb.fr {N : Nat} {O : List Nat} {w w' : World} (h : Tb N w) (k : Fr O w w') (hO : ∀ b ∈ O, N ≤ b) : Tb N w' := h.below (k.below h.size hO) (Nat.le_refl _)
theorem Tb.fr0 {N : Nat} {w w' : World} (h : Tb N w) (k : Fr [] w w') : Tb N w' := h.fr k (fun b hb => by cases hb)
theorem below_growN (w : World) (k : Nat) (os : Array Obj) : Below w.heap.size w (Go.Sort.grow (w.drewN k) os) := by
  refine ⟨rfl, rfl, rfl, ?_, fun i hi => ?_⟩
  · show w.heap.size ≤ (w.heap ++ os).size
    rw [Array.size_append]; omega
  · show (w.heap ++ os)[i]? = _
    rw [Array.getElem?_append_left hi]
/-- A number's digits as a wide text. -/
def keyB (n : Int) : List UInt8 := wideL (Lib.itoa n)
theorem key_any (N : Nat) (n : Int) (h0 : -9223372036854775808 ≤ n) (h1 : n ≤ 9223372036854775807) (hsz : (Lib.itoa n).length ≤ 1000000) (w : World) (h : Tb N w) :
    Calls Tryd.prog 11 #[.int .i64 n] w fun e w' => e = .returned (.string (bs (keyB n))) ∧ Fr [] w w' := by
  have hi : Calls Tryd.prog 35 #[.int .i64 n] w fun e w' => e = .returned (.string (bs (Lib.itoa n))) ∧ Fr [] w w' ∧ Tb N w' := by
    refine (Tryd.strconv_Itoa n h0 h1 w h.pow).mono ?_
    rintro e w' ⟨rfl, k, os, rfl⟩
    have hb := below_growN w k os
    exact ⟨rfl, .of_below hb, h.below hb h.size⟩
  have hw : ∀ W, Tb N W → Calls Tryd.prog 34 #[.string (bs (Lib.itoa n))] W fun e w' => ∃ a c : Nat, e = .returned (.tuple #[.string (bs (keyB n)), .int .i64 (a : Int), .int .i64 (c : Int)]) ∧ Fr [] W w' := by
    intro W hW
    refine (wide_any (bs (Lib.itoa n)) (by rw [bs_size]; exact hsz) W hW.utf).mono ?_
    rintro e w' ⟨rfl, hb⟩
    exact ⟨_, _, rfl, .of_below hb⟩
  clear h hsz h0 h1
  generalize bs (Lib.itoa n) = S1 at *
  generalize bs (keyB n) = S2 at *
  go_enter Tryd.func11, Tryd.ntmps11
  go_wp2_with (first
    | (go_at_call 35; ((with_reducible refine hi.mono ?_); rintro e w1 ⟨rfl, hf1, ht1⟩; have F1 := Lib.hid hf1; have T1 := Lib.hid ht1; clear hf1 ht1))
    | (go_at_call 34; ((with_reducible refine (hw _ T1.out).mono ?_); rintro e w2 ⟨a, c, rfl, hf2⟩; have F2 := Lib.hid (F1.out.trans hf2 (fun _ h => by cases h)); clear hf2))
    | fail)
  go_ret
  exact ⟨rfl, F2.out⟩
end Go.Proofs.YtmhoebbdapjpeaaDoor
namespace Go.Proofs.YtmhoebbdapjpeaaDoor
open Go.RowKit Go.Maps
set_option linter.all false

theorem PropsR.len {op : Option (Nat × Nat)} {L : List Pr} {w : World} (H : PropsR op L w) (ty : TypeId) : (Builtin.len_ #[81] ty #[mapV op]).run Tryd.prog w = .ok (.int .i64 (L.length : Int)) w := by
  rcases op with _ | ⟨m, r⟩
  · have : L = [] := H
    subst this
    exact Maps.len_nil (P := Tryd.prog) (k := 9) Tryd.underlying81 ty
  · obtain ⟨D, ho, _, hsz, _⟩ := H.1
    have := ho.len Tryd.underlying81 ty
    rw [hsz] at this
    unfold keysB at this
    rw [List.length_map] at this
    exact this
def itemKs (n : Nat) : List Value := (List.range n).map fun (i : Nat) => .string (bs (keyB (i : Int)))
def Ob.keyVs (o : Ob) : List Value := itemKs o.items.length ++ o.props.map fun q => .string (bs q.1)
theorem itemKs_succ (n : Nat) : itemKs (n + 1) = itemKs n ++ [.string (bs (keyB (n : Int)))] := by
  unfold itemKs; rw [List.range_succ, List.map_append]; rfl
def HKeysPost (o : Ob) (w : World) (e : Ending) (w' : World) : Prop := ∃ v', e = .returned v' ∧ w'.ownsRow w.heap.size 9 1 v' (o.items.length + o.props.length) o.keyVs ∧ Fr [] w w'
def HKeysRel (N : Nat) (w : World) (n : Nat) (j : Nat) (lv : Value) (wr : World) : Prop := j ≤ n ∧ wr.ownsRow w.heap.size 9 1 lv j (itemKs j) ∧ Fr [] w wr ∧ Tb N wr
set_option maxRecDepth 100000 in
set_option maxHeartbeats 2000000 in
theorem keys_any (N h : Nat) (A : Hp) (sv : Value) (gs : List Gx) (i : Nat) (o : Ob) (w : World) (H : HeapG h A sv gs w) (F : A.Few) (ho : A.objs[i]? = some o) (hT : Tb N w) :
    Calls Tryd.prog 17 #[.pointer (some ⟨h, 0, none⟩), .int .i64 (i : Int)] w (HKeysPost o w) := by
  have hi : i < gs.length := by
    rw [← H.len]
    rcases Nat.lt_or_ge i A.objs.length with h' | h'
    · exact h'
    · rw [List.getElem?_eq_none h'] at ho; cases ho
  have hg : gs[i]? = some gs[i] := List.getElem?_eq_getElem hi
  generalize gs[i] = g at hg
  obtain ⟨gb, cap, hsv, hcell, hgbm, _⟩ := H.obj hg
  have hlen' := H.len
  have hin : gs.length ≤ 10000 := by have := F.objs; omega
  have hni := F.items i o ho
  have hnp := F.props i o ho
  have hob := H.obs i o g ho hg
  have hlt := H.lt_g hg
  have hLp : o.props.length = g.L.length := by rw [hob.eq, List.length_map]
  have hhas : Calls Tryd.prog 44 #[.pointer (some ⟨h, 0, none⟩), .int .i64 (i : Int)] w fun e w' => e = .returned (.bool true) ∧ w = w' := by
    have := H.hp
    rw [hsv] at this
    refine (has_any h _ gs.length cap A.left (i : Int) w this).mono ?_
    rintro e w' ⟨rfl, rfl⟩
    exact ⟨ret_bool (by simp; omega), rfl⟩
  have hc0 : w.cell? ⟨h, 0, none⟩ = some (.slice (some ⟨gb, 0, none⟩) gs.length cap) := by rw [← hsv]; exact H.hp.c0
  obtain ⟨ip, icap, hit⟩ := row_slice hob.items
  have hc4 : ∀ W, Fr [] w W → W.cell? ⟨g.blk, 4, none⟩ = some (.slice ip o.items.length icap) := fun W hW => by rw [← hit]; exact blk_cell ((H.fr hW).obs i o g ho hg).blk 4 _ rfl
  have hc2 : w.cell? ⟨g.blk, 2, none⟩ = some (mapV g.op) := blk_cell hob.blk 2 _ rfl
  have hml : (Builtin.len_ #[81] 3 #[mapV g.op]).run Tryd.prog w.drew = .ok (.int .i64 (o.props.length : Int)) w.drew := by rw [hLp]; exact PropsR.len (PropsR.keep (w := w) (w' := w.drew) (fun _ _ => rfl) hob.props) _
  have hkey : ∀ (n : Nat), n ≤ 10000 → ∀ W, Tb N W → Calls Tryd.prog 11 #[.int .i64 (n : Int)] W fun e w' => e = .returned (.string (bs (keyB (n : Int)))) ∧ Fr [] W w' := fun n hn W hW => key_any N (n : Int) (by omega) (by omega) (Nat.le_trans (Lib.itoa_length_le (n : Int) (by omega) (by omega)) (by omega)) W hW
  have hkeys : ∀ (W : World) (lv : Value), Fr [] w W → W.ownsRow w.heap.size 9 1 lv o.items.length (itemKs o.items.length) → Calls Tryd.prog 45 #[.pointer (some ⟨g.blk, 2, none⟩), lv] W fun e w' => HKeysPost o w e w' := by
    intro W lv hW hr
    have hobW := (H.fr hW).obs i o g ho hg
    refine (pKeys_any w.heap.size g.blk g.op g.L lv o.items.length _ W (blk_cell hobW.blk 3 _ rfl) hobW.props (fun m r e => ?_) (hlt _ (Gx.blk_mem g)) (fun b hb => hlt b (Gx.r_mem g hb)) hW.size hr (by omega)).mono ?_
    · have := hobW.apart
      obtain ⟨b, op, L, it⟩ := g
      subst e
      exact (apart_R this).1
    · rintro e w' ⟨v', rfl, hr', hb⟩
      refine ⟨v', rfl, ?_, ?_⟩
      · unfold Ob.keyVs
        have e2 : o.props.map (fun q => Value.string (bs q.1)) = keyVs g.L := by rw [hob.eq]; unfold keyVs; rw [List.map_map]; rfl
        rw [e2, hLp]
        exact hr'
      · exact ⟨hb.os.trans hW.os, hb.tape.trans hW.tape, hb.output.trans hW.output, Nat.le_trans hW.size hb.size, fun k hk hn => (hb.block k hk).trans (hW.block k hk hn)⟩
  have HKEY := Lib.hid hkey
  have HKEYS := Lib.hid hkeys
  have HC4 := Lib.hid hc4
  have HT := Lib.hid hT
  have hc4w := hc4 w (Fr.refl _ _)
  obtain ⟨i0, hi0, hz0, hz1, hz2⟩ := info_parts infoStr
  have hmk : ∃ w1, (Instr.makeSlice 38 (.int .i64 0) (.int .i64 ((o.items.length : Int) + (o.props.length : Int)))).run Tryd.prog w.drew = .ok (.slice (some ⟨w.heap.size, 0, none⟩) 0 (o.items.length + o.props.length)) w1 ∧ HKeysRel N w o.items.length 0 (.slice (some ⟨w.heap.size, 0, none⟩) 0 (o.items.length + o.props.length)) w1 := by
    obtain ⟨w1, hr, ho1, hg1⟩ := run_make_own (P := Tryd.prog) w.drew w.heap.size 38 9 i0 (.string ⟨#[]⟩) 1 Tryd.underlying38 hi0 hz0 hz1 .i64 .i64 (o.items.length + o.props.length) (by rw [hz2]; omega) (by unfold maxLen; omega) (Nat.le_refl _)
    have hfr : Fr [] w w1 := (Fr.refl [] w).drew.trans (Fr.grown hg1) (fun _ h => by cases h)
    exact ⟨w1, hr, Nat.zero_le _, ho1, hfr, hT.fr0 hfr⟩
  obtain ⟨w1, hmkrun, hrel0⟩ := hmk
  have HREL0 := Lib.hid hrel0
  clear hkey hkeys hc4 hT hrel0 hit hob hlt hLp hlen' H F ho hg hgbm
  generalize g.blk = b at *
  generalize hIL : o.items.length = IL at *
  generalize hPL : o.props.length = PL at *
  clear hIL hPL
  have hs1 : IntKind.i64.wrap ((IL : Int) + (PL : Int)) = (IL : Int) + (PL : Int) := IntWalk.i64_in _ (by omega)
  subst hsv
  go_enter Tryd.func17, Tryd.ntmps17
  go_wp2_with (first
    | (go_at_call 44; ((with_reducible refine hhas.mono ?_); rintro e w1 ⟨rfl, rfl⟩))
    | fail)
  go_region
  have k4 := HC4.out w1 HREL0.out.2.2.1
  obtain ⟨W, hW⟩ : ∃ W, W = w := ⟨_, rfl⟩
  clear hml hmkrun hc0 hc2 hc4w hcell hs1 hhas
  go_wp2
  go_loopg [6, 37] IL (fun gk lv iv wr => ∃ j : Nat, iv = .int .i64 (j : Int) ∧ IL - j = gk ∧ Hid (HKeysRel N w IL j lv wr))
  case atStart => exact ⟨0, rfl, by omega, HREL0⟩
  case round =>
    obtain ⟨j, rfl, hgk, hrl⟩ := hrel
    obtain ⟨hj, hown, hfr, htb⟩ := hrl.out
    obtain ⟨lp, lcap, hlv⟩ := row_slice hown
    clear hrl
    subst hlv
    by_cases hlt : j < IL
    · have hkey := HKEY.out j (by omega) wr htb
      obtain ⟨S, hS⟩ : ∃ S, S = bs (keyB (j : Int)) := ⟨_, rfl⟩
      rw [← hS] at hkey
      have HS := Lib.hid hS
      have HO := Lib.hid hown
      have HFR := Lib.hid hfr
      have HTB := Lib.hid htb
      clear hS hown hfr htb k4
      have hstep : ∀ w2, Fr [] wr w2 → Fr [] w w2 ∧ w2.ownsRow w.heap.size 9 1 (.slice lp j lcap) j (itemKs j) ∧ w.heap.size ≤ w2.heap.size := by
        intro w2 hf2
        have f2 : Fr [] w w2 := HFR.out.trans hf2 (fun _ h => by cases h)
        exact ⟨f2, row_keep HO.out (fun x hx => hf2.block x (HO.out.lt x (by rwa [Option.mem_toList] at hx)).2 List.not_mem_nil), f2.size⟩
      have HST := Lib.hid hstep
      clear hstep
      go_wp2_with (first
        | (go_at_call 11; ((with_reducible refine hkey.mono ?_); rintro e w2 ⟨rfl, hf2⟩; have HF := Lib.hid (HST.out w2 hf2).1; have HO2 := Lib.hid (HST.out w2 hf2).2.1; have hw2 := (HST.out w2 hf2).2.2; clear hf2))
        | (at_builtin; refine wpList_append_own _ rfl _ _ 38 rfl w.heap.size 9 i0 (.string ⟨#[]⟩) 1 16 Tryd.underlying38 hi0 hz0 hz1 hz2 rfl (by decide) _ _ _ rfl (HO2.out.alloc _) ⟨w2.heap.size, 0, none⟩ 1 1 [.string S] rfl rfl ?c1 ?c2 ?c3 ?c4 ?c5 ?_)
        | fail)
      case c1 =>
        intro j u hj
        match j, hj with
        | 0, hj => simp at hj; subst hj; simp [Addr.add]
      case c2 => intro u hu; simp at hu; subst hu; rfl
      case c3 => unfold maxLen; omega
      case c4 => omega
      case c5 => simp; omega
      intro v' w3 hown' hgrow _
      have f3 : Fr [] w w3 := by
        have hb : Below w.heap.size w w3 := (HF.out.below0.trans ((Below.refl w.heap.size w2).alloc hw2 _)).grown hgrow (by simp; omega) (fun k hk => (HO2.out.lt k hk).1)
        exact .of_below hb
      have hrel' : HKeysRel N w IL (j + 1) v' w3 := by
        refine ⟨by omega, ?_, f3, HT.out.fr0 f3⟩
        rw [itemKs_succ, ← HS.out]
        exact hown'
      have HR := Lib.hid hrel'
      clear hrel' f3 hown' hgrow
      go_wp2
      go_roundg (IL - (j + 1))
      case measure => omega
      case rel => exact ⟨j + 1, by go_num, rfl, HR⟩
    · have hje : j = IL := by omega
      subst hje
      have hks := HKEYS.out wr _ hfr hown
      clear hown htb hfr k4 HREL0 hW
      go_wp2_with (first
        | (go_at_call 45; ((with_reducible refine hks.mono ?_); rintro e w2 ⟨v', rfl, ho2, hf2⟩; have HO2 := Lib.hid ho2; have HF2 := Lib.hid hf2; clear ho2 hf2))
        | fail)
      go_ret
      exact ⟨v', rfl, HO2.out, HF2.out⟩
end Go.Proofs.YtmhoebbdapjpeaaDoor
namespace Go.Proofs.YtmhoebbdapjpeaaDoor
open Go.RowKit Go.Maps
set_option linter.all false

structure RowAt (w : World) (v : Value) (n : Nat) (xs : List Value) : Prop where
  len : xs.length = n * 4
  ex : ∃ p cap, v = .slice p n cap ∧ (p = none → n = 0) ∧ ∀ a, p = some a → ∀ j u, xs[j]? = some u → w.cell? (a.add j) = some u
theorem RowAt.of_own {w : World} {e : TypeId} {v : Value} {n : Nat} {xs : List Value} {base : Nat} (h : w.ownsRow base e 4 v n xs) : RowAt w v n xs := by
  refine ⟨h.1, ?_⟩
  rcases h.2 with ⟨h1, h2⟩ | ⟨g, cap, cur, hv, _⟩
  · exact ⟨none, 0, by rw [h1, h2], fun _ => h2, fun a ha => by cases ha⟩
  · subst hv
    exact ⟨_, cap, rfl, (fun h => by cases h), (fun a ha => by cases ha; exact h.cells (g := g) rfl)⟩
theorem RowAt.fr {w w' : World} {v : Value} {n : Nat} {xs : List Value} (h : RowAt w v n xs) (hf : Fr [] w w') : RowAt w' v n xs := by
  obtain ⟨h1, p, cap, hv, hn, hc⟩ := h
  refine ⟨h1, p, cap, hv, hn, fun a ha j u hj => ?_⟩
  have hc := hc a ha j u hj
  have hlt : (a.add j).block < w.heap.size := by
    rcases Nat.lt_or_ge (a.add j).block w.heap.size with h | h
    · exact h
    · simp [World.cell?, Array.getElem?_eq_none h] at hc
  rw [← hc]
  exact World.cell?_of_block (hf.block _ hlt List.not_mem_nil)
theorem run_copy4 {P : Program} (w : World) (dT sT ty elem : TypeId) (g n : Nat) (sp : Option Addr) (sCap : Nat) (cur : Array Value) (t : TypeId) (cs : List Value)
    (hu : P.underlying dT = some (.slice elem)) (hs : (P.info? elem).map (·.size) = some 4)
    (hg : w.heap[g]? = some (.cells cur t (0, 0))) (hl : cs.length = n * 4) (hsp : sp = none → n = 0)
    (hsrc : ∀ a, sp = some a → ∀ j v, cs[j]? = some v → w.cell? (a.add j) = some v) (hfit : cs.length = cur.size) (h1 : ∀ v ∈ cs, v.oneCell' = true) :
    (Builtin.copy_ #[dT, sT] ty #[.slice (some ⟨g, 0, none⟩) n n, .slice sp n sCap]).run P w = .ok (goInt n) (w.setRow g cs.toArray) := by
  have hst := run_storeCells_at P g 0 t cs 0 cur w hg (by simpa using Nat.le_of_eq hfit) h1
  have e : (cur.toList.take (0 + 0) ++ cs ++ cur.toList.drop (0 + 0 + cs.length)) = cs := by
    rw [hfit]
    simp
  rw [e] at hst
  cases hq : P.info? elem with
  | none => simp [hq] at hs
  | some i =>
    have hi : i.size = 4 := by simpa [hq] using hs
    cases sp with
    | none =>
      have hn := hsp rfl
      subst hn
      have hc : cs = [] := List.eq_nil_of_length_eq_zero (by simpa using hl)
      subst hc
      simp [Builtin.copy_, run_underlying hu, Builtin.lenOf, Builtin.firstCells, sizeOf, typeInfo, hq, hi, hst]
    | some a =>
      have hld := run_loadCells_list (P := P) w a cs (hsrc a rfl)
      rw [hl] at hld
      simp [Builtin.copy_, run_underlying hu, Builtin.lenOf, Builtin.firstCells, sizeOf, typeInfo, hq, hi, hld, hst]
theorem wpList_copy_run2 {P : Program} {w w' : World} {ops : Array Oper} {rest : List Oper} {o : Oper} {a : Act} {Q : Exit → Act → World → Prop} (hgd : o.guard = none) (s x : Operand) (t : TypeId)
    (ho : o.op = .call { callee := .builtin .copy, args := #[s, x], argTypes := #[t, t] }) (v y v' : Value) (hs : a.eval s = v) (hx : a.eval x = y) (hrun : (Builtin.copy_ #[t, t] o.type #[v, y]).run P w = .ok v' w')
    (h : wpList P ops Q rest (a.put o.dst v') w') : wpList P ops Q (o :: rest) a w := by
  refine wpList_plain hgd fun K hK => ?_
  unfold Oper.wp execOp
  simp only [ho, resolve, invoke, builtin, Sem.run_bind, Sem.run_pure, Result.andThen_ok, List.map_toArray, List.map_cons, List.map_nil, hs, hx, hrun]
  exact hK _ _ h
theorem infoVal : (Tryd.prog.info? 31).map (fun i => (i.zero, i.size, i.bytes)) = some (some (.agg #[.int .i64 0, .float .f64 0, .string ⟨#[]⟩, .int .i64 0]), 4, 40) := by kernel_rfl
theorem itemCells_one (l : List V) : ∀ u ∈ itemCells l, u.oneCell' = true := by
  intro u hu
  unfold itemCells at hu
  rw [List.mem_flatMap] at hu
  obtain ⟨v, _, hv⟩ := hu
  simp only [V.cells, List.mem_cons, List.not_mem_nil, or_false] at hv
  rcases hv with rfl | rfl | rfl | rfl <;> rfl
set_option maxRecDepth 100000 in
theorem copied_any (v : Value) (n : Nat) (l : List V) (hn : n ≤ 100000) (w : World) (H : RowAt w v n (itemCells l)) :
    Calls Tryd.prog 57 #[v] w fun e w' => e = .returned (.slice (some ⟨w.heap.size, 0, none⟩) n n) ∧ w'.ownsRow w.heap.size 31 4 (.slice (some ⟨w.heap.size, 0, none⟩) n n) n (itemCells l) ∧ Fr [] w w' := by
  obtain ⟨hl, p, cap, hv, hpn, hcells⟩ := H
  subst hv
  obtain ⟨i0, hi0, hz0, hz1, hz2⟩ := info_parts infoVal
  obtain ⟨w1, hr, ho1, hg1⟩ := run_make_full (P := Tryd.prog) w w.heap.size 35 31 i0 (.agg #[.int .i64 0, .float .f64 0, .string ⟨#[]⟩, .int .i64 0]) 4 Tryd.underlying35 hi0 hz0 hz1 .i64 .i64 n (by rw [hz2]; omega) (by unfold maxLen; omega) (Nat.le_refl _)
  have f1 : Fr [] w w1 := Fr.grown hg1
  obtain ⟨cur, hg, hcur⟩ : ∃ cur : Array Value, w1.heap[w.heap.size]? = some (.cells cur 31 (0, 0)) ∧ cur.size = n * 4 := by
    rcases ho1.2 with ⟨h1, _⟩ | ⟨g, cap', cur, hv, _, hh, _, _, hs, _⟩
    · cases h1
    · cases hv
      exact ⟨cur, hh, hs⟩
  have hcl : ∀ a, p = some a → ∀ j u, (itemCells l)[j]? = some u → w1.cell? (a.add j) = some u := by
    have hR : RowAt w1 (.slice p n cap) n (itemCells l) := RowAt.fr (w := w) ⟨hl, p, cap, rfl, hpn, hcells⟩ f1
    obtain ⟨_, p', cap', hv, _, hc⟩ := hR
    cases hv
    exact hc
  have hcp := run_copy4 (P := Tryd.prog) w1 35 35 3 31 w.heap.size n p cap cur 31 (itemCells l) Tryd.underlying35 (by rw [hi0]; simp [hz1]) hg hl hpn hcl (by rw [hl, hcur]) (itemCells_one l)
  have f2 : Fr [] w (w1.setRow w.heap.size (itemCells l).toArray) := by
    refine f1.trans (O' := [w.heap.size]) ⟨rfl, rfl, rfl, by simp, fun k _ hk => setRow_other w1 _ k _ (fun e => hk (by simp [e]))⟩ (fun b hb => Or.inr (by simp at hb; omega))
  have ho2 : (w1.setRow w.heap.size (itemCells l).toArray).ownsRow w.heap.size 31 4 (.slice (some ⟨w.heap.size, 0, none⟩) n n) n (itemCells l) := by
    refine ⟨hl, .inr ⟨w.heap.size, n, (itemCells l).toArray, rfl, Nat.le_refl _, setRow_heap w1 _ cur _ _ _ hg, Nat.le_refl _, by unfold maxLen; omega, by simp [hl], ?_⟩⟩
    rw [← hl]
    simp
  have F2 := Lib.hid f2
  have O2 := Lib.hid ho2
  have HCP := Lib.hid hcp
  clear f2 ho2 hcp hcl hg hcur f1 hg1 ho1 hpn hcells hl hi0 hz0 hz1 hz2
  go_enter Tryd.func57, Tryd.ntmps57
  have hcp := HCP.out
  go_wp2
  go_ret
  exact ⟨rfl, O2.out, F2.out⟩
end Go.Proofs.YtmhoebbdapjpeaaDoor
