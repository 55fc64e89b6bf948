/- Layer 8: Get, Drop. Conditions: those that each theorem names. -/
import Derived.Test.YtmndmnajgfabnaaDoorHs
namespace Go.Proofs.YtmndmnajgfabnaaDoor
open Go.RowKit Go.Maps
set_option linter.all false

theorem findAns_form (R : Option (Nat × V)) : ∃ (a k : Int) (n : Nat) (T : ByteArray) (r : Int), findAns R = .tuple #[.int .i64 a, .agg #[.int .i64 k, .float .f64 n, .string T, .int .i64 r]] ∧ ansV (R.map (·.2)) = .tuple #[.agg #[.int .i64 k, .float .f64 n, .string T, .int .i64 r], .bool (a != -1)] := by
  rcases R with _ | ⟨i, v⟩
  · exact ⟨-1, 0, 0, ⟨#[]⟩, 0, rfl, rfl⟩
  · refine ⟨i, v.k, v.n, bs v.t, v.r, rfl, ?_⟩
    have : ((i : Int) != -1) = true := by rw [bne_iff_ne]; omega
    rw [this]
    rfl
theorem Bx.over {N : Nat} {k k' : Int} {n n' : Nat} {S S' : ByteArray} {r r' : Int} {w : World} (H : Bx N k n S r w) :
    Bx N k' n' S' r' ((((w.setCell ⟨N, 0, none⟩ (.int .i64 k')).setCell ⟨N, 1, none⟩ (.float .f64 n')).setCell ⟨N, 2, none⟩ (.string S')).setCell ⟨N, 3, none⟩ (.int .i64 r')) :=
  heap_set (heap_set (heap_set (heap_set H 0 _) 1 _) 2 _) 3 _
set_option maxRecDepth 100000 in
set_option maxHeartbeats 1000000 in
theorem get_any (h : Nat) (A : Hp) (sv : Value) (gs : List Gx) (i : Int) (k : List UInt8) (hk : k.length ≤ 140737488355328) (w : World) (H : HeapG h A sv gs w) (F : A.Few) :
    Calls Tryd.prog 24 #[.pointer (some ⟨h, 0, none⟩), .int .i64 i, .string (bs k)] w fun e w' => e = .returned (ansV ((A.find k i).map (·.2))) ∧ Fr [] w w' := by
  have hfind : ∀ W, Fr [] w W → Calls Tryd.prog 55 #[.pointer (some ⟨h, 0, none⟩), .int .i64 i, .string (bs k)] W (FindPost (A.find k i) W) := fun W hW => hFind_any h A sv gs i k hk W (H.fr hW) F
  obtain ⟨a, fk, fn, fT, fr, hfa, hans⟩ := findAns_form (A.find k i)
  have hfind' : ∀ W, Fr [] w W → Calls Tryd.prog 55 #[.pointer (some ⟨h, 0, none⟩), .int .i64 i, .string (bs k)] W fun e w' => e = .returned (.tuple #[.int .i64 a, .agg #[.int .i64 fk, .float .f64 fn, .string fT, .int .i64 fr]]) ∧ Fr [] W w' := by
    intro W hW
    refine (hfind W hW).mono ?_
    rintro e w' ⟨rfl, hf⟩
    exact ⟨by rw [hfa], hf⟩
  rw [hans]
  have HF := Lib.hid hfind'
  have r0 := Lib.hid (Fr.alloc w (.cells #[.int .i64 0, .float .f64 0, .string ⟨#[]⟩, .int .i64 0] 31 (0, 0)))
  have x0 := Lib.hid (Bx.new 0 0 ⟨#[]⟩ 0 w)
  have hst := store_float
  clear hfind hfind' hfa hans H F hk
  generalize bs k = S at *
  go_enter Tryd.func24, Tryd.ntmps24
  go_wp2_with (first
    | (go_at_call 55; ((with_reducible refine (HF.out _ r0.out).mono ?_); rintro e w1 ⟨rfl, hf1⟩; have R1 := Lib.hid (r0.out.trans hf1 (fun _ h => by cases h)); have hx1 := x0.out.below hf1.below0; obtain ⟨y0, y1, y2, y3⟩ := hx1.cells; have z0 := blk_free hx1 0; have z1 := blk_free hx1 1; have z2 := blk_free hx1 2; have z3 := blk_free hx1 3; have hN1 : w.heap.size < w1.heap.size := lt_of_heap hx1; have X1 := Lib.hid hx1; clear hx1 hf1))
    | fail)
  have hR := (fr_box R1.out (.int .i64 fk) (.float .f64 fn) (.string fT) (.int .i64 fr)).trans (Fr.alloc _ (.cells #[.int .i64 fk, .float .f64 fn, .string fT, .int .i64 fr] 31 (0, 0))) (fun _ h => by cases h)
  have hB := (X1.out.over (k' := fk) (n' := fn) (S' := fT) (r' := fr)).below (Fr.alloc _ (.cells #[.int .i64 fk, .float .f64 fn, .string fT, .int .i64 fr] 31 (0, 0))).below0
  clear y0 y1 y2 y3 z0 z1 z2 z3
  generalize (World.alloc _ _) = W3 at hR hB ⊢
  obtain ⟨y0, y1, y2, y3⟩ := hB.cells
  exact bodyPost_ret (v := .tuple #[.agg #[.int .i64 fk, .float .f64 fn, .string fT, .int .i64 fr], .bool (a != -1)]) (by simp [results, Tryd.results24, go_sem, y0, y1, y2, y3]) rfl ⟨rfl, hR⟩
def dropP (l : List (List UInt8 × V)) (k : List UInt8) : List (List UInt8 × V) := l.filter fun q => decide (q.1 ≠ k)
theorem dropP_L (L : List Pr) (k : List UInt8) : (dropL L k).map (·.2) = dropP (L.map (·.2)) k := by
  unfold dropL dropP; rw [List.filter_map]; rfl
set_option maxRecDepth 100000 in
set_option maxHeartbeats 2000000 in
theorem drop_props (h : Nat) (A : Hp) (sv : Value) (gs : List Gx) (i : Nat) (o : Ob) (k : List UInt8) (hk : k.length ≤ 140737488355328) (w : World)
    (H : HeapG h A sv gs w) (F : A.Few) (ho : A.objs[i]? = some o) (hkl : ¬ (o.kind = 2 ∧ k = lenB)) (hki : oIdx o.kind k = none) (v : V) (hv : lookP o.props k = some v) :
    Calls Tryd.prog 26 #[.pointer (some ⟨h, 0, none⟩), .int .i64 (i : Int), .string (bs k)] w fun e w' => e = .returned (.bool true) ∧ Step h ⟨A.objs.set i { o with props := dropP o.props k }, A.left + 1⟩ (allBlocks h sv gs) w w' := by
  have hi : i < gs.length := by
    rw [← H.len]
    rcases Nat.lt_or_ge i A.objs.length with h' | h'
    · exact h'
    · rw [List.getElem?_eq_none h'] at ho; cases ho
  have hg : gs[i]? = some gs[i] := List.getElem?_eq_getElem hi
  generalize gs[i] = g at hg
  obtain ⟨gb, cap, hsv, hcell, hgbm, _⟩ := H.obj hg
  have hlen' := H.len
  have hmx : k.length ≤ maxLen := Nat.le_trans hk (by decide)
  have hownv : o.own k = some v := by unfold Ob.own; rw [if_neg hkl, hki]; exact hv
  have hown : Calls Tryd.prog 23 #[.pointer (some ⟨h, 0, none⟩), .int .i64 (i : Int), .string (bs k)] w fun e w' => e = .returned (.tuple #[.agg #[.int .i64 v.k, .float .f64 v.n, .string (bs v.t), .int .i64 v.r], .bool true]) ∧ Fr [] w w' := by
    have := own_any h A sv gs i o k hk w H ho F.objs (F.items i o ho)
    rw [hownv] at this
    exact this
  have hblk : ∀ W, Fr [] w W → W.cell? ⟨g.blk, 0, none⟩ = some (.int .i64 o.kind) := fun W hW => blk_cell ((H.fr hW).obs i o g ho hg).blk 0 _ rfl
  have hisl : ∀ W, Fr [] w W → Calls Tryd.prog 47 #[.pointer (some ⟨g.blk, 0, none⟩), .string (bs k)] W fun e w' => e = .returned (.bool false) ∧ W = w' := by
    intro W hW
    refine (isLength_any g.blk o.kind k W (hblk W hW)).mono ?_
    rintro e w' ⟨rfl, rfl⟩
    refine ⟨ret_bool ?_, rfl⟩
    rw [Bool.and_eq_false_iff, decide_eq_false_iff_not, decide_eq_false_iff_not]
    by_cases h2 : o.kind = 2
    · exact Or.inr (fun e => hkl ⟨h2, e⟩)
    · exact Or.inl h2
  have hidx : ∀ W, Fr [] w W → Calls Tryd.prog 49 #[.pointer (some ⟨g.blk, 0, none⟩), .string (bs k)] W fun e w' => e = .returned (.tuple #[.int .i64 0, .bool false]) ∧ ∃ d, w' = W.drewN d := by
    intro W hW
    refine (oIndex_any g.blk o.kind k hk W (hblk W hW)).mono ?_
    rintro e w' ⟨rfl, hd⟩
    exact ⟨by rw [hki]; rfl, hd⟩
  have hob := H.obs i o g ho hg
  have hlt := H.lt_g hg
  have hgh := H.apart_h hg
  have hhl := H.lt_h
  have hleft := F.left
  have hdrop : ∀ W, Fr [] w W → Calls Tryd.prog 56 #[.pointer (some ⟨g.blk, 2, none⟩), .string (bs k)] W fun e w' => e = .returned (.tuple #[]) ∧
      (w'.cell? ⟨h, 1, none⟩ = some (.int .i64 (A.left : Int)) ∧ w'.frozen? ⟨h, 1, none⟩ = false ∧ Step h ⟨A.objs.set i { o with props := dropP o.props k }, A.left + 1⟩ (allBlocks h sv gs) w (w'.setCell ⟨h, 1, none⟩ (.int .i64 ((A.left : Int) + 1)))) := by
    intro W hW
    have hHW := H.fr hW
    have hobW := hHW.obs i o g ho hg
    have hltW := hHW.lt_g hg
    obtain ⟨b, op, L, it⟩ := g
    have hvL : (L.find? (fun q => decide (q.2.1 = k))).map (·.2.2) = some v := by rw [← lookP_L, ← hob.eq]; exact hv
    obtain ⟨⟨x, k', v0⟩, hf⟩ : ∃ q, L.find? (fun q => decide (q.2.1 = k)) = some q := by
      cases hq : L.find? (fun q => decide (q.2.1 = k)) with
      | none => rw [hq] at hvL; cases hvL
      | some q => exact ⟨q, rfl⟩
    obtain ⟨m, r, rfl⟩ : ∃ m r, op = some (m, r) := by
      rcases op with _ | ⟨m, r⟩
      · have : L = [] := hob.props
        subst this
        cases hf
      · exact ⟨m, r, rfl⟩
    obtain ⟨hA, hbb⟩ := apart_R hobW.apart
    have hltR : ∀ x ∈ blocksR (some (m, r)) L, x < W.heap.size := fun x hx => hltW x (Gx.r_mem (Gx.mk b (some (m, r)) L it) hx)
    refine (pDrop_any b m r L k hmx W (blk_cell hobW.blk 2 _ rfl) hobW.props hA hobW.keys hbb hltR x k' v0 hf).mono ?_
    rintro e w' ⟨rfl, hD⟩
    have hhb : h ∉ m :: r :: L.map (·.1) := fun hm => hgh (Gx.r_mem (Gx.mk b (some (m, r)) L it) hm)
    have hhW : w'.heap[h]? = some (.cells #[sv, .int .i64 (A.left : Int)] 72 (0, 0)) := (hD.fr.block h hHW.lt_h hhb).trans hHW.hp
    refine ⟨rfl, blk_cell hhW 1 _ rfl, blk_free hhW 1, Step.pre hW ?_⟩
    have hset : HpC h sv (((A.left + 1 : Nat) : Int)) (w'.setCell ⟨h, 1, none⟩ (.int .i64 ((A.left : Int) + 1))) := by
      have := heap_set hhW 1 (.int .i64 ((A.left : Int) + 1))
      exact this
    have hPk : PropsR (some (m, r)) (dropL L k) (w'.setCell ⟨h, 1, none⟩ (.int .i64 ((A.left : Int) + 1))) := by
      refine hD.props.keep (fun y hy => heap_set_other ?_ 1 _)
      rintro rfl
      apply hhb
      have : blocksR (some (m, r)) (dropL L k) = m :: r :: (dropL L k).map (·.1) := rfl
      rw [this] at hy
      rcases List.mem_cons.1 hy with rfl | hy
      · exact List.mem_cons_self
      · rcases List.mem_cons.1 hy with rfl | hy
        · exact List.mem_cons_of_mem _ List.mem_cons_self
        · rw [List.mem_map] at hy
          obtain ⟨q, hq, rfl⟩ := hy
          exact List.mem_cons_of_mem _ (List.mem_cons_of_mem _ (List.mem_map_of_mem (f := fun q : Pr => q.1) (List.mem_filter.1 hq).1))
    have hsub : ((dropL L k).map (·.1)).Sublist (L.map (·.1)) := List.Sublist.map _ List.filter_sublist
    have hsub2 : ((dropL L k).map (·.2.1)).Sublist (L.map (·.2.1)) := List.Sublist.map _ List.filter_sublist
    have hfr : Fr (h :: m :: r :: L.map (·.1)) W (w'.setCell ⟨h, 1, none⟩ (.int .i64 ((A.left : Int) + 1))) := (hD.fr.mono (fun z hz => Or.inl (List.mem_cons_of_mem _ hz))).trans (Fr.set w' h 1 _) (fun z hz => Or.inl (by simp at hz; rw [hz]; exact List.mem_cons_self))
    have hU := Upd.props (L' := dropL L k) hobW hset hPk hgh hfr hltW ?_ ?_ ?_
    · rw [dropP_L, ← hob.eq] at hU
      exact hHW.step ho hg hU
    · exact hsub.nodup (List.nodup_cons.1 (List.nodup_cons.1 hA).2).2
    · intro y hy
      have hyL := hsub.subset hy
      exact ⟨Or.inl hyL, Nat.lt_of_lt_of_le (hltR y (List.mem_cons_of_mem _ (List.mem_cons_of_mem _ hyL))) hfr.size⟩
    · exact hsub2.nodup hobW.keys
  subst hsv
  have hc0 : ∀ W, Fr [] w W → W.cell? ⟨h, 0, none⟩ = some (.slice (some ⟨gb, 0, none⟩) gs.length cap) := fun W hW => (H.fr hW).hp.c0
  have hcr : ∀ W, Fr [] w W → W.cell? ⟨gb, i, none⟩ = some (.pointer (some ⟨g.blk, 0, none⟩)) := fun W hW => (hW.cell (H.lt gb hgbm) List.not_mem_nil i).trans hcell
  have hin : gs.length ≤ 10000 := by have := F.objs; omega
  have HISL := Lib.hid hisl
  have HIDX := Lib.hid hidx
  have HDR := Lib.hid hdrop
  have HC0 := Lib.hid hc0
  have HCR := Lib.hid hcr
  have hst := store_float
  generalize hO : allBlocks h (.slice (some ⟨gb, 0, none⟩) gs.length cap) gs = O at *
  generalize (⟨A.objs.set i { o with props := dropP o.props k }, A.left + 1⟩ : Hp) = A2 at *
  obtain ⟨z, hz⟩ : ∃ z : Int, z = (A.left : Int) := ⟨_, rfl⟩
  rw [← hz] at HDR
  have hz1 : IntKind.i64.wrap (z + 1) = z + 1 := IntWalk.i64_in _ (by omega)
  obtain ⟨G, hG⟩ : ∃ G, G = gs.length := ⟨_, rfl⟩
  rw [← hG] at hin hi HC0
  generalize g.blk = b at *
  clear hG hO hisl hidx hdrop hc0 hcr hblk hownv hki hkl hv F ho hg H hcell hgbm hlen' hmx hk hob hlt hgh hhl hleft hz
  generalize bs k = S at *
  generalize v.k = vk at *
  generalize v.n = vn at *
  generalize bs v.t = vT at *
  generalize v.r = vr at *
  go_enter Tryd.func26, Tryd.ntmps26
  go_wp2_with (first
    | (go_at_call 23; ((with_reducible refine hown.mono ?_); rintro e w1 ⟨rfl, hf1⟩; have R1 := Lib.hid (hf1.trans (Fr.alloc w1 (.cells #[.int .i64 vk, .float .f64 vn, .string vT, .int .i64 vr] 31 (0, 0))) (fun _ h => by cases h)); clear hf1; have k0 := HC0.out _ R1.out; have k1 := HCR.out _ R1.out))
    | (go_at_call 47; ((with_reducible refine (HISL.out _ R1.out).mono ?_); rintro e w2 ⟨rfl, rfl⟩))
    | (go_at_call 49; ((with_reducible refine (HIDX.out _ R1.out).mono ?_); rintro e w3 ⟨rfl, d, rfl⟩; have R2 := Lib.hid (R1.out.trans (Fr.drewN _ d) (fun _ h => by cases h))))
    | (go_at_call 56; ((with_reducible refine (HDR.out _ R2.out).mono ?_); rintro e w4 ⟨rfl, q1, q2, hS⟩; have HS := Lib.hid hS; clear hS))
    | fail)
  go_ret
  exact ⟨rfl, HS.out⟩
end Go.Proofs.YtmndmnajgfabnaaDoor
