/- Layer 8: a new object. Conditions: those that each theorem names. -/
import Derived.Test.YtmndmnajgfabnaaDoorHo
namespace Go.Proofs.YtmndmnajgfabnaaDoor
open Go.RowKit Go.Maps
set_option linter.all false

theorem wpList_append_run {P : Program} {w w' : World} {ops : Array Oper} {rest : List Oper} {o : Oper} {a : Act} {Q : Exit → Act → World → Prop} (hgd : o.guard = none) (s x : Operand) (t : TypeId)
    (ho : o.op = .call { callee := .builtin .append, args := #[s, x], argTypes := #[t, t] }) (v y v' : Value) (hs : a.eval s = v) (hx : a.eval x = y) (hrun : (Builtin.append_ #[t, t] o.type #[v, y]).run P w = .ok v' w')
    (h : wpList P ops Q rest (a.put o.dst v') w') : wpList P ops Q (o :: rest) a w := by
  refine wpList_plain hgd fun K hK => ?_
  unfold Oper.wp execOp
  simp only [ho, resolve, invoke, builtin, Sem.run_bind, Sem.run_pure, Result.andThen_ok, List.map_toArray, List.map_cons, List.map_nil, hs, hx, hrun]
  exact hK _ _ h
theorem infoPtr : (Tryd.prog.info? 89).map (fun i => (i.zero, i.size, i.bytes)) = some (some (.pointer none), 1, 8) := by kernel_rfl
structure Added (h : Nat) (A' : Hp) (O : List Nat) (it : Value) (w w' : World) : Prop where
  ex : ∃ O', HeapAt h A' O' w' ∧ ∀ b ∈ O', b ∈ O ∨ w.heap.size ≤ b ∨ b ∈ it.ownBlock.toList
  fr : Fr O w w'
set_option maxRecDepth 100000 in
set_option maxHeartbeats 1000000 in
theorem add_full (h : Nat) (sv : Value) (w : World) (hh : HpC h sv 0 w) (a b : Int) (it : Value) (c d s : Int) :
    Calls Tryd.prog 43 #[.pointer (some ⟨h, 0, none⟩), .agg #[.int .i64 a, .int .i64 b, .map none, .pointer none, it, .int .i64 c, .int .i64 d, .int .i64 s]] w fun e w' => e = .returned (.tuple #[.int .i64 0, .int .i64 112]) ∧ Fr [] w w' := by
  have h1 := hh.c1
  have hl := hh.lt
  clear hh
  go_enter Tryd.func43, Tryd.ntmps43
  go_wp2
  go_ret2
  exact ⟨rfl, Fr.alloc _ _⟩
set_option maxRecDepth 100000 in
set_option maxHeartbeats 2000000 in
theorem add_ok (h : Nat) (A : Hp) (sv : Value) (gs : List Gx) (left : Nat) (o : Ob) (it : Value) (w : World) (H : HeapG h A sv gs w) (hleft : A.left = left + 1) (hl10 : left ≤ 10000) (hlen : A.objs.length ≤ 10000) (hpr : o.props = [])
    (hit : w.ownsRow 0 31 4 it o.items.length (itemCells o.items)) (hitb : ∀ x ∈ it.ownBlock.toList, x ∉ allBlocks h sv gs) :
    Calls Tryd.prog 43 #[.pointer (some ⟨h, 0, none⟩), .agg #[.int .i64 o.kind, .int .i64 o.proto, .map none, .pointer none, it, .int .i64 o.a, .int .i64 o.b, .int .i64 o.s]] w fun e w' =>
      e = .returned (.tuple #[.int .i64 (A.objs.length : Int), .int .i64 0]) ∧ Added h ⟨A.objs ++ [o], left⟩ (allBlocks h sv gs) it w w' := by
  obtain ⟨objs, lf⟩ := A
  have hleft : lf = left + 1 := hleft
  subst hleft
  obtain ⟨sp, scap, hsv⟩ := row_slice H.row
  have hsl := H.len
  have hhlt := H.lt_h
  have hitl : ∀ x ∈ it.ownBlock.toList, x < w.heap.size := fun x hx => (hit.lt x (by rwa [Option.mem_toList] at hx)).2
  obtain ⟨i0, hi, hz0, hz1, hz2⟩ := info_parts infoPtr
  have hob : objC o ⟨w.heap.size, none, [], it⟩ = #[.int .i64 o.kind, .int .i64 o.proto, .map none, .pointer none, it, .int .i64 o.a, .int .i64 o.b, .int .i64 o.s] := rfl
  have HOB := Lib.hid hob
  obtain ⟨C, hC⟩ : ∃ C : Array Value, C = #[.int .i64 o.kind, .int .i64 o.proto, .map none, .pointer none, it, .int .i64 o.a, .int .i64 o.b, .int .i64 o.s] := ⟨_, rfl⟩
  -- the world at the append
  obtain ⟨W1, hW1⟩ : ∃ W1, W1 = ((w.setCell ⟨h, 1, none⟩ (.int .i64 (left : Int))).alloc (.cells C 88)).alloc (.cells #[.pointer (some ⟨w.heap.size, 0, none⟩)] 89) := ⟨_, rfl⟩
  have f1 : Fr [h] w W1 := by
    rw [hW1]
    exact ((Fr.set w h 1 _).trans (Fr.alloc _ _) (fun _ h => by cases h)).trans (Fr.alloc _ _) (fun _ h => by cases h)
  have s1 : W1.heap.size = w.heap.size + 2 := by rw [hW1, heap_size, heap_size, heap_size_set]
  have e1 : W1.heap[w.heap.size]? = some (.cells C 88 (0, 0)) := by
    rw [hW1, Below.heap_alloc _ _ _ (by rw [heap_size, heap_size_set]; omega)]
    have := heap_new (w.setCell ⟨h, 1, none⟩ (.int .i64 (left : Int))) (.cells C 88)
    rw [heap_size_set] at this
    exact this
  have e2 : W1.heap[w.heap.size + 1]? = some (.cells #[.pointer (some ⟨w.heap.size, 0, none⟩)] 89 (0, 0)) := by
    rw [hW1]
    have := heap_new ((w.setCell ⟨h, 1, none⟩ (.int .i64 (left : Int))).alloc (.cells C 88)) (.cells #[.pointer (some ⟨w.heap.size, 0, none⟩)] 89)
    rw [heap_size, heap_size_set] at this
    exact this
  have e3 : W1.heap[h]? = some (.cells #[sv, .int .i64 (left : Int)] 72 (0, 0)) := by
    rw [hW1, Below.heap_alloc _ _ _ (by rw [heap_size, heap_size_set]; omega), Below.heap_alloc _ _ _ (by rw [heap_size_set]; omega), heap_set H.hp]; rfl
  have hsvb : ∀ x ∈ sv.ownBlock.toList, x ≠ h ∧ x < w.heap.size := by
    intro x hx
    have hm : x ∈ allBlocks h sv gs := by unfold allBlocks; exact List.mem_append_left _ (List.mem_cons_of_mem _ hx)
    refine ⟨?_, H.lt x hm⟩
    rintro rfl
    have := H.apart
    unfold allBlocks at this
    rw [List.cons_append, List.nodup_cons] at this
    exact this.1 (List.mem_append_left _ hx)
  have hrow1 : W1.ownsRow 0 89 1 sv gs.length (gs.map (fun g => Value.pointer (some ⟨g.blk, 0, none⟩))) := row_keep H.row (fun x hx => f1.block x (hsvb x hx).2 (fun hm => (hsvb x hx).1 (by simpa using hm)))
  obtain ⟨v', w2, hrun, hrow2, hgr, hfresh⟩ := append_own2 (P := Tryd.prog) W1 70 70 89 i0 (.pointer none) 1 8 Tryd.underlying70 hi hz0 hz1 hz2 rfl (by decide) sv gs.length _ hrow1
    ⟨w.heap.size + 1, 0, none⟩ 1 1 [.pointer (some ⟨w.heap.size, 0, none⟩)] rfl
    (by
      intro j u hj
      match j, hj with
      | 0, hj =>
        simp at hj
        subst hj
        exact blk_cell e2 0 _ rfl)
    (by intro u hu; simp at hu; subst hu; rfl) (by unfold maxLen; omega) (by omega)
  obtain ⟨p2, cap2, hv2⟩ := row_slice hrow2
  have f2 : Fr sv.ownBlock.toList W1 w2 := Fr.grown hgr
  have hh2 : w2.heap[h]? = some (.cells #[sv, .int .i64 (left : Int)] 72 (0, 0)) := (f2.block h (by omega) (fun hm => (hsvb h hm).1 rfl)).trans e3
  have hb2 : w2.heap[w.heap.size]? = some (.cells C 88 (0, 0)) := (f2.block _ (by omega) (fun hm => by have := (hsvb _ hm).2; omega)).trans e1
  have hs2 : W1.heap.size ≤ w2.heap.size := f2.size
  have hv2b : ∀ x, v'.ownBlock = some x → x < w2.heap.size := fun x hx => (hrow2.lt x hx).2
  -- the end
  have hv2ne : ∀ x, v'.ownBlock = some x → (sv.ownBlock = some x ∨ w.heap.size ≤ x) ∧ x ≠ w.heap.size ∧ x ∉ it.ownBlock.toList ∧ x ≠ h := by
    intro x hx
    rcases hfresh x hx with h1 | h1
    · have hm : x ∈ sv.ownBlock.toList := by rw [h1]; simp
      have hm2 : x ∈ allBlocks h sv gs := by unfold allBlocks; exact List.mem_append_left _ (List.mem_cons_of_mem _ hm)
      exact ⟨Or.inl h1, by have := (hsvb x hm).2; omega, fun hi => hitb x hi hm2, (hsvb x hm).1⟩
    · exact ⟨Or.inr (by omega), by omega, fun hi => by have := hitl x hi; omega, by omega⟩
  have hfin : Added h ⟨objs ++ [o], left⟩ (allBlocks h sv gs) it w (w2.setCell ⟨h, 0, none⟩ v') := by
    have fA : Fr (h :: sv.ownBlock.toList) w (w2.setCell ⟨h, 0, none⟩ v') := by
      refine (((f1.mono (fun z hz => Or.inl (by simp at hz; rw [hz]; exact List.mem_cons_self))).trans f2 (fun z hz => Or.inl (List.mem_cons_of_mem _ hz))).trans (Fr.set w2 h 0 v') (fun z hz => Or.inl (by simp at hz; rw [hz]; exact List.mem_cons_self)))
    have hbne : w.heap.size ≠ h := by omega
    have hHp : HpC h v' (left : Int) (w2.setCell ⟨h, 0, none⟩ v') := heap_set hh2 0 v'
    have hAdd := H.add (sv' := v') (it := it) (w' := w2.setCell ⟨h, 0, none⟩ v') (o := o) (left' := left) (blk := w.heap.size) hHp ?_ fA (fun x hx => ⟨(hv2ne x hx).1, (hv2ne x hx).2.1, (hv2ne x hx).2.2.1⟩) (Nat.le_refl _) (by rw [heap_size_set]; omega)
      (fun x hx => ⟨hitb x hx, by have := hitl x hx; omega, by rw [heap_size_set]; have := hitl x hx; omega⟩) ?_ hpr ?_
    · obtain ⟨gs', hG, hsub⟩ := hAdd
      exact ⟨⟨_, ⟨v', gs', hG, rfl⟩, hsub⟩, fA.mono (fun z hz => Or.inl (by unfold allBlocks; exact List.mem_append_left _ hz))⟩
    · exact row_keep hrow2 (fun x hx => heap_set_other (hv2ne x (by rwa [Option.mem_toList] at hx)).2.2.2 0 v')
    · rw [heap_set_other hbne, hb2, hC]
      rfl
    · refine row_keep hit (fun x hx => ?_)
      have h1 := hitl x hx
      have h2 : x ≠ h := fun e => hitb x hx (by rw [e]; simp [allBlocks])
      have h3 : x ∉ sv.ownBlock.toList := fun hm => hitb x hx (by unfold allBlocks; exact List.mem_append_left _ (List.mem_cons_of_mem _ hm))
      rw [heap_set_other h2, f2.block x (by omega) h3, f1.block x h1 (by simp [h2])]
  have k1 := H.hp.c1
  have kf1 := blk_free H.hp 1
  have k0 := H.hp.c0
  have c0 : w2.cell? ⟨h, 0, none⟩ = some sv := blk_cell hh2 0 _ rfl
  have cf0 := blk_free hh2 0
  have hglen : gs.length = objs.length := hsl.symm
  rw [hglen] at hv2 hsv
  rw [hsv] at hrun k0 c0
  rw [hv2] at hrun hfin
  have HFIN := Lib.hid hfin
  rw [hW1, hC] at hrun
  have HRUN := Lib.hid hrun
  clear hfin hrun hv2 hsv hglen hsl hv2ne hv2b hs2 hb2 hh2 f2 hfresh hgr hrow2 hrow1 hsvb e3 e2 e1 s1 f1 hW1 HOB hob hi hz0 hz1 hz2 hitl hit hitb hpr hC
  have hlen : objs.length ≤ 10000 := hlen
  obtain ⟨LN, hLN⟩ : ∃ LN, LN = objs.length := ⟨_, rfl⟩
  rw [← hLN] at HRUN k0 c0 hlen ⊢
  rw [← hLN] at HFIN
  clear hLN H
  replace k1 : w.cell? ⟨h, 1, none⟩ = some (.int .i64 ((left + 1 : Nat) : Int)) := k1
  obtain ⟨z, hz⟩ : ∃ z : Int, z = ((left + 1 : Nat) : Int) := ⟨_, rfl⟩
  have hz1 : IntKind.i64.wrap (z - 1) = z - 1 := IntWalk.i64_in _ (by omega)
  have hzl : (left : Int) = z - 1 := by omega
  have i1 : (z == 0) = false := beq_eq_false_iff_ne.2 (by omega)
  rw [← hz] at k1
  rw [hzl] at HRUN
  clear hz hzl hl10
  go_enter Tryd.func43, Tryd.ntmps43
  go_wp2_with (at_builtin; refine wpList_append_run rfl _ _ 70 rfl _ _ _ rfl rfl HRUN.out ?_)
  go_wp2
  go_ret2
  exact ⟨rfl, HFIN.out⟩
end Go.Proofs.YtmndmnajgfabnaaDoor
