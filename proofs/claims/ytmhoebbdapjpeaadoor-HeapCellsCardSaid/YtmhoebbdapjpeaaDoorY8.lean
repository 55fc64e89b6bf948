/- Layer 8: an append to an own row, with where the row lies behind it; a new object. Conditions: those that each theorem names. Layer 8: a new object. Conditions: those that each theorem names. Layer 8: New, Plain, Function. Conditions: those that each theorem names. Layer 8: find, Get. Conditions: those that each theorem names. -/
import Derived.Test.YtmhoebbdapjpeaaDoorY7
namespace Go.Proofs.YtmhoebbdapjpeaaDoor
open Go.RowKit Go.Maps
set_option linter.all false

theorem append_own2 {P : Program} (w : World) (t ty e : TypeId) (i : TypeInfo) (z : Value) (size bytes : Nat) (ht : P.underlying t = some (.slice e)) (hi : P.info? e = some i) (hz : i.zero = some z)
    (hsize : i.size = size) (hby : i.bytes = bytes) (hzs : z.cells.size = size) (hsz : 0 < size)
    (v : Value) (n : Nat) (xs : List Value) (hown : w.ownsRow 0 e size v n xs)
    (a : Addr) (m c : Nat) (news : List Value) (hl : news.length = m * size) (hnews : ∀ j u, news[j]? = some u → w.cell? (a.add j) = some u) (h1 : ∀ u ∈ news, u.oneCell' = true)
    (h63 : n + m ≤ maxLen) (hbytes : (n + m) * bytes ≤ 140737488355328) :
    ∃ v' w', (Builtin.append_ #[t, t] ty #[v, .slice (some a) m c]).run P w = .ok v' w' ∧ w'.ownsRow 0 e size v' (n + m) (xs ++ news) ∧ w.grownBy w' v.ownBlock ∧ (∀ g, v'.ownBlock = some g → v.ownBlock = some g ∨ w.heap.size ≤ g) := by
  obtain ⟨v', w', hrun, ho, hg, _⟩ := run_append_own (P := P) w 0 t ty e i z size bytes ht hi hz hsize hby hzs hsz v n xs hown a m c news hl hnews h1 h63 hbytes (Nat.zero_le _)
  refine ⟨v', w', hrun, ho, hg, ?_⟩
  subst hsize
  subst hby
  have hsmall : n + m ≤ 9223372036854775807 := by simp only [maxLen] at h63; omega
  rcases hown.2 with ⟨rfl, rfl⟩ | ⟨g, cap, cur, rfl, hbg, hgh, hnc, hcm, hcs, htake⟩
  · obtain ⟨v2, w2, hrun2, ho2, _, _⟩ := run_append_own (P := P) w w.heap.size t ty e i z i.size i.bytes ht hi hz rfl rfl hzs hsz (.slice none 0 0) 0 xs ⟨hown.1, .inl ⟨rfl, rfl⟩⟩ a m c news hl hnews h1 h63 hbytes (Nat.le_refl _)
    rw [hrun] at hrun2
    cases hrun2
    exact fun g hg => Or.inr (ho2.lt g hg).1
  · by_cases hroom : n + m ≤ cap
    · have hfit : n * i.size + news.length ≤ cur.size := by rw [hl, hcs, ← Nat.add_mul]; exact Nat.mul_le_mul_right _ hroom
      have hr := run_append_room (P := P) w t ty e i ht hi g n cap cur hgh a m c news hl hnews h1 hroom hfit
      rw [hrun] at hr
      cases hr
      exact fun g hg => Or.inl hg
    · have holds : ∀ j u, xs[j]? = some u → w.cell? ((⟨g, 0, none⟩ : Addr).add j) = some u := hown.cells (g := g) rfl
      have hr := run_append_grow (P := P) w t ty e i z ht hi hz ⟨g, 0, none⟩ n cap xs hown.1 holds a m c news hl hnews (by omega) (by omega) (growslice_fits (by omega) hbytes)
      rw [hrun] at hr
      cases hr
      intro g' hg'
      cases hg'
      exact Or.inr (Nat.le_refl _)
theorem HeapG.add {h : Nat} {A : Hp} {sv sv' it : Value} {gs : List Gx} {w w' : World} {o : Ob} {left' blk : Nat} (H : HeapG h A sv gs w) (hp : HpC h sv' (left' : Int) w')
    (hrow : w'.ownsRow 0 89 1 sv' (gs.length + 1) (gs.map (fun g => Value.pointer (some ⟨g.blk, 0, none⟩)) ++ [.pointer (some ⟨blk, 0, none⟩)]))
    (hf : Fr (h :: sv.ownBlock.toList) w w') (hsv : ∀ x, sv'.ownBlock = some x → (sv.ownBlock = some x ∨ w.heap.size ≤ x) ∧ x ≠ blk ∧ x ∉ it.ownBlock.toList)
    (hblk : w.heap.size ≤ blk) (hblk' : blk < w'.heap.size) (hitb : ∀ x ∈ it.ownBlock.toList, x ∉ allBlocks h sv gs ∧ x ≠ blk ∧ x < w'.heap.size)
    (hb : w'.heap[blk]? = some (.cells (objC o ⟨blk, none, [], it⟩) 88 (0, 0))) (hpr : o.props = []) (hit : w'.ownsRow 0 31 4 it o.items.length (itemCells o.items)) :
    ∃ gs', HeapG h ⟨A.objs ++ [o], left'⟩ sv' gs' w' ∧ ∀ b ∈ allBlocks h sv' gs', b ∈ allBlocks h sv gs ∨ w.heap.size ≤ b ∨ b ∈ it.ownBlock.toList := by
  have hap := H.apart
  unfold allBlocks at hap
  rw [List.nodup_append] at hap
  obtain ⟨hap1, hap2, hap3⟩ := hap
  have hgm : ∀ g ∈ gs, ∀ b ∈ g.blocks, b ∈ gs.flatMap Gx.blocks := fun g hg b hb => List.mem_flatMap.2 ⟨g, hg, hb⟩
  have hlt : ∀ b ∈ gs.flatMap Gx.blocks, b < w.heap.size := fun b hb => H.lt b (List.mem_append_right _ hb)
  have hkeep : ∀ b ∈ gs.flatMap Gx.blocks, w'.heap[b]? = w.heap[b]? := fun b hb => hf.block b (hlt b hb) (fun hm => hap3 b hm b hb rfl)
  have hgb : (Gx.mk blk none [] it).blocks = blk :: it.ownBlock.toList := rfl
  have hall : allBlocks h sv' (gs ++ [⟨blk, none, [], it⟩]) = (h :: sv'.ownBlock.toList) ++ (gs.flatMap Gx.blocks ++ (blk :: it.ownBlock.toList)) := by
    unfold allBlocks; rw [List.flatMap_append, List.flatMap_cons, List.flatMap_nil, List.append_nil, hgb]
  have hh : h < w.heap.size := H.lt_h
  have hin : it.ownBlock.toList.Nodup := by cases it.ownBlock <;> simp
  have hbn : (blk :: it.ownBlock.toList).Nodup := List.nodup_cons.2 ⟨fun hm => (hitb blk hm).2.1 rfl, hin⟩
  refine ⟨gs ++ [⟨blk, none, [], it⟩], ⟨hp, ?_, ?_, ?_, ?_, ?_⟩, ?_⟩
  · rw [List.length_append, List.map_append]; exact hrow
  · rw [List.length_append, List.length_append, H.len]; rfl
  · intro j p g hp' hg'
    have hl := H.len
    by_cases hj : j < gs.length
    · rw [List.getElem?_append_left (by omega)] at hp' hg'
      exact (H.obs j p g hp' hg').keep (fun b hb => hkeep b (hgm g (List.mem_of_getElem? hg') b hb))
    · by_cases hj2 : j = gs.length
      · subst hj2
        rw [List.getElem?_append_right (Nat.le_refl _), Nat.sub_self] at hg'
        rw [List.getElem?_append_right (by omega), hl, Nat.sub_self] at hp'
        simp only [List.getElem?_cons_zero, Option.some.injEq] at hp' hg'
        subst hp'
        subst hg'
        exact ⟨hb, rfl, hpr, by rw [hgb]; exact hbn, by simp, hit⟩
      · rw [List.getElem?_append_right (by omega), List.getElem?_eq_none (by simp; omega)] at hg'
        cases hg'
  · rw [hall, List.nodup_append, List.nodup_append]
    refine ⟨?_, ⟨hap2, hbn, ?_⟩, ?_⟩
    · rw [List.nodup_cons]
      refine ⟨?_, by cases sv'.ownBlock <;> simp⟩
      intro hm
      rw [Option.mem_toList] at hm
      rcases (hsv h hm).1 with h1 | h1
      · exact (List.nodup_cons.1 hap1).1 (by rw [h1]; simp)
      · omega
    · intro a ha c hc e
      have := hlt a ha
      rcases List.mem_cons.1 hc with rfl | hc
      · omega
      · exact (hitb c hc).1 (by rw [← e]; exact List.mem_append_right _ ha)
    · intro a ha c hc e
      subst e
      rcases List.mem_cons.1 ha with rfl | ha
      · rcases List.mem_append.1 hc with hc | hc
        · exact hap3 a List.mem_cons_self a hc rfl
        · rcases List.mem_cons.1 hc with rfl | hc
          · omega
          · exact (hitb a hc).1 (by simp [allBlocks])
      · rw [Option.mem_toList] at ha
        obtain ⟨h1, h2, h3⟩ := hsv a ha
        rcases List.mem_append.1 hc with hc | hc
        · rcases h1 with h1 | h1
          · exact hap3 a (List.mem_cons_of_mem _ (by rw [h1]; simp)) a hc rfl
          · have := hlt a hc; omega
        · rcases List.mem_cons.1 hc with rfl | hc
          · exact h2 rfl
          · exact h3 hc
  · intro b hb'
    rw [hall] at hb'
    rcases List.mem_append.1 hb' with h1 | h1
    · rcases List.mem_cons.1 h1 with rfl | h1
      · exact Nat.lt_of_lt_of_le hh hf.size
      · rw [Option.mem_toList] at h1
        have := row_keep hrow (w' := w') (fun _ _ => rfl)
        exact (hrow.lt b h1).2
    · rcases List.mem_append.1 h1 with h1 | h1
      · exact Nat.lt_of_lt_of_le (hlt b h1) hf.size
      · rcases List.mem_cons.1 h1 with rfl | h1
        · exact hblk'
        · exact (hitb b h1).2.2
  · intro b hb'
    rw [hall] at hb'
    rcases List.mem_append.1 hb' with h1 | h1
    · rcases List.mem_cons.1 h1 with rfl | h1
      · exact Or.inl (by simp [allBlocks])
      · rw [Option.mem_toList] at h1
        rcases (hsv b h1).1 with h2 | h2
        · exact Or.inl (List.mem_append_left _ (List.mem_cons_of_mem _ (by rw [h2]; simp)))
        · exact Or.inr (Or.inl h2)
    · rcases List.mem_append.1 h1 with h1 | h1
      · exact Or.inl (List.mem_append_right _ h1)
      · rcases List.mem_cons.1 h1 with rfl | h1
        · exact Or.inr (Or.inl hblk)
        · exact Or.inr (Or.inr h1)
end Go.Proofs.YtmhoebbdapjpeaaDoor
namespace Go.Proofs.YtmhoebbdapjpeaaDoor
open Go.RowKit Go.Maps
set_option linter.all false

theorem wpList_append_run {P : Program} {w w' : World} {ops : Array Oper} {rest : List Oper} {o : Oper} {a : Act} {Q : Exit → Act → World → Prop} (hgd : o.guard = none) (s x : Operand) (t : TypeId)
    (ho : o.op = .call { callee := .builtin .append, args := #[s, x], argTypes := #[t, t] }) (v y v' : Value) (hs : a.eval s = v) (hx : a.eval x = y) (hrun : (Builtin.append_ #[t, t] o.type #[v, y]).run P w = .ok v' w')
    (h : wpList P ops Q rest (a.put o.dst v') w') : wpList P ops Q (o :: rest) a w := by
  refine wpList_plain hgd fun K hK => ?_
  unfold Oper.wp execOp
  simp only [ho, resolve, invoke, builtin, Sem.run_bind, Sem.run_pure, Result.andThen_ok, List.map_toArray, List.map_cons, List.map_nil, hs, hx, hrun]
  exact hK _ _ h
theorem infoPtr : (Tryd.prog.info? 89).map (fun i => (i.zero, i.size, i.bytes)) = some (some (.pointer none), 1, 8) := by kernel_rfl
structure Added (h : Nat) (A' : Hp) (O : List Nat) (it : Value) (w w' : World) : Prop where
  ex : ∃ O', HeapAt h A' O' w' ∧ ∀ b ∈ O', b ∈ O ∨ w.heap.size ≤ b ∨ b ∈ it.ownBlock.toList
  fr : Fr O w w'
set_option maxRecDepth 100000 in
set_option maxHeartbeats 1000000 in
theorem add_full (h : Nat) (sv : Value) (w : World) (hh : HpC h sv 0 w) (a b : Int) (it : Value) (c d s : Int) :
    Calls Tryd.prog 43 #[.pointer (some ⟨h, 0, none⟩), .agg #[.int .i64 a, .int .i64 b, .map none, .pointer none, it, .int .i64 c, .int .i64 d, .int .i64 s]] w fun e w' => e = .returned (.tuple #[.int .i64 0, .int .i64 112]) ∧ Fr [] w w' := by
  have h1 := hh.c1
  have hl := hh.lt
  clear hh
  go_enter Tryd.func43, Tryd.ntmps43
  go_wp2
  go_ret2
  exact ⟨rfl, Fr.alloc _ _⟩
set_option maxRecDepth 100000 in
set_option maxHeartbeats 2000000 in
theorem add_ok (h : Nat) (A : Hp) (sv : Value) (gs : List Gx) (left : Nat) (o : Ob) (it : Value) (w : World) (H : HeapG h A sv gs w) (hleft : A.left = left + 1) (hl10 : left ≤ 10000) (hlen : A.objs.length ≤ 10000) (hpr : o.props = [])
    (hit : w.ownsRow 0 31 4 it o.items.length (itemCells o.items)) (hitb : ∀ x ∈ it.ownBlock.toList, x ∉ allBlocks h sv gs) :
    Calls Tryd.prog 43 #[.pointer (some ⟨h, 0, none⟩), .agg #[.int .i64 o.kind, .int .i64 o.proto, .map none, .pointer none, it, .int .i64 o.a, .int .i64 o.b, .int .i64 o.s]] w fun e w' =>
      e = .returned (.tuple #[.int .i64 (A.objs.length : Int), .int .i64 0]) ∧ Added h ⟨A.objs ++ [o], left⟩ (allBlocks h sv gs) it w w' := by
  obtain ⟨objs, lf⟩ := A
  have hleft : lf = left + 1 := hleft
  subst hleft
  obtain ⟨sp, scap, hsv⟩ := row_slice H.row
  have hsl := H.len
  have hhlt := H.lt_h
  have hitl : ∀ x ∈ it.ownBlock.toList, x < w.heap.size := fun x hx => (hit.lt x (by rwa [Option.mem_toList] at hx)).2
  obtain ⟨i0, hi, hz0, hz1, hz2⟩ := info_parts infoPtr
  have hob : objC o ⟨w.heap.size, none, [], it⟩ = #[.int .i64 o.kind, .int .i64 o.proto, .map none, .pointer none, it, .int .i64 o.a, .int .i64 o.b, .int .i64 o.s] := rfl
  have HOB := Lib.hid hob
  obtain ⟨C, hC⟩ : ∃ C : Array Value, C = #[.int .i64 o.kind, .int .i64 o.proto, .map none, .pointer none, it, .int .i64 o.a, .int .i64 o.b, .int .i64 o.s] := ⟨_, rfl⟩
  -- the world at the append
  obtain ⟨W1, hW1⟩ : ∃ W1, W1 = ((w.setCell ⟨h, 1, none⟩ (.int .i64 (left : Int))).alloc (.cells C 88)).alloc (.cells #[.pointer (some ⟨w.heap.size, 0, none⟩)] 89) := ⟨_, rfl⟩
  have f1 : Fr [h] w W1 := by
    rw [hW1]
    exact ((Fr.set w h 1 _).trans (Fr.alloc _ _) (fun _ h => by cases h)).trans (Fr.alloc _ _) (fun _ h => by cases h)
  have s1 : W1.heap.size = w.heap.size + 2 := by rw [hW1, heap_size, heap_size, heap_size_set]
  have e1 : W1.heap[w.heap.size]? = some (.cells C 88 (0, 0)) := by
    rw [hW1, Below.heap_alloc _ _ _ (by rw [heap_size, heap_size_set]; omega)]
    have := heap_new (w.setCell ⟨h, 1, none⟩ (.int .i64 (left : Int))) (.cells C 88)
    rw [heap_size_set] at this
    exact this
  have e2 : W1.heap[w.heap.size + 1]? = some (.cells #[.pointer (some ⟨w.heap.size, 0, none⟩)] 89 (0, 0)) := by
    rw [hW1]
    have := heap_new ((w.setCell ⟨h, 1, none⟩ (.int .i64 (left : Int))).alloc (.cells C 88)) (.cells #[.pointer (some ⟨w.heap.size, 0, none⟩)] 89)
    rw [heap_size, heap_size_set] at this
    exact this
  have e3 : W1.heap[h]? = some (.cells #[sv, .int .i64 (left : Int)] 72 (0, 0)) := by
    rw [hW1, Below.heap_alloc _ _ _ (by rw [heap_size, heap_size_set]; omega), Below.heap_alloc _ _ _ (by rw [heap_size_set]; omega), heap_set H.hp]; rfl
  have hsvb : ∀ x ∈ sv.ownBlock.toList, x ≠ h ∧ x < w.heap.size := by
    intro x hx
    have hm : x ∈ allBlocks h sv gs := by unfold allBlocks; exact List.mem_append_left _ (List.mem_cons_of_mem _ hx)
    refine ⟨?_, H.lt x hm⟩
    rintro rfl
    have := H.apart
    unfold allBlocks at this
    rw [List.cons_append, List.nodup_cons] at this
    exact this.1 (List.mem_append_left _ hx)
  have hrow1 : W1.ownsRow 0 89 1 sv gs.length (gs.map (fun g => Value.pointer (some ⟨g.blk, 0, none⟩))) := row_keep H.row (fun x hx => f1.block x (hsvb x hx).2 (fun hm => (hsvb x hx).1 (by simpa using hm)))
  obtain ⟨v', w2, hrun, hrow2, hgr, hfresh⟩ := append_own2 (P := Tryd.prog) W1 70 70 89 i0 (.pointer none) 1 8 Tryd.underlying70 hi hz0 hz1 hz2 rfl (by decide) sv gs.length _ hrow1
    ⟨w.heap.size + 1, 0, none⟩ 1 1 [.pointer (some ⟨w.heap.size, 0, none⟩)] rfl
    (by
      intro j u hj
      match j, hj with
      | 0, hj =>
        simp at hj
        subst hj
        exact blk_cell e2 0 _ rfl)
    (by intro u hu; simp at hu; subst hu; rfl) (by unfold maxLen; omega) (by omega)
  obtain ⟨p2, cap2, hv2⟩ := row_slice hrow2
  have f2 : Fr sv.ownBlock.toList W1 w2 := Fr.grown hgr
  have hh2 : w2.heap[h]? = some (.cells #[sv, .int .i64 (left : Int)] 72 (0, 0)) := (f2.block h (by omega) (fun hm => (hsvb h hm).1 rfl)).trans e3
  have hb2 : w2.heap[w.heap.size]? = some (.cells C 88 (0, 0)) := (f2.block _ (by omega) (fun hm => by have := (hsvb _ hm).2; omega)).trans e1
  have hs2 : W1.heap.size ≤ w2.heap.size := f2.size
  have hv2b : ∀ x, v'.ownBlock = some x → x < w2.heap.size := fun x hx => (hrow2.lt x hx).2
  -- the end
  have hv2ne : ∀ x, v'.ownBlock = some x → (sv.ownBlock = some x ∨ w.heap.size ≤ x) ∧ x ≠ w.heap.size ∧ x ∉ it.ownBlock.toList ∧ x ≠ h := by
    intro x hx
    rcases hfresh x hx with h1 | h1
    · have hm : x ∈ sv.ownBlock.toList := by rw [h1]; simp
      have hm2 : x ∈ allBlocks h sv gs := by unfold allBlocks; exact List.mem_append_left _ (List.mem_cons_of_mem _ hm)
      exact ⟨Or.inl h1, by have := (hsvb x hm).2; omega, fun hi => hitb x hi hm2, (hsvb x hm).1⟩
    · exact ⟨Or.inr (by omega), by omega, fun hi => by have := hitl x hi; omega, by omega⟩
  have hfin : Added h ⟨objs ++ [o], left⟩ (allBlocks h sv gs) it w (w2.setCell ⟨h, 0, none⟩ v') := by
    have fA : Fr (h :: sv.ownBlock.toList) w (w2.setCell ⟨h, 0, none⟩ v') := by
      refine (((f1.mono (fun z hz => Or.inl (by simp at hz; rw [hz]; exact List.mem_cons_self))).trans f2 (fun z hz => Or.inl (List.mem_cons_of_mem _ hz))).trans (Fr.set w2 h 0 v') (fun z hz => Or.inl (by simp at hz; rw [hz]; exact List.mem_cons_self)))
    have hbne : w.heap.size ≠ h := by omega
    have hHp : HpC h v' (left : Int) (w2.setCell ⟨h, 0, none⟩ v') := heap_set hh2 0 v'
    have hAdd := H.add (sv' := v') (it := it) (w' := w2.setCell ⟨h, 0, none⟩ v') (o := o) (left' := left) (blk := w.heap.size) hHp ?_ fA (fun x hx => ⟨(hv2ne x hx).1, (hv2ne x hx).2.1, (hv2ne x hx).2.2.1⟩) (Nat.le_refl _) (by rw [heap_size_set]; omega)
      (fun x hx => ⟨hitb x hx, by have := hitl x hx; omega, by rw [heap_size_set]; have := hitl x hx; omega⟩) ?_ hpr ?_
    · obtain ⟨gs', hG, hsub⟩ := hAdd
      exact ⟨⟨_, ⟨v', gs', hG, rfl⟩, hsub⟩, fA.mono (fun z hz => Or.inl (by unfold allBlocks; exact List.mem_append_left _ hz))⟩
    · exact row_keep hrow2 (fun x hx => heap_set_other (hv2ne x (by rwa [Option.mem_toList] at hx)).2.2.2 0 v')
    · rw [heap_set_other hbne, hb2, hC]
      rfl
    · refine row_keep hit (fun x hx => ?_)
      have h1 := hitl x hx
      have h2 : x ≠ h := fun e => hitb x hx (by rw [e]; simp [allBlocks])
      have h3 : x ∉ sv.ownBlock.toList := fun hm => hitb x hx (by unfold allBlocks; exact List.mem_append_left _ (List.mem_cons_of_mem _ hm))
      rw [heap_set_other h2, f2.block x (by omega) h3, f1.block x h1 (by simp [h2])]
  have k1 := H.hp.c1
  have kf1 := blk_free H.hp 1
  have k0 := H.hp.c0
  have c0 : w2.cell? ⟨h, 0, none⟩ = some sv := blk_cell hh2 0 _ rfl
  have cf0 := blk_free hh2 0
  have hglen : gs.length = objs.length := hsl.symm
  rw [hglen] at hv2 hsv
  rw [hsv] at hrun k0 c0
  rw [hv2] at hrun hfin
  have HFIN := Lib.hid hfin
  rw [hW1, hC] at hrun
  have HRUN := Lib.hid hrun
  clear hfin hrun hv2 hsv hglen hsl hv2ne hv2b hs2 hb2 hh2 f2 hfresh hgr hrow2 hrow1 hsvb e3 e2 e1 s1 f1 hW1 HOB hob hi hz0 hz1 hz2 hitl hit hitb hpr hC
  have hlen : objs.length ≤ 10000 := hlen
  obtain ⟨LN, hLN⟩ : ∃ LN, LN = objs.length := ⟨_, rfl⟩
  rw [← hLN] at HRUN k0 c0 hlen ⊢
  rw [← hLN] at HFIN
  clear hLN H
  replace k1 : w.cell? ⟨h, 1, none⟩ = some (.int .i64 ((left + 1 : Nat) : Int)) := k1
  obtain ⟨z, hz⟩ : ∃ z : Int, z = ((left + 1 : Nat) : Int) := ⟨_, rfl⟩
  have hz1 : IntKind.i64.wrap (z - 1) = z - 1 := IntWalk.i64_in _ (by omega)
  have hzl : (left : Int) = z - 1 := by omega
  have i1 : (z == 0) = false := beq_eq_false_iff_ne.2 (by omega)
  rw [← hz] at k1
  rw [hzl] at HRUN
  clear hz hzl hl10
  go_enter Tryd.func43, Tryd.ntmps43
  go_wp2_with (at_builtin; refine wpList_append_run rfl _ _ 70 rfl _ _ _ rfl rfl HRUN.out ?_)
  go_wp2
  go_ret2
  exact ⟨rfl, HFIN.out⟩
end Go.Proofs.YtmhoebbdapjpeaaDoor
namespace Go.Proofs.YtmhoebbdapjpeaaDoor
open Go.RowKit Go.Maps
set_option linter.all false

def Hp.okRef (A : Hp) (p : Int) : Prop := p = -1 ∨ (0 ≤ p ∧ p < (A.objs.length : Int))
instance (A : Hp) (p : Int) : Decidable (A.okRef p) := by unfold Hp.okRef; exact inferInstance
def Hp.make (A : Hp) (p : Int) (o : Ob) : (Int × Int) × Hp :=
  if A.okRef p then
    match A.left with
    | 0 => ((0, 112), A)
    | n + 1 => (((A.objs.length : Int), 0), ⟨A.objs ++ [o], n⟩)
  else ((0, 3), A)
def plainO (p : Int) : Ob := ⟨1, p, 0, 0, 0, [], []⟩
def funcO (a b s : Int) : Ob := ⟨3, -1, a, b, s, [], []⟩
theorem row_nil (w : World) : w.ownsRow 0 31 4 (.slice none 0 0) 0 [] := World.ownsRow_nil w 0 _ 4
theorem Added.step {h : Nat} {A' : Hp} {O : List Nat} {w w' : World} (H : Added h A' O (.slice none 0 0) w w') : Step h A' O w w' := by
  obtain ⟨⟨O', h1, h2⟩, h3⟩ := H
  refine ⟨⟨O', h1, fun b hb => ?_⟩, h3⟩
  rcases h2 b hb with h | h | h
  · exact Or.inl h
  · exact Or.inr h
  · cases h
theorem hasOrNone_heap {h : Nat} {A : Hp} {sv : Value} {gs : List Gx} {w : World} (H : HeapG h A sv gs w) (p : Int) :
    Calls Tryd.prog 42 #[.pointer (some ⟨h, 0, none⟩), .int .i64 p] w fun e w' => e = .returned (.bool (decide (A.okRef p))) ∧ w = w' := by
  obtain ⟨sp, cap, hsv⟩ := row_slice H.row
  have hl := H.len
  have hh := H.hp
  subst hsv
  refine (hasOrNone_any h sp gs.length cap A.left p w hh).mono ?_
  rintro e w' ⟨rfl, rfl⟩
  refine ⟨ret_bool ?_, rfl⟩
  rw [Bool.eq_iff_iff]
  simp only [Bool.or_eq_true, Bool.and_eq_true, decide_eq_true_eq]
  unfold Hp.okRef
  omega
theorem add_any (h : Nat) (A : Hp) (sv : Value) (gs : List Gx) (o : Ob) (w : World) (H : HeapG h A sv gs w) (hl10 : A.left ≤ 10000) (hlen : A.objs.length ≤ 10000) (hpr : o.props = []) (hit : o.items = []) (p : Int) (hp : A.okRef p) :
    Calls Tryd.prog 43 #[.pointer (some ⟨h, 0, none⟩), .agg #[.int .i64 o.kind, .int .i64 o.proto, .map none, .pointer none, .slice none 0 0, .int .i64 o.a, .int .i64 o.b, .int .i64 o.s]] w fun e w' =>
      e = .returned (.tuple #[.int .i64 (A.make p o).1.1, .int .i64 (A.make p o).1.2]) ∧ Step h (A.make p o).2 (allBlocks h sv gs) w w' := by
  unfold Hp.make
  rw [if_pos hp]
  cases hL : A.left with
  | zero =>
    have hh := H.hp
    rw [hL] at hh
    refine (add_full h sv w hh o.kind o.proto (.slice none 0 0) o.a o.b o.s).mono ?_
    rintro e w' ⟨rfl, hf⟩
    exact ⟨rfl, Step.same ⟨sv, gs, H, rfl⟩ hf⟩
  | succ n =>
    refine (add_ok h A sv gs n o (.slice none 0 0) w H hL (by omega) hlen hpr (by rw [hit]; exact row_nil w) (fun x hx => by cases hx)).mono ?_
    rintro e w' ⟨rfl, hA⟩
    exact ⟨rfl, hA.step⟩
set_option maxHeartbeats 1000000 in
theorem plain_any (h : Nat) (A : Hp) (sv : Value) (gs : List Gx) (p : Int) (w : World) (H : HeapG h A sv gs w) (hl10 : A.left ≤ 10000) (hlen : A.objs.length ≤ 10000) :
    Calls Tryd.prog 16 #[.pointer (some ⟨h, 0, none⟩), .int .i64 p] w fun e w' =>
      e = .returned (.tuple #[.int .i64 (A.make p (plainO p)).1.1, .int .i64 (A.make p (plainO p)).1.2]) ∧ Step h (A.make p (plainO p)).2 (allBlocks h sv gs) w w' := by
  have hh := hasOrNone_heap H p
  by_cases hp : A.okRef p
  · have ha := add_any h A sv gs (plainO p) w H hl10 hlen rfl rfl p hp
    rw [decide_eq_true hp] at hh
    generalize A.make p (plainO p) = R at *
    obtain ⟨⟨r1, r2⟩, A'⟩ := R
    have ha : Calls Tryd.prog 43 #[.pointer (some ⟨h, 0, none⟩), .agg #[.int .i64 1, .int .i64 p, .map none, .pointer none, .slice none 0 0, .int .i64 0, .int .i64 0, .int .i64 0]] w fun e w' => e = .returned (.tuple #[.int .i64 r1, .int .i64 r2]) ∧ Step h A' (allBlocks h sv gs) w w' := ha
    show Calls Tryd.prog 16 #[.pointer (some ⟨h, 0, none⟩), .int .i64 p] w fun e w' => e = .returned (.tuple #[.int .i64 r1, .int .i64 r2]) ∧ Step h A' (allBlocks h sv gs) w w'
    clear H hl10 hlen hp
    go_enter Tryd.func16, Tryd.ntmps16
    go_wp2_with (first
      | (go_at_call 42; ((with_reducible refine hh.mono ?_); rintro e w1 ⟨rfl, rfl⟩))
      | (go_at_call 43; ((with_reducible refine ha.mono ?_); rintro e w2 ⟨rfl, hS⟩; have HS := Lib.hid hS; clear hS))
      | fail)
    go_ret2
    exact ⟨rfl, HS.out⟩
  · have hm : A.make p (plainO p) = ((0, 3), A) := by unfold Hp.make; rw [if_neg hp]
    rw [hm]
    rw [decide_eq_false hp] at hh
    have hS : Step h A (allBlocks h sv gs) w w := Step.same ⟨sv, gs, H, rfl⟩ (Fr.refl _ _)
    have HS := Lib.hid hS
    clear hS H hl10 hlen hp hm
    go_enter Tryd.func16, Tryd.ntmps16
    go_wp2_with (first
      | (go_at_call 42; ((with_reducible refine hh.mono ?_); rintro e w1 ⟨rfl, rfl⟩))
      | fail)
    go_ret2
    exact ⟨rfl, HS.out⟩
set_option maxHeartbeats 1000000 in
theorem function_any (h : Nat) (A : Hp) (sv : Value) (gs : List Gx) (a b p : Int) (w : World) (H : HeapG h A sv gs w) (hl10 : A.left ≤ 10000) (hlen : A.objs.length ≤ 10000) :
    Calls Tryd.prog 37 #[.pointer (some ⟨h, 0, none⟩), .int .i64 a, .int .i64 b, .int .i64 p] w fun e w' =>
      e = .returned (.tuple #[.int .i64 (A.make p (funcO a b p)).1.1, .int .i64 (A.make p (funcO a b p)).1.2]) ∧ Step h (A.make p (funcO a b p)).2 (allBlocks h sv gs) w w' := by
  have hh := hasOrNone_heap H p
  by_cases hp : A.okRef p
  · have ha := add_any h A sv gs (funcO a b p) w H hl10 hlen rfl rfl p hp
    rw [decide_eq_true hp] at hh
    generalize A.make p (funcO a b p) = R at *
    obtain ⟨⟨r1, r2⟩, A'⟩ := R
    have ha : Calls Tryd.prog 43 #[.pointer (some ⟨h, 0, none⟩), .agg #[.int .i64 3, .int .i64 (-1), .map none, .pointer none, .slice none 0 0, .int .i64 a, .int .i64 b, .int .i64 p]] w fun e w' => e = .returned (.tuple #[.int .i64 r1, .int .i64 r2]) ∧ Step h A' (allBlocks h sv gs) w w' := ha
    show Calls Tryd.prog 37 #[.pointer (some ⟨h, 0, none⟩), .int .i64 a, .int .i64 b, .int .i64 p] w fun e w' => e = .returned (.tuple #[.int .i64 r1, .int .i64 r2]) ∧ Step h A' (allBlocks h sv gs) w w'
    clear H hl10 hlen hp
    go_enter Tryd.func37, Tryd.ntmps37
    go_wp2_with (first
      | (go_at_call 42; ((with_reducible refine hh.mono ?_); rintro e w1 ⟨rfl, rfl⟩))
      | (go_at_call 43; ((with_reducible refine ha.mono ?_); rintro e w2 ⟨rfl, hS⟩; have HS := Lib.hid hS; clear hS))
      | fail)
    go_ret2
    exact ⟨rfl, HS.out⟩
  · have hm : A.make p (funcO a b p) = ((0, 3), A) := by unfold Hp.make; rw [if_neg hp]
    rw [hm]
    rw [decide_eq_false hp] at hh
    have hS : Step h A (allBlocks h sv gs) w w := Step.same ⟨sv, gs, H, rfl⟩ (Fr.refl _ _)
    have HS := Lib.hid hS
    clear hS H hl10 hlen hp hm
    go_enter Tryd.func37, Tryd.ntmps37
    go_wp2_with (first
      | (go_at_call 42; ((with_reducible refine hh.mono ?_); rintro e w1 ⟨rfl, rfl⟩))
      | fail)
    go_ret2
    exact ⟨rfl, HS.out⟩
theorem new_heap (c : Int) (w : World) :
    Calls Tryd.prog 14 #[.int .i64 c] w fun e w' => e = .returned (.pointer (some ⟨w.heap.size, 0, none⟩)) ∧ HeapG w.heap.size ⟨[], clampC c⟩ (.slice none 0 0) [] w' ∧ Fr [] w w' := by
  refine (new_any c w).mono ?_
  rintro e w' ⟨rfl, rfl⟩
  have hG : HeapG w.heap.size ⟨[], clampC c⟩ (.slice none 0 0) [] (w.alloc (.cells #[.slice none 0 0, .int .i64 (clampC c)] 72 (0, 0))) := by
    refine { hp := heap_new w _, row := World.ownsRow_nil _ 0 _ 1, len := rfl, obs := ?_, apart := ?_, lt := ?_ }
    · intro i o g ho hg
      simp at ho
    · simp [allBlocks, Value.ownBlock]
    · intro b hb
      simp [allBlocks, Value.ownBlock] at hb
      subst hb
      rw [heap_size]
      omega
  exact ⟨rfl, hG, Fr.alloc _ _⟩
end Go.Proofs.YtmhoebbdapjpeaaDoor
namespace Go.Proofs.YtmhoebbdapjpeaaDoor
open Go.RowKit Go.Maps
set_option linter.all false

/-- Along the prototypes: at most n objects are looked at. -/
def Hp.findF (A : Hp) (k : List UInt8) : Nat → Int → Option (Nat × V)
  | 0, _ => none
  | n + 1, i => if 0 ≤ i then
      match A.objs[i.toNat]? with
      | none => none
      | some o => match o.own k with
        | some v => some (i.toNat, v)
        | none => A.findF k n o.proto
    else none
def Hp.find (A : Hp) (k : List UInt8) (i : Int) : Option (Nat × V) := A.findF k (i.toNat + 1) i
def findAns : Option (Nat × V) → Value
  | none => .tuple #[.int .i64 (-1), .agg #[.int .i64 0, .float .f64 0, .string ⟨#[]⟩, .int .i64 0]]
  | some (i, v) => .tuple #[.int .i64 (i : Int), .agg #[.int .i64 v.k, .float .f64 v.n, .string (bs v.t), .int .i64 v.r]]
def FindPost (R : Option (Nat × V)) (w : World) (e : Ending) (w' : World) : Prop := e = .returned (findAns R) ∧ Fr [] w w'
structure Hp.Few (A : Hp) : Prop where
  left : A.left ≤ 10000
  objs : A.objs.length ≤ 10000
  items : ∀ (i : Nat) (o : Ob), A.objs[i]? = some o → o.items.length ≤ 10000
  props : ∀ (i : Nat) (o : Ob), A.objs[i]? = some o → o.props.length ≤ 10000
  proto : ∀ (i : Nat) (o : Ob), A.objs[i]? = some o → o.proto = -1 ∨ (0 ≤ o.proto ∧ o.proto < (i : Int))
def FindRel (A : Hp) (k : List UInt8) (R : Option (Nat × V)) (w : World) (g : Nat) (j : Int) (wr : World) : Prop :=
  (j < 0 ∨ j.toNat < g ∨ (A.objs.length : Int) ≤ j) ∧ R = A.findF k g j ∧ Fr [] w wr ∧ Bx w.heap.size 0 0 ⟨#[]⟩ 0 wr
set_option maxRecDepth 100000 in
set_option maxHeartbeats 2000000 in
theorem hFind_any (h : Nat) (A : Hp) (sv : Value) (gs : List Gx) (i : Int) (k : List UInt8) (hk : k.length ≤ 140737488355328) (w : World) (H : HeapG h A sv gs w) (F : A.Few) :
    Calls Tryd.prog 55 #[.pointer (some ⟨h, 0, none⟩), .int .i64 i, .string (bs k)] w (FindPost (A.find k i) w) := by
  obtain ⟨sp, cap, hsv⟩ := row_slice H.row
  have hGL := H.len
  obtain ⟨R, hR⟩ : ∃ R, A.find k i = R := ⟨_, rfl⟩
  rw [hR]
  have hhas : ∀ (j : Int) W, Fr [] w W → Calls Tryd.prog 44 #[.pointer (some ⟨h, 0, none⟩), .int .i64 j] W fun e w' => e = .returned (.bool (decide (0 ≤ j) && decide (j < (A.objs.length : Int)))) ∧ W = w' := by
    intro j W hW
    have := (H.fr hW).hp
    rw [hsv] at this
    refine (has_any h sp gs.length cap A.left j W this).mono ?_
    rintro e w' ⟨rfl, rfl⟩
    exact ⟨by rw [hGL], rfl⟩
  have hown : ∀ (j : Nat) (o : Ob), A.objs[j]? = some o → ∀ W, Fr [] w W → Calls Tryd.prog 23 #[.pointer (some ⟨h, 0, none⟩), .int .i64 (j : Int), .string (bs k)] W fun e w' => e = .returned (ansV (o.own k)) ∧ Fr [] W w' := by
    intro j o ho W hW
    exact own_any h A sv gs j o k hk W (H.fr hW) ho F.objs (F.items j o ho)
  have hobj : ∀ (j : Nat) (o : Ob), A.objs[j]? = some o → ∃ gb cap' b, sv = .slice (some ⟨gb, 0, none⟩) A.objs.length cap' ∧ j < A.objs.length ∧ ∀ W, Fr [] w W → W.cell? ⟨h, 0, none⟩ = some (.slice (some ⟨gb, 0, none⟩) A.objs.length cap') ∧ W.cell? ⟨gb, j, none⟩ = some (.pointer (some ⟨b, 0, none⟩)) ∧ W.cell? ⟨b, 1, none⟩ = some (.int .i64 o.proto) := by
    intro j o ho
    have hj : j < gs.length := by
      rw [← hGL]
      rcases Nat.lt_or_ge j A.objs.length with h' | h'
      · exact h'
      · rw [List.getElem?_eq_none h'] at ho; cases ho
    have hg : gs[j]? = some gs[j] := List.getElem?_eq_getElem hj
    obtain ⟨gb, cap', hsv', hcell, hgbm, _⟩ := H.obj hg
    refine ⟨gb, cap', gs[j].blk, by rw [hGL]; exact hsv', by omega, fun W hW => ⟨?_, ?_, ?_⟩⟩
    · rw [hGL, ← hsv']; exact (H.fr hW).hp.c0
    · exact (hW.cell (H.lt gb hgbm) List.not_mem_nil j).trans hcell
    · exact blk_cell ((H.fr hW).obs j o _ ho hg).blk 1 _ rfl
  have HHAS := Lib.hid hhas
  have HOWN := Lib.hid hown
  have HOBJ := Lib.hid hobj
  have FF := Lib.hid F
  have hfo := F.objs
  have hst := store_float
  have r0 : Fr [] w (w.alloc (.cells #[.int .i64 0, .float .f64 0, .string ⟨#[]⟩, .int .i64 0] 31 (0, 0))) := Fr.alloc _ _
  have hS0 : FindRel A k R w (i.toNat + 1) i (w.alloc (.cells #[.int .i64 0, .float .f64 0, .string ⟨#[]⟩, .int .i64 0] 31 (0, 0))) := ⟨by omega, hR.symm, r0, Bx.new 0 0 ⟨#[]⟩ 0 w⟩
  have HS0 := Lib.hid hS0
  clear hS0 r0 hhas hown hobj F hR hsv hGL H hk
  obtain ⟨S, hS⟩ : ∃ S, S = bs k := ⟨_, rfl⟩
  rw [← hS] at HOWN ⊢
  clear hS
  go_enter Tryd.func55, Tryd.ntmps55
  go_wp2
  go_loopg [1] (i.toNat + 1) (fun g iv wr => ∃ j : Int, iv = .int .i64 j ∧ Hid (FindRel A k R w g j wr))
  case atStart => exact ⟨i, rfl, HS0⟩
  case round =>
    obtain ⟨j, rfl, hrl⟩ := hrel
    obtain ⟨hjg, hRj, hfr, hbx⟩ := hrl.out
    have hhas := HHAS.out j wr hfr
    obtain ⟨y0, y1, y2, y3⟩ := hbx.cells
    have z0 := blk_free hbx 0
    have z1 := blk_free hbx 1
    have z2 := blk_free hbx 2
    have z3 := blk_free hbx 3
    by_cases hj : 0 ≤ j ∧ j < (A.objs.length : Int)
    · obtain ⟨jn, hjn⟩ : ∃ jn : Nat, (jn : Int) = j := ⟨j.toNat, by omega⟩
      have hjn2 : j.toNat = jn := by omega
      have hjl : jn < A.objs.length := by omega
      obtain ⟨gk, rfl⟩ : ∃ n, gk = n + 1 := ⟨gk - 1, by omega⟩
      have ho : A.objs[jn]? = some A.objs[jn] := List.getElem?_eq_getElem hjl
      generalize A.objs[jn] = o at ho
      have hRk : R = match o.own k with | some v => some (jn, v) | none => A.findF k gk o.proto := by
        rw [hRj]
        show (if 0 ≤ j then _ else _) = _
        rw [if_pos hj.1, hjn2, ho]
      have hpr := FF.out.proto jn o ho
      obtain ⟨gb, cap', b, _, _, hcl⟩ := HOBJ.out jn o ho
      have hownj := HOWN.out jn o ho
      subst hjn
      have hb : (decide (0 ≤ (jn : Int)) && decide ((jn : Int) < (A.objs.length : Int))) = true := by simp; omega
      rw [hb] at hhas
      have hcl0 := (hcl wr hfr).1
      have hin : (A.objs.length : Int) ≤ 10000 := by omega
      obtain ⟨LN, hLN⟩ : ∃ LN, LN = A.objs.length := ⟨_, rfl⟩
      rw [← hLN] at hcl
      have HCL := Lib.hid hcl
      have HJL : jn < LN := by omega
      have HIN : LN ≤ 10000 := by omega
      have HFR := Lib.hid hfr
      have HBX := Lib.hid hbx
      have HRJ := Lib.hid hRk
      have HPR := Lib.hid hpr
      have HJG := Lib.hid hjg
      have HWN := Lib.hid hownj
      clear hcl0 hin hLN hcl hfr hbx hRj hRk hpr hjg hb hjl hj hjn2 hrl ho hownj HS0
      cases hov : o.own k with
      | some v =>
        have hRv : R = some (jn, v) := by rw [HRJ.out, hov]
        subst hRv
        have hown : Calls Tryd.prog 23 #[.pointer (some ⟨h, 0, none⟩), .int .i64 (jn : Int), .string S] wr fun e w' => e = .returned (.tuple #[.agg #[.int .i64 v.k, .float .f64 v.n, .string (bs v.t), .int .i64 v.r], .bool true]) ∧ Fr [] wr w' := by
          have := HWN.out wr HFR.out
          rw [hov] at this
          exact this
        have hfa : findAns (some (jn, v)) = .tuple #[.int .i64 (jn : Int), .agg #[.int .i64 v.k, .float .f64 v.n, .string (bs v.t), .int .i64 v.r]] := rfl
        have HFA := Lib.hid hfa
        generalize v.k = vk at *
        generalize v.n = vn at *
        generalize bs v.t = vT at *
        generalize v.r = vr at *
        clear hov HRJ HPR HWN hfa HJG
        go_wp2_with (first
          | (go_at_call 44; ((with_reducible refine hhas.mono ?_); rintro e w1 ⟨rfl, rfl⟩))
          | (go_at_call 23; ((with_reducible refine hown.mono ?_); rintro e w2 ⟨rfl, hf2⟩; have HF2 := Lib.hid hf2; have HB2 := Lib.hid (HBX.out.below hf2.below0); clear hf2))
          | fail)
        have b3 : Bx w.heap.size 0 0 ⟨#[]⟩ 0 (w2.alloc (.cells #[.int .i64 vk, .float .f64 vn, .string vT, .int .i64 vr] 31 (0, 0))) := HB2.out.below ((Below.refl _ _).alloc (Nat.le_refl _) _)
        have c3 := Bx.new vk vn vT vr w2
        have r3 : Fr [] w (w2.alloc (.cells #[.int .i64 vk, .float .f64 vn, .string vT, .int .i64 vr] 31 (0, 0))) := (HFR.out.trans HF2.out (fun _ h => by cases h)).trans (Fr.alloc _ _) (fun _ h => by cases h)
        clear y0 y1 y2 y3 z0 z1 z2 z3
        generalize w2.alloc (.cells #[.int .i64 vk, .float .f64 vn, .string vT, .int .i64 vr] 31 (0, 0)) = W3 at *
        generalize w2.heap.size = N2 at *
        obtain ⟨y0, y1, y2, y3⟩ := b3.cells
        have z0 := blk_free b3 0
        have z1 := blk_free b3 1
        have z2 := blk_free b3 2
        have z3 := blk_free b3 3
        obtain ⟨x0, x1, x2, x3⟩ := c3.cells
        have R3 := Lib.hid r3
        have B3 := Lib.hid b3
        clear r3 b3 c3 hhas hown HF2 HB2
        go_region
        all_goals
          have R4 := Lib.hid (fr_box R3.out (.int .i64 vk) (.float .f64 vn) (.string vT) (.int .i64 vr)).drew
          go_wp2
          refine bodyPost_ret (v := .tuple #[.int .i64 (jn : Int), .agg #[.int .i64 vk, .float .f64 vn, .string vT, .int .i64 vr]]) (by simp [results, Tryd.results55, go_sem, y0, y1, y2, y3]) rfl ⟨by rw [HFA.out], R4.out⟩
      | none =>
        have hRn : R = A.findF k gk o.proto := by rw [HRJ.out, hov]
        have hown : Calls Tryd.prog 23 #[.pointer (some ⟨h, 0, none⟩), .int .i64 (jn : Int), .string S] wr fun e w' => e = .returned (.tuple #[.agg #[.int .i64 0, .float .f64 0, .string ⟨#[]⟩, .int .i64 0], .bool false]) ∧ Fr [] wr w' := by
          have := HWN.out wr HFR.out
          rw [hov] at this
          exact this
        have hrel' : ∀ W O, Fr [] wr W → FindRel A k R w gk o.proto (W.alloc O) := by
          intro W O hW
          have h1 := HPR.out
          have h2 := HJG.out
          have hf := (HFR.out.trans hW (fun _ h => by cases h)).trans (Fr.alloc W O) (fun _ h => by cases h)
          exact ⟨by omega, hRn, hf, (HBX.out.below hW.below0).below ((Fr.alloc W O).below0)⟩
        have HREL := Lib.hid hrel'
        have hcl := fun W (hW : Fr [] wr W) O => HCL.out (W.alloc O) ((HFR.out.trans hW (fun _ h => by cases h)).trans (Fr.alloc W O) (fun _ h => by cases h))
        have HCLW := Lib.hid hcl
        clear hov HRJ HPR HWN HJG hRn hrel' hcl
        generalize o.proto = pr at *
        go_wp2_with (first
          | (go_at_call 44; ((with_reducible refine hhas.mono ?_); rintro e w1 ⟨rfl, rfl⟩))
          | (go_at_call 23; ((with_reducible refine hown.mono ?_); rintro e w2 ⟨rfl, hf2⟩; have HF2 := Lib.hid hf2; have HB2 := Lib.hid (HBX.out.below hf2.below0); clear hf2; obtain ⟨cc0, cc1, cc2⟩ := HCLW.out _ HF2.out (.cells #[.int .i64 0, .float .f64 0, .string ⟨#[]⟩, .int .i64 0] 31 (0, 0))))
          | fail)
        have HR2 := Lib.hid (HREL.out w2 (.cells #[.int .i64 0, .float .f64 0, .string ⟨#[]⟩, .int .i64 0] 31 (0, 0)) HF2.out)
        go_roundg gk
        case measure => omega
        case rel => exact ⟨pr, rfl, HR2⟩
    · have hb : (decide (0 ≤ j) && decide (j < (A.objs.length : Int))) = false := by
        rw [Bool.and_eq_false_iff, decide_eq_false_iff_not, decide_eq_false_iff_not]; omega
      rw [hb] at hhas
      have hRn : R = none := by
        rw [hRj]
        cases gk with
        | zero => rfl
        | succ gk =>
          show (if 0 ≤ j then _ else _) = _
          split
          · rw [List.getElem?_eq_none (by omega)]
          · rfl
      subst hRn
      have R3 := Lib.hid (fr_box hfr (.int .i64 0) (.float .f64 0) (.string ⟨#[]⟩) (.int .i64 0))
      clear hrl hjg hRj hfr hbx hj hb HHAS HOWN HOBJ FF HS0
      go_wp2_with (first
        | (go_at_call 44; ((with_reducible refine hhas.mono ?_); rintro e w1 ⟨rfl, rfl⟩))
        | fail)
      refine bodyPost_ret (v := .tuple #[.int .i64 (-1), .agg #[.int .i64 0, .float .f64 0, .string ⟨#[]⟩, .int .i64 0]]) (by simp [results, Tryd.results55, go_sem, y0, y1, y2, y3]) rfl ⟨rfl, R3.out⟩
end Go.Proofs.YtmhoebbdapjpeaaDoor
