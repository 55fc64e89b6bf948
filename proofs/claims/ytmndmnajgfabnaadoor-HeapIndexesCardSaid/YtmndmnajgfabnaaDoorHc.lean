/- Layer 8: a heap and its objects in memory. Conditions: those that each theorem names. -/
import Derived.Test.YtmndmnajgfabnaaDoorHb
namespace Go.Proofs.YtmndmnajgfabnaaDoor
open Go.RowKit Go.Maps
set_option linter.all false

/-- Where an object lies: its block, its map and its ring (if it has been opened), its properties with their blocks, its row of items. -/
structure Gx where
  blk : Nat
  op : Option (Nat × Nat)
  L : List Pr
  it : Value
def Gx.blocks (g : Gx) : List Nat := g.blk :: (blocksR g.op g.L ++ g.it.ownBlock.toList)
def objC (o : Ob) (g : Gx) : Array Value := #[.int .i64 o.kind, .int .i64 o.proto, mapV g.op, ringV g.op, g.it, .int .i64 o.a, .int .i64 o.b, .int .i64 o.s]
def itemCells (l : List V) : List Value := l.flatMap V.cells
structure ObAt (o : Ob) (g : Gx) (w : World) : Prop where
  blk : w.heap[g.blk]? = some (.cells (objC o g) 88 (0, 0))
  props : PropsR g.op g.L w
  eq : o.props = g.L.map (·.2)
  apart : g.blocks.Nodup
  keys : (g.L.map (·.2.1)).Nodup
  items : w.ownsRow 0 31 4 g.it o.items.length (itemCells o.items)
theorem row_keep {w w' : World} {base : Nat} {e : TypeId} {size : Nat} {v : Value} {n : Nat} {xs : List Value} (h : w.ownsRow base e size v n xs) (hb : ∀ b ∈ v.ownBlock.toList, w'.heap[b]? = w.heap[b]?) : w'.ownsRow base e size v n xs := by
  obtain ⟨h1, h2⟩ := h
  refine ⟨h1, ?_⟩
  rcases h2 with h2 | ⟨g, cap, cur, hv, hg, hh, r⟩
  · exact Or.inl h2
  · subst hv
    exact Or.inr ⟨g, cap, cur, rfl, hg, by rw [hb g (by simp [Value.ownBlock])]; exact hh, r⟩
theorem ObAt.keep {o : Ob} {g : Gx} {w w' : World} (H : ObAt o g w) (h : ∀ b ∈ g.blocks, w'.heap[b]? = w.heap[b]?) : ObAt o g w' := by
  refine ⟨(h g.blk (by simp [Gx.blocks])).trans H.blk, H.props.keep (fun b hb => h b ?_), H.eq, H.apart, H.keys, row_keep H.items (fun b hb => h b ?_)⟩
  · unfold Gx.blocks; exact List.mem_cons_of_mem _ (List.mem_append_left _ hb)
  · unfold Gx.blocks; exact List.mem_cons_of_mem _ (List.mem_append_right _ hb)
/-- A heap: its objects, and the cells that are left. -/
structure Hp where
  objs : List Ob
  left : Nat
def Ob.cells (o : Ob) : Nat := 1 + o.props.length + o.items.length
def Hp.taken (A : Hp) : Nat := (A.objs.map Ob.cells).sum
structure Hp.Ok (A : Hp) (c : Nat) : Prop where
  sum : A.taken + A.left = c
  few : c ≤ 10000
  proto : ∀ (i : Nat) (o : Ob), A.objs[i]? = some o → o.proto = -1 ∨ (0 ≤ o.proto ∧ o.proto < (i : Int))
def allBlocks (h : Nat) (sv : Value) (gs : List Gx) : List Nat := (h :: sv.ownBlock.toList) ++ gs.flatMap Gx.blocks
structure HeapG (h : Nat) (A : Hp) (sv : Value) (gs : List Gx) (w : World) : Prop where
  hp : HpC h sv (A.left : Int) w
  row : w.ownsRow 0 89 1 sv gs.length (gs.map fun g => Value.pointer (some ⟨g.blk, 0, none⟩))
  len : A.objs.length = gs.length
  obs : ∀ (i : Nat) (o : Ob) (g : Gx), A.objs[i]? = some o → gs[i]? = some g → ObAt o g w
  apart : (allBlocks h sv gs).Nodup
  lt : ∀ b ∈ allBlocks h sv gs, b < w.heap.size
/-- A heap lies at h, in these blocks. -/
def HeapAt (h : Nat) (A : Hp) (O : List Nat) (w : World) : Prop := ∃ sv gs, HeapG h A sv gs w ∧ O = allBlocks h sv gs
theorem HeapG.keep {h : Nat} {A : Hp} {sv : Value} {gs : List Gx} {w w' : World} (H : HeapG h A sv gs w) (hs : w.heap.size ≤ w'.heap.size) (hk : ∀ b ∈ allBlocks h sv gs, w'.heap[b]? = w.heap[b]?) : HeapG h A sv gs w' := by
  refine ⟨(hk h (by simp [allBlocks])).trans H.hp, row_keep H.row (fun b hb => hk b ?_), H.len, fun i o g ho hg => (H.obs i o g ho hg).keep (fun b hb => hk b ?_), H.apart, fun b hb => Nat.lt_of_lt_of_le (H.lt b hb) hs⟩
  · unfold allBlocks; exact List.mem_append_left _ (List.mem_cons_of_mem _ hb)
  · unfold allBlocks; exact List.mem_append_right _ (List.mem_flatMap.2 ⟨g, List.mem_of_getElem? hg, hb⟩)
theorem HeapG.fr {h : Nat} {A : Hp} {sv : Value} {gs : List Gx} {w w' : World} (H : HeapG h A sv gs w) (hf : Fr [] w w') : HeapG h A sv gs w' := H.keep hf.size (fun b hb => hf.block b (H.lt b hb) List.not_mem_nil)
theorem HeapAt.fr {h : Nat} {A : Hp} {O : List Nat} {w w' : World} (H : HeapAt h A O w) (hf : Fr [] w w') : HeapAt h A O w' := by
  obtain ⟨sv, gs, H, rfl⟩ := H
  exact ⟨sv, gs, H.fr hf, rfl⟩
theorem row_slice {w : World} {base : Nat} {e : TypeId} {size : Nat} {v : Value} {n : Nat} {xs : List Value} (h : w.ownsRow base e size v n xs) : ∃ p cap, v = .slice p n cap := by
  obtain ⟨_, h2 | ⟨g, cap, cur, hv, _⟩⟩ := h
  · exact ⟨none, 0, by rw [h2.1, h2.2]⟩
  · exact ⟨_, cap, hv⟩
theorem nodup_swap {A B C D : List Nat} {N : Nat} (h : (A ++ (B ++ C)).Nodup) (hD : D.Nodup) (hsub : ∀ b ∈ D, b ∈ B ∨ N ≤ b) (hlt : ∀ b ∈ A ++ (B ++ C), b < N) : (A ++ (D ++ C)).Nodup := by
  rw [List.nodup_append, List.nodup_append] at h ⊢
  obtain ⟨hA, ⟨hB, hC, hBC⟩, hABC⟩ := h
  refine ⟨hA, ⟨hD, hC, ?_⟩, ?_⟩
  · intro a ha c hc e
    rcases hsub a ha with h1 | h1
    · exact hBC a h1 c hc e
    · have := hlt c (List.mem_append_right _ (List.mem_append_right _ hc)); omega
  · intro a ha c hc e
    rw [List.mem_append] at hc
    rcases hc with hc | hc
    · rcases hsub c hc with h1 | h1
      · exact hABC a ha c (List.mem_append_left _ h1) e
      · have := hlt a (List.mem_append_left _ ha); omega
    · exact hABC a ha c (List.mem_append_right _ hc) e
/-- What became of one object, and of the cells that are left. -/
structure Upd (h : Nat) (sv : Value) (g : Gx) (o' : Ob) (left' : Int) (w w' : World) : Prop where
  ex : ∃ g', g'.blk = g.blk ∧ ObAt o' g' w' ∧ (∀ b ∈ g'.blocks, (b ∈ g.blocks ∨ w.heap.size ≤ b) ∧ b < w'.heap.size)
  hp : HpC h sv left' w'
  fr : Fr (h :: g.blocks) w w'
theorem HeapG.upd {h : Nat} {A : Hp} {sv : Value} {g : Gx} {g1 g2 : List Gx} {o o' : Ob} {o1 o2 : List Ob} {left' : Nat} {w w' : World} (H : HeapG h A sv (g1 ++ g :: g2) w) (hA : A.objs = o1 ++ o :: o2) (hl : o1.length = g1.length) (U : Upd h sv g o' (left' : Int) w w') :
    ∃ gs', HeapG h ⟨o1 ++ o' :: o2, left'⟩ sv gs' w' ∧ ∀ b ∈ allBlocks h sv gs', b ∈ allBlocks h sv (g1 ++ g :: g2) ∨ w.heap.size ≤ b := by
  obtain ⟨⟨g', hblk, hob, hsub⟩, hp, hfr⟩ := U
  have hall : allBlocks h sv (g1 ++ g :: g2) = (h :: sv.ownBlock.toList ++ g1.flatMap Gx.blocks) ++ (g.blocks ++ g2.flatMap Gx.blocks) := by
    unfold allBlocks; rw [List.flatMap_append, List.flatMap_cons, List.append_assoc]
  have hall' : allBlocks h sv (g1 ++ g' :: g2) = (h :: sv.ownBlock.toList ++ g1.flatMap Gx.blocks) ++ (g'.blocks ++ g2.flatMap Gx.blocks) := by
    unfold allBlocks; rw [List.flatMap_append, List.flatMap_cons, List.append_assoc]
  have hap := H.apart
  have hlt := H.lt
  rw [hall] at hap hlt
  have hlen := H.len
  rw [hA] at hlen
  have hN := List.nodup_append.1 hap
  have hN2 := List.nodup_append.1 hN.2.1
  have hN1 : (h :: (sv.ownBlock.toList ++ g1.flatMap Gx.blocks)).Nodup := by have := hN.1; simpa using this
  -- blocks of others are not touched
  have hfree : ∀ b, b < w.heap.size → b ≠ h → b ∉ g.blocks → w'.heap[b]? = w.heap[b]? := fun b hb h1 h2 => hfr.block b hb (by simp only [List.mem_cons, not_or]; exact ⟨h1, h2⟩)
  have hrow : ∀ b ∈ sv.ownBlock.toList, w'.heap[b]? = w.heap[b]? := by
    intro b hb
    have hm : b ∈ h :: sv.ownBlock.toList ++ g1.flatMap Gx.blocks := List.mem_append_left _ (List.mem_cons_of_mem _ hb)
    refine hfree b (hlt b (List.mem_append_left _ hm)) ?_ ?_
    · rintro rfl
      exact (List.nodup_cons.1 hN1).1 (List.mem_append_left _ hb)
    · intro h2
      exact hN.2.2 b hm b (List.mem_append_left _ h2) rfl
  have hg1 : ∀ k ∈ g1, ∀ b ∈ k.blocks, w'.heap[b]? = w.heap[b]? := by
    intro k hk b hb
    have hm0 : b ∈ g1.flatMap Gx.blocks := List.mem_flatMap.2 ⟨k, hk, hb⟩
    have hm : b ∈ h :: sv.ownBlock.toList ++ g1.flatMap Gx.blocks := List.mem_append_right _ hm0
    refine hfree b (hlt b (List.mem_append_left _ hm)) ?_ ?_
    · rintro rfl
      exact (List.nodup_cons.1 hN1).1 (List.mem_append_right _ hm0)
    · intro h2
      exact hN.2.2 b hm b (List.mem_append_left _ h2) rfl
  have hg2 : ∀ k ∈ g2, ∀ b ∈ k.blocks, w'.heap[b]? = w.heap[b]? := by
    intro k hk b hb
    have hm0 : b ∈ g2.flatMap Gx.blocks := List.mem_flatMap.2 ⟨k, hk, hb⟩
    have hm : b ∈ g.blocks ++ g2.flatMap Gx.blocks := List.mem_append_right _ hm0
    refine hfree b (hlt b (List.mem_append_right _ hm)) ?_ ?_
    · rintro rfl
      exact hN.2.2 b (List.mem_append_left _ (List.mem_cons_self)) b hm rfl
    · intro h2
      exact hN2.2.2 b h2 b hm0 rfl
  refine ⟨g1 ++ g' :: g2, ⟨hp, ?_, ?_, ?_, ?_, ?_⟩, ?_⟩
  · have := row_keep H.row hrow
    have e1 : (g1 ++ g' :: g2).length = (g1 ++ g :: g2).length := by simp
    have e2 : (g1 ++ g' :: g2).map (fun g => Value.pointer (some ⟨g.blk, 0, none⟩)) = (g1 ++ g :: g2).map (fun g => Value.pointer (some ⟨g.blk, 0, none⟩)) := by
      rw [List.map_append, List.map_append, List.map_cons, List.map_cons, hblk]
    rw [e1, e2]
    exact this
  · simpa using hlen
  · intro i p q hp' hq
    have hl2 : o2.length = g2.length := by simp at hlen; omega
    by_cases h1 : i < g1.length
    · rw [List.getElem?_append_left (by omega)] at hp' hq
      refine (H.obs i p q (by rw [hA, List.getElem?_append_left (by omega)]; exact hp') (by rw [List.getElem?_append_left h1]; exact hq)).keep (hg1 q (List.mem_of_getElem? hq))
    · by_cases h2 : i = g1.length
      · subst h2
        rw [List.getElem?_append_right (Nat.le_refl _), Nat.sub_self] at hq
        rw [List.getElem?_append_right (by omega), hl, Nat.sub_self] at hp'
        simp only [List.getElem?_cons_zero, Option.some.injEq] at hp' hq
        subst hp'
        subst hq
        exact hob
      · obtain ⟨j, hj⟩ : ∃ j, i - g1.length = j + 1 := ⟨i - g1.length - 1, by omega⟩
        rw [List.getElem?_append_right (by omega), hj, List.getElem?_cons_succ] at hq
        rw [List.getElem?_append_right (by omega), hl, hj, List.getElem?_cons_succ] at hp'
        refine (H.obs i p q (by rw [hA, List.getElem?_append_right (by omega), hl, hj, List.getElem?_cons_succ]; exact hp') (by rw [List.getElem?_append_right (by omega), hj, List.getElem?_cons_succ]; exact hq)).keep (hg2 q (List.mem_of_getElem? hq))
  · rw [hall']
    exact nodup_swap hap hob.apart (fun b hb => (hsub b hb).1) hlt
  · intro b hb
    rw [hall'] at hb
    rcases List.mem_append.1 hb with hb | hb
    rotate_left
    rcases List.mem_append.1 hb with hb | hb
    rotate_left 2
    · exact Nat.lt_of_lt_of_le (hlt b (List.mem_append_left _ hb)) hfr.size
    · exact (hsub b hb).2
    · exact Nat.lt_of_lt_of_le (hlt b (List.mem_append_right _ (List.mem_append_right _ hb))) hfr.size
  · intro b hb
    rw [hall'] at hb
    rw [hall]
    rcases List.mem_append.1 hb with hb | hb
    rotate_left
    rcases List.mem_append.1 hb with hb | hb
    rotate_left 2
    · exact Or.inl (List.mem_append_left _ hb)
    · exact (hsub b hb).1.imp (fun h => List.mem_append_right _ (List.mem_append_left _ h)) id
    · exact Or.inl (List.mem_append_right _ (List.mem_append_right _ hb))
end Go.Proofs.YtmndmnajgfabnaaDoor
