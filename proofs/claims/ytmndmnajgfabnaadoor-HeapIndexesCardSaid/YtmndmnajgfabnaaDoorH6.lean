/- Layer 8: an object's properties: what a new one does to the ring. Conditions: those that each theorem names. -/
import Derived.Test.YtmndmnajgfabnaaDoorH5
namespace Go.Proofs.YtmndmnajgfabnaaDoor
open Go.RowKit Go.Maps
set_option linter.all false

theorem cell_set_off (w : World) (c o b i : Nat) (u : Value) (h : o ≠ i) : (w.setCell ⟨c, o, none⟩ u).cell? ⟨b, i, none⟩ = w.cell? ⟨b, i, none⟩ := by
  by_cases e : b = c
  · subst e
    simp only [World.cell?, World.setCell, Array.getElem?_modify]
    cases hb : w.heap[b]? with
    | none => simp
    | some x => cases x <;> simp [h, Array.getElem?_setIfInBounds]
  · exact cell_keep (heap_set_other e o u) i
theorem cell_set_blk (w : World) (c o b i : Nat) (u : Value) (h : b ≠ c) : (w.setCell ⟨c, o, none⟩ u).cell? ⟨b, i, none⟩ = w.cell? ⟨b, i, none⟩ := cell_keep (heap_set_other h o u) i
theorem cell_set_same {w : World} {b : Nat} {cs : Array Value} {T : TypeId} {f : Nat × Nat} (h : w.heap[b]? = some (.cells cs T f)) (o : Nat) (ho : o < cs.size) (u : Value) : (w.setCell ⟨b, o, none⟩ u).cell? ⟨b, o, none⟩ = some u := by
  have := heap_set h o u
  simp [World.cell?, this, ho]
theorem Nd.set {b : Nat} {w : World} (H : Nd b w) (c o : Nat) (u : Value) : Nd b (w.setCell ⟨c, o, none⟩ u) := by
  obtain ⟨cs, h1, h2⟩ := H
  by_cases e : b = c
  · subst e
    exact ⟨_, heap_set h1 o u, by simp [h2]⟩
  · exact ⟨cs, (heap_set_other e o u).trans h1, h2⟩
theorem Nd.same {b : Nat} {w : World} (H : Nd b w) (o : Nat) (ho : o < 7) (u : Value) : (w.setCell ⟨b, o, none⟩ u).cell? ⟨b, o, none⟩ = some u := by
  obtain ⟨cs, h1, h2⟩ := H
  exact cell_set_same h1 o (by omega) u
theorem Nd.free {b : Nat} {w : World} (H : Nd b w) (o : Nat) : w.frozen? ⟨b, o, none⟩ = false := by
  obtain ⟨cs, h1, h2⟩ := H
  exact blk_free h1 o
theorem Nd.lt {b : Nat} {w : World} (H : Nd b w) : b < w.heap.size := by
  obtain ⟨cs, h1, h2⟩ := H
  exact lt_of_heap h1
theorem Pay.set {b : Nat} {k : List UInt8} {v : V} {w : World} (H : Pay b k v w) (c o : Nat) (ho : 4 < o) (u : Value) : Pay b k v (w.setCell ⟨c, o, none⟩ u) :=
  ⟨(cell_set_off w c o b 0 u (by omega)).trans H.c0, (cell_set_off w c o b 1 u (by omega)).trans H.c1, (cell_set_off w c o b 2 u (by omega)).trans H.c2, (cell_set_off w c o b 3 u (by omega)).trans H.c3, (cell_set_off w c o b 4 u (by omega)).trans H.c4⟩
theorem turned_heap {w w' : World} {m k : Nat} (h : w.mapTurned w' m) (hk : k ≠ m) : w'.heap[k]? = w.heap[k]? := by
  obtain ⟨es, clock, es', clock', hb, rfl⟩ := h
  unfold ChangeMaps.setBlock
  simp only
  rw [Array.getElem?_setIfInBounds_ne (Ne.symm hk)]
theorem turned_size {w w' : World} {m : Nat} (h : w.mapTurned w' m) : w'.heap.size = w.heap.size := by
  obtain ⟨es, clock, es', clock', hb, rfl⟩ := h
  simp [ChangeMaps.setBlock]
/-- The blocks of an opened object's properties are all apart. -/
def ApartR (m r : Nat) (L : List Pr) : Prop := (m :: r :: L.map (·.1)).Nodup
theorem PropsR.snoc {m r x q : Nat} {L : List Pr} {w w' : World} {k : List UInt8} {v : V} (H : PropsR (some (m, r)) L w) (hA : ApartR m r L) (hx : Nd x w) (hp : Pay x k v w) (h5 : w.cell? ⟨x, 5, none⟩ = some (ptr q)) (h6 : w.cell? ⟨x, 6, none⟩ = some (ptr r))
    (hq : lastN r (L.map (·.1)) = q) (hxn : x ∉ m :: r :: L.map (·.1))
    (hM : MapP Tryd.prog 9 m (keysB L ++ [(k, x)]) w') (ht : ((w.setCell ⟨q, 6, none⟩ (ptr x)).setCell ⟨r, 5, none⟩ (ptr x)).mapTurned w' m) : PropsR (some (m, r)) (L ++ [(x, k, v)]) w' := by
  obtain ⟨_, hr, hL, hl⟩ := H
  unfold ApartR at hA
  have hd1 := List.nodup_cons.1 hA
  have hd2 := List.nodup_cons.1 hd1.2
  simp only [List.mem_cons, not_or] at hxn hd1
  have hqm : q ∈ r :: L.map (·.1) := by rw [← hq]; exact lastN_mem _ _
  have hqM : q ≠ m := by
    rintro rfl
    rw [List.mem_cons] at hqm
    rcases hqm with h | h
    · exact hd1.1.1 h
    · exact hd1.1.2 h
  have hqx : x ≠ q := by
    rintro rfl
    rw [List.mem_cons] at hqm
    rcases hqm with h | h
    · exact hxn.2.1 h
    · exact hxn.2.2 h
  have hqN : Nd q w := by
    rw [List.mem_cons] at hqm
    rcases hqm with rfl | h
    · exact hr
    · rw [List.mem_map] at h
      obtain ⟨p, hp, rfl⟩ := h
      exact (hL p hp).1
  have keepN : ∀ b, b ≠ m → Nd b w → Nd b w' := fun b hb h => Nd.keep (turned_heap ht hb) ((h.set q 6 _).set r 5 _)
  have keepP : ∀ b k v, b ≠ m → Pay b k v w → Pay b k v w' := fun b k v hb h => Pay.keep (turned_heap ht hb) ((h.set q 6 (by omega) _).set r 5 (by omega) _)
  have k6 : ∀ y, y ≠ m → y ≠ q → w'.cell? ⟨y, 6, none⟩ = w.cell? ⟨y, 6, none⟩ := fun y hy hyq => (cell_keep (turned_heap ht hy) 6).trans ((cell_set_off _ r 5 y 6 _ (by omega)).trans (cell_set_blk w q 6 y 6 _ hyq))
  have k5 : ∀ y, y ≠ m → y ≠ r → w'.cell? ⟨y, 5, none⟩ = w.cell? ⟨y, 5, none⟩ := fun y hy hyr => (cell_keep (turned_heap ht hy) 5).trans ((cell_set_blk _ r 5 y 5 _ hyr).trans (cell_set_off w q 6 y 5 _ (by omega)))
  have hrm : r ≠ m := fun e => hd1.1.1 e.symm
  have hLm : ∀ p ∈ L, p.1 ≠ m := fun p hp e => hd1.1.2 (by rw [← e]; exact List.mem_map_of_mem hp)
  have hLr : ∀ y ∈ L.map (·.1), y ≠ r := fun y hy e => hd2.1 (by rw [← e]; exact hy)
  have hLm' : ∀ y ∈ L.map (·.1), y ≠ m := fun y hy e => hd1.1.2 (by rw [← e]; exact hy)
  refine ⟨by unfold keysB at hM ⊢; rw [List.map_append]; exact hM, keepN r hrm hr, ?_, ?_⟩
  · intro p hp'
    rw [List.mem_append, List.mem_singleton] at hp'
    rcases hp' with hp' | rfl
    · exact ⟨keepN _ (hLm p hp') (hL p hp').1, keepP _ _ _ (hLm p hp') (hL p hp').2⟩
    · exact ⟨keepN _ hxn.1 hx, keepP _ _ _ hxn.1 hp⟩
  · rw [List.map_append]
    refine Links.snoc (w := w) (q := q) (x := x) ?_ ?_ ?_ ?_ hq hd1.2 ?_ ?_ hl
    · exact (cell_keep (turned_heap ht hqM) 6).trans ((cell_set_off _ r 5 q 6 _ (by omega)).trans (hqN.same 6 (by omega) _))
    · exact (k5 x hxn.1 hxn.2.1).trans h5
    · exact (k6 x hxn.1 hqx).trans h6
    · exact (cell_keep (turned_heap ht hrm) 5).trans ((hr.set q 6 _).same 5 (by omega) _)
    · intro y hy hyq
      rw [List.mem_cons] at hy
      rcases hy with rfl | hy
      · exact k6 _ hrm hyq
      · exact k6 _ (hLm' y hy) hyq
    · intro y hy
      exact k5 _ (hLm' y hy) (hLr y hy)
end Go.Proofs.YtmndmnajgfabnaaDoor
