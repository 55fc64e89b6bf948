/- Layer 8: an object's properties: open. Conditions: those that each theorem names. Layer 8: an object's properties: what a new one does to the ring. Conditions: those that each theorem names. Layer 8: an object's properties: put of a new key. Conditions: those that each theorem names. Layer 8: an object's properties: put of an object's first key. Conditions: those that each theorem names. Layer 8: an object's properties: put of a key that is there; drop. Conditions: those that each theorem names. -/
import Derived.Test.YtmhoebbdapjpeaaDoorY2
import Derived.WalkSpells
namespace Go.Proofs.YtmhoebbdapjpeaaDoor
open Go.RowKit Go.Maps
set_option linter.all false

structure Opened (b : Nat) (c0 c1 c4 c5 c6 c7 : Value) (w w' : World) : Prop where
  blk : w'.heap[b]? = some (.cells #[c0, c1, .map (some w.heap.size), ptr (w.heap.size + 1), c4, c5, c6, c7] 88 (0, 0))
  props : PropsR (some (w.heap.size, w.heap.size + 1)) [] w'
  size : w'.heap.size = w.heap.size + 2
  fr : Fr [b] w w'
theorem Fr.cell {O : List Nat} {w w' : World} (h : Fr O w w') {b : Nat} (hb : b < w.heap.size) (hO : b ∉ O) (o : Nat) : w'.cell? ⟨b, o, none⟩ = w.cell? ⟨b, o, none⟩ := cell_keep (h.block b hb hO) o
theorem Fr.drew {O : List Nat} {w w' : World} (h : Fr O w w') : Fr O w w'.drew := ⟨h.os, h.tape, h.output, h.size, h.block⟩
theorem heap_drew (w : World) : w.drew.heap = w.heap := rfl
theorem heap_set_other {w : World} {b k : Nat} (h : k ≠ b) (i : Nat) (v : Value) : (w.setCell ⟨b, i, none⟩ v).heap[k]? = w.heap[k]? := Below.heap_setCell _ _ _ _ h
theorem heap_size_set (w : World) (a : Addr) (v : Value) : (w.setCell a v).heap.size = w.heap.size := by simp [World.setCell]
def ringZ (x y : Value) : Array Value := #[.string ⟨#[]⟩, .int .i64 0, .float .f64 0, .string ⟨#[]⟩, .int .i64 0, x, y]
set_option maxRecDepth 100000 in
set_option maxHeartbeats 1000000 in
theorem pOpen_any (b : Nat) (c0 c1 c4 c5 c6 c7 : Value) (w : World) (hb : w.heap[b]? = some (.cells #[c0, c1, .map none, .pointer none, c4, c5, c6, c7] 88 (0, 0))) :
    Calls Tryd.prog 79 #[.pointer (some ⟨b, 2, none⟩)] w fun e w' => e = .returned (.tuple #[]) ∧ Opened b c0 c1 c4 c5 c6 c7 w w' := by
  have hlt := lt_of_heap hb
  have k2 : w.cell? ⟨b, 2, none⟩ = some (.map none) := blk_cell hb 2 _ rfl
  have k3 : w.cell? ⟨b, 3, none⟩ = some (.pointer none) := blk_cell hb 3 _ rfl
  have f2 := blk_free hb 2
  have f3 := blk_free hb 3
  have hst := store_float
  have hmm := @run_makeMap Tryd.prog
  have HB := Lib.hid hb
  clear hb
  go_enter Tryd.func79, Tryd.ntmps79
  go_wp2
  -- the world behind both stores
  have e1 : (w.setCell ⟨b, 2, none⟩ (.map (some w.heap.size))).heap[b]? = _ := heap_set HB.out 2 _
  have e2 : ((w.setCell ⟨b, 2, none⟩ (.map (some w.heap.size))).setCell ⟨b, 3, none⟩ (ptr (w.heap.size + 1))).heap[b]? = _ := heap_set e1 3 _
  have s2 : ((w.setCell ⟨b, 2, none⟩ (.map (some w.heap.size))).setCell ⟨b, 3, none⟩ (ptr (w.heap.size + 1))).heap.size = w.heap.size := by rw [heap_size_set, heap_size_set]
  have r2 : Fr [b] w ((w.setCell ⟨b, 2, none⟩ (.map (some w.heap.size))).setCell ⟨b, 3, none⟩ (ptr (w.heap.size + 1))) := (Fr.set w b 2 _).trans (Fr.set _ b 3 _) (fun x hx => Or.inl hx)
  generalize ((w.setCell ⟨b, 2, none⟩ (.map (some w.heap.size))).setCell ⟨b, 3, none⟩ (ptr (w.heap.size + 1))) = W2 at e2 s2 r2 ⊢
  have e3 : ((W2.alloc (.map #[] 0)).alloc (.cells (ringZ (.pointer none) (.pointer none)) 114)).heap[w.heap.size + 1]? = some (.cells (ringZ (.pointer none) (.pointer none)) 114 (0, 0)) := by
    have := heap_new (W2.alloc (.map #[] 0)) (.cells (ringZ (.pointer none) (.pointer none)) 114)
    rw [heap_size, s2] at this; exact this
  have m3 : MapP Tryd.prog 9 w.heap.size [] ((W2.alloc (.map #[] 0)).alloc (.cells (ringZ (.pointer none) (.pointer none)) 114)) := by
    have := MapP.made (P := Tryd.prog) (K := 9) W2
    rw [s2] at this
    exact this.keep (Below.heap_alloc _ _ _ (by rw [heap_size]; omega))
  have b3 : ((W2.alloc (.map #[] 0)).alloc (.cells (ringZ (.pointer none) (.pointer none)) 114)).heap[b]? = some (.cells #[c0, c1, .map (some w.heap.size), ptr (w.heap.size + 1), c4, c5, c6, c7] 88 (0, 0)) := by
    rw [Below.heap_alloc _ _ _ (by rw [heap_size]; omega), Below.heap_alloc _ _ _ (by omega), e2]; rfl
  have s3 : ((W2.alloc (.map #[] 0)).alloc (.cells (ringZ (.pointer none) (.pointer none)) 114)).heap.size = w.heap.size + 2 := by rw [heap_size, heap_size, s2]
  have r3 : Fr [b] w ((W2.alloc (.map #[] 0)).alloc (.cells (ringZ (.pointer none) (.pointer none)) 114)) := (r2.trans (Fr.alloc _ _) (fun _ h => by cases h)).trans (Fr.alloc _ _) (fun _ h => by cases h)
  unfold ringZ at e3 m3 b3 s3 r3
  generalize ((W2.alloc (.map #[] 0)).alloc (.cells #[.string ⟨#[]⟩, .int .i64 0, .float .f64 0, .string ⟨#[]⟩, .int .i64 0, .pointer none, .pointer none] 114)) = W3 at e3 m3 b3 s3 r3 ⊢
  clear e1 e2 s2 r2 k2 k3 f2 f3
  have R := w.heap.size + 1
  obtain ⟨r, hr⟩ : ∃ r, r = w.heap.size + 1 := ⟨_, rfl⟩
  have k3 : W3.cell? ⟨b, 3, none⟩ = some (.pointer (some ⟨r, 0, none⟩)) := by rw [hr]; exact blk_cell b3 3 _ rfl
  rw [← hr] at e3
  have k5 : W3.cell? ⟨r, 5, none⟩ = some (.pointer none) := blk_cell e3 5 _ rfl
  have f5 := blk_free e3 5
  have E3 := Lib.hid e3
  have M3 := Lib.hid m3
  have B3 := Lib.hid b3
  have S3 := Lib.hid s3
  have R3 := Lib.hid r3
  have HR := Lib.hid hr
  have hbr : b ≠ r := by omega
  clear e3 m3 b3 s3 r3 HB hr R hlt
  clear hmm hst
  go_region
  have e4 : (W3.setCell ⟨r, 5, none⟩ (.pointer (some ⟨r, 0, none⟩))).drew.heap[r]? = _ := heap_set E3.out 5 _
  have b4 : (W3.setCell ⟨r, 5, none⟩ (.pointer (some ⟨r, 0, none⟩))).drew.heap[b]? = _ := (heap_set_other hbr 5 _).trans B3.out
  have m4 : MapP Tryd.prog 9 w.heap.size [] (W3.setCell ⟨r, 5, none⟩ (.pointer (some ⟨r, 0, none⟩))).drew := M3.out.keep (heap_set_other (by have := HR.out; omega) 5 _)
  have s4 : (W3.setCell ⟨r, 5, none⟩ (.pointer (some ⟨r, 0, none⟩))).drew.heap.size = w.heap.size + 2 := (heap_size_set _ _ _).trans S3.out
  have r4 : Fr [b] w (W3.setCell ⟨r, 5, none⟩ (.pointer (some ⟨r, 0, none⟩))).drew := R3.out.trans (O' := [r]) (Fr.set W3 r 5 _).drew (fun x hx => by simp at hx; have := HR.out; omega)
  generalize (W3.setCell ⟨r, 5, none⟩ (.pointer (some ⟨r, 0, none⟩))).drew = W4 at e4 b4 m4 s4 r4 ⊢
  have k3 : W4.cell? ⟨b, 3, none⟩ = some (.pointer (some ⟨r, 0, none⟩)) := by rw [HR.out]; exact blk_cell b4 3 _ rfl
  have k6 : W4.cell? ⟨r, 6, none⟩ = some (.pointer none) := blk_cell e4 6 _ rfl
  have f6 := blk_free e4 6
  have E4 := Lib.hid e4
  have M4 := Lib.hid m4
  have B4 := Lib.hid b4
  have S4 := Lib.hid s4
  have R4 := Lib.hid r4
  clear e4 m4 b4 s4 r4 E3 M3 B3 S3 R3 k5 f5
  go_wp2
  go_region
  have e5 : (W4.setCell ⟨r, 6, none⟩ (.pointer (some ⟨r, 0, none⟩))).drew.heap[r]? = _ := heap_set E4.out 6 _
  have b5 : (W4.setCell ⟨r, 6, none⟩ (.pointer (some ⟨r, 0, none⟩))).drew.heap[b]? = _ := (heap_set_other hbr 6 _).trans B4.out
  have m5 : MapP Tryd.prog 9 w.heap.size [] (W4.setCell ⟨r, 6, none⟩ (.pointer (some ⟨r, 0, none⟩))).drew := M4.out.keep (heap_set_other (by have := HR.out; omega) 6 _)
  have s5 : (W4.setCell ⟨r, 6, none⟩ (.pointer (some ⟨r, 0, none⟩))).drew.heap.size = w.heap.size + 2 := (heap_size_set _ _ _).trans S4.out
  have r5 : Fr [b] w (W4.setCell ⟨r, 6, none⟩ (.pointer (some ⟨r, 0, none⟩))).drew := R4.out.trans (O' := [r]) (Fr.set W4 r 6 _).drew (fun x hx => by simp at hx; have := HR.out; omega)
  generalize (W4.setCell ⟨r, 6, none⟩ (.pointer (some ⟨r, 0, none⟩))).drew = W5 at e5 b5 m5 s5 r5 ⊢
  have hfin : Opened b c0 c1 c4 c5 c6 c7 w W5 := by
    have hr := HR.out
    subst hr
    refine ⟨b5, ⟨m5, ⟨_, e5, rfl⟩, (fun q hq => absurd hq List.not_mem_nil), ⟨?_, ?_⟩⟩, s5, r5⟩
    · exact blk_cell e5 6 _ rfl
    · exact blk_cell e5 5 _ rfl
  clear e5 m5 b5 s5 r5 E4 M4 B4 S4 R4 k6 f6 k3
  have HF := Lib.hid hfin
  clear hfin
  go_wp2
  go_end0
  exact ⟨rfl, HF.out⟩
end Go.Proofs.YtmhoebbdapjpeaaDoor
namespace Go.Proofs.YtmhoebbdapjpeaaDoor
open Go.RowKit Go.Maps
set_option linter.all false

theorem cell_set_off (w : World) (c o b i : Nat) (u : Value) (h : o ≠ i) : (w.setCell ⟨c, o, none⟩ u).cell? ⟨b, i, none⟩ = w.cell? ⟨b, i, none⟩ := by
  by_cases e : b = c
  · subst e
    simp only [World.cell?, World.setCell, Array.getElem?_modify]
    cases hb : w.heap[b]? with
    | none => simp
    | some x => cases x <;> simp [h, Array.getElem?_setIfInBounds]
  · exact cell_keep (heap_set_other e o u) i
theorem cell_set_blk (w : World) (c o b i : Nat) (u : Value) (h : b ≠ c) : (w.setCell ⟨c, o, none⟩ u).cell? ⟨b, i, none⟩ = w.cell? ⟨b, i, none⟩ := cell_keep (heap_set_other h o u) i
theorem cell_set_same {w : World} {b : Nat} {cs : Array Value} {T : TypeId} {f : Nat × Nat} (h : w.heap[b]? = some (.cells cs T f)) (o : Nat) (ho : o < cs.size) (u : Value) : (w.setCell ⟨b, o, none⟩ u).cell? ⟨b, o, none⟩ = some u := by
  have := heap_set h o u
  simp [World.cell?, this, ho]
theorem Nd.set {b : Nat} {w : World} (H : Nd b w) (c o : Nat) (u : Value) : Nd b (w.setCell ⟨c, o, none⟩ u) := by
  obtain ⟨cs, h1, h2⟩ := H
  by_cases e : b = c
  · subst e
    exact ⟨_, heap_set h1 o u, by simp [h2]⟩
  · exact ⟨cs, (heap_set_other e o u).trans h1, h2⟩
theorem Nd.same {b : Nat} {w : World} (H : Nd b w) (o : Nat) (ho : o < 7) (u : Value) : (w.setCell ⟨b, o, none⟩ u).cell? ⟨b, o, none⟩ = some u := by
  obtain ⟨cs, h1, h2⟩ := H
  exact cell_set_same h1 o (by omega) u
theorem Nd.free {b : Nat} {w : World} (H : Nd b w) (o : Nat) : w.frozen? ⟨b, o, none⟩ = false := by
  obtain ⟨cs, h1, h2⟩ := H
  exact blk_free h1 o
theorem Nd.lt {b : Nat} {w : World} (H : Nd b w) : b < w.heap.size := by
  obtain ⟨cs, h1, h2⟩ := H
  exact lt_of_heap h1
theorem Pay.set {b : Nat} {k : List UInt8} {v : V} {w : World} (H : Pay b k v w) (c o : Nat) (ho : 4 < o) (u : Value) : Pay b k v (w.setCell ⟨c, o, none⟩ u) :=
  ⟨(cell_set_off w c o b 0 u (by omega)).trans H.c0, (cell_set_off w c o b 1 u (by omega)).trans H.c1, (cell_set_off w c o b 2 u (by omega)).trans H.c2, (cell_set_off w c o b 3 u (by omega)).trans H.c3, (cell_set_off w c o b 4 u (by omega)).trans H.c4⟩
theorem turned_heap {w w' : World} {m k : Nat} (h : w.mapTurned w' m) (hk : k ≠ m) : w'.heap[k]? = w.heap[k]? := by
  obtain ⟨es, clock, es', clock', hb, rfl⟩ := h
  unfold ChangeMaps.setBlock
  simp only
  rw [Array.getElem?_setIfInBounds_ne (Ne.symm hk)]
theorem turned_size {w w' : World} {m : Nat} (h : w.mapTurned w' m) : w'.heap.size = w.heap.size := by
  obtain ⟨es, clock, es', clock', hb, rfl⟩ := h
  simp [ChangeMaps.setBlock]
/-- The blocks of an opened object's properties are all apart. -/
def ApartR (m r : Nat) (L : List Pr) : Prop := (m :: r :: L.map (·.1)).Nodup
theorem PropsR.snoc {m r x q : Nat} {L : List Pr} {w w' : World} {k : List UInt8} {v : V} (H : PropsR (some (m, r)) L w) (hA : ApartR m r L) (hx : Nd x w) (hp : Pay x k v w) (h5 : w.cell? ⟨x, 5, none⟩ = some (ptr q)) (h6 : w.cell? ⟨x, 6, none⟩ = some (ptr r))
    (hq : lastN r (L.map (·.1)) = q) (hxn : x ∉ m :: r :: L.map (·.1))
    (hM : MapP Tryd.prog 9 m (keysB L ++ [(k, x)]) w') (ht : ((w.setCell ⟨q, 6, none⟩ (ptr x)).setCell ⟨r, 5, none⟩ (ptr x)).mapTurned w' m) : PropsR (some (m, r)) (L ++ [(x, k, v)]) w' := by
  obtain ⟨_, hr, hL, hl⟩ := H
  unfold ApartR at hA
  have hd1 := List.nodup_cons.1 hA
  have hd2 := List.nodup_cons.1 hd1.2
  simp only [List.mem_cons, not_or] at hxn hd1
  have hqm : q ∈ r :: L.map (·.1) := by rw [← hq]; exact lastN_mem _ _
  have hqM : q ≠ m := by
    rintro rfl
    rw [List.mem_cons] at hqm
    rcases hqm with h | h
    · exact hd1.1.1 h
    · exact hd1.1.2 h
  have hqx : x ≠ q := by
    rintro rfl
    rw [List.mem_cons] at hqm
    rcases hqm with h | h
    · exact hxn.2.1 h
    · exact hxn.2.2 h
  have hqN : Nd q w := by
    rw [List.mem_cons] at hqm
    rcases hqm with rfl | h
    · exact hr
    · rw [List.mem_map] at h
      obtain ⟨p, hp, rfl⟩ := h
      exact (hL p hp).1
  have keepN : ∀ b, b ≠ m → Nd b w → Nd b w' := fun b hb h => Nd.keep (turned_heap ht hb) ((h.set q 6 _).set r 5 _)
  have keepP : ∀ b k v, b ≠ m → Pay b k v w → Pay b k v w' := fun b k v hb h => Pay.keep (turned_heap ht hb) ((h.set q 6 (by omega) _).set r 5 (by omega) _)
  have k6 : ∀ y, y ≠ m → y ≠ q → w'.cell? ⟨y, 6, none⟩ = w.cell? ⟨y, 6, none⟩ := fun y hy hyq => (cell_keep (turned_heap ht hy) 6).trans ((cell_set_off _ r 5 y 6 _ (by omega)).trans (cell_set_blk w q 6 y 6 _ hyq))
  have k5 : ∀ y, y ≠ m → y ≠ r → w'.cell? ⟨y, 5, none⟩ = w.cell? ⟨y, 5, none⟩ := fun y hy hyr => (cell_keep (turned_heap ht hy) 5).trans ((cell_set_blk _ r 5 y 5 _ hyr).trans (cell_set_off w q 6 y 5 _ (by omega)))
  have hrm : r ≠ m := fun e => hd1.1.1 e.symm
  have hLm : ∀ p ∈ L, p.1 ≠ m := fun p hp e => hd1.1.2 (by rw [← e]; exact List.mem_map_of_mem hp)
  have hLr : ∀ y ∈ L.map (·.1), y ≠ r := fun y hy e => hd2.1 (by rw [← e]; exact hy)
  have hLm' : ∀ y ∈ L.map (·.1), y ≠ m := fun y hy e => hd1.1.2 (by rw [← e]; exact hy)
  refine ⟨by unfold keysB at hM ⊢; rw [List.map_append]; exact hM, keepN r hrm hr, ?_, ?_⟩
  · intro p hp'
    rw [List.mem_append, List.mem_singleton] at hp'
    rcases hp' with hp' | rfl
    · exact ⟨keepN _ (hLm p hp') (hL p hp').1, keepP _ _ _ (hLm p hp') (hL p hp').2⟩
    · exact ⟨keepN _ hxn.1 hx, keepP _ _ _ hxn.1 hp⟩
  · rw [List.map_append]
    refine Links.snoc (w := w) (q := q) (x := x) ?_ ?_ ?_ ?_ hq hd1.2 ?_ ?_ hl
    · exact (cell_keep (turned_heap ht hqM) 6).trans ((cell_set_off _ r 5 q 6 _ (by omega)).trans (hqN.same 6 (by omega) _))
    · exact (k5 x hxn.1 hxn.2.1).trans h5
    · exact (k6 x hxn.1 hqx).trans h6
    · exact (cell_keep (turned_heap ht hrm) 5).trans ((hr.set q 6 _).same 5 (by omega) _)
    · intro y hy hyq
      rw [List.mem_cons] at hy
      rcases hy with rfl | hy
      · exact k6 _ hrm hyq
      · exact k6 _ (hLm' y hy) hyq
    · intro y hy
      exact k5 _ (hLm' y hy) (hLr y hy)
end Go.Proofs.YtmhoebbdapjpeaaDoor
namespace Go.Proofs.YtmhoebbdapjpeaaDoor
open Go.RowKit Go.Maps
set_option linter.all false

structure PutNew (m r : Nat) (L : List Pr) (k : List UInt8) (v : V) (w w' : World) : Prop where
  props : ∃ x, w.heap.size ≤ x ∧ x < w'.heap.size ∧ PropsR (some (m, r)) (L ++ [(x, k, v)]) w'
  fr : Fr (m :: r :: L.map (·.1)) w w'
set_option maxRecDepth 100000 in
set_option maxHeartbeats 2000000 in
theorem pPut_new (b m r : Nat) (L : List Pr) (k : List UInt8) (hk : k.length ≤ maxLen) (vk : Int) (vn : Nat) (vt : List UInt8) (vr : Int) (w : World)
    (hc2 : w.cell? ⟨b, 2, none⟩ = some (.map (some m))) (hc3 : w.cell? ⟨b, 3, none⟩ = some (.pointer (some ⟨r, 0, none⟩))) (H : PropsR (some (m, r)) L w) (hA : ApartR m r L) (hbb : b ∉ m :: r :: L.map (·.1)) (hb : ∀ b ∈ blocksR (some (m, r)) L, b < w.heap.size)
    (hf : L.find? (fun q => decide (q.2.1 = k)) = none) (hn : L.length < maxLen) :
    Calls Tryd.prog 70 #[.pointer (some ⟨b, 2, none⟩), .string (bs k), .agg #[.int .i64 vk, .float .f64 vn, .string (bs vt), .int .i64 vr]] w fun e w' => e = .returned (.tuple #[]) ∧ PutNew m r L k ⟨vk, vn, vt, vr⟩ w w' := by
  have hl := look_alloc H hb k hk
  rw [hf] at hl
  have hlt : b < w.heap.size := by
    rcases Nat.lt_or_ge b w.heap.size with h | h
    · exact h
    · simp [World.cell?, Array.getElem?_eq_none h] at hc2
  have hrl : r < w.heap.size := hb r (by simp [blocksR])
  have hr5 : w.cell? ⟨r, 5, none⟩ = some (ptr (lastN r (L.map (·.1)))) := H.2.2.2.last.2
  obtain ⟨q, hq⟩ : ∃ q, lastN r (L.map (·.1)) = q := ⟨_, rfl⟩
  rw [hq] at hr5
  have hr5' : w.cell? ⟨r, 5, none⟩ = some (.pointer (some ⟨q, 0, none⟩)) := hr5
  clear hr5
  have hl' : ∀ o, (Instr.lookup 81 (.map (some m)) (.string (bs k)) false).run Tryd.prog (w.alloc o) = .ok (.pointer none) (w.alloc o) := hl
  have HH := Lib.hid H
  have HA := Lib.hid hA
  have HBB := Lib.hid hbb
  have HB := Lib.hid hb
  have HF := Lib.hid hf
  have HN := Lib.hid hn
  have HQ := Lib.hid hq
  have HK := Lib.hid hk
  clear hl H hA hbb hb hf hn hq hk
  have hst := store_float
  have qT : ∀ (w : World) (r : Nat), (binOp .eql 81 (.map (some r)) (.map none)).run Tryd.prog w = .ok (.bool false) w := fun w r => run_eql_map_nil w _ _ _ (some r) Tryd.underlying81
  obtain ⟨S, hS⟩ : ∃ S, S = bs k := ⟨_, rfl⟩
  rw [← hS] at hl' ⊢
  obtain ⟨T, hT⟩ : ∃ T, T = bs vt := ⟨_, rfl⟩
  rw [← hT]
  have HS := Lib.hid hS
  have HT := Lib.hid hT
  clear hS hT
  go_enter Tryd.func70, Tryd.ntmps70
  go_wp2
  go_region
  obtain ⟨x, hx⟩ : ∃ x, x = w.heap.size + 1 := ⟨_, rfl⟩
  rw [← hx]
  have e1 := heap_new (w.alloc (.cells #[.int .i64 vk, .float .f64 vn, .string T, .int .i64 vr] 31)) (.cells #[.string S, .int .i64 vk, .float .f64 vn, .string T, .int .i64 vr, .pointer (some ⟨q, 0, none⟩), .pointer (some ⟨r, 0, none⟩)] 114)
  have r1 : Fr [] w ((w.alloc (.cells #[.int .i64 vk, .float .f64 vn, .string T, .int .i64 vr] 31)).alloc (.cells #[.string S, .int .i64 vk, .float .f64 vn, .string T, .int .i64 vr, .pointer (some ⟨q, 0, none⟩), .pointer (some ⟨r, 0, none⟩)] 114)).drew := ((Fr.alloc _ _).trans (Fr.alloc _ _) (fun _ h => by cases h)).drew
  have s1 : ((w.alloc (.cells #[.int .i64 vk, .float .f64 vn, .string T, .int .i64 vr] 31)).alloc (.cells #[.string S, .int .i64 vk, .float .f64 vn, .string T, .int .i64 vr, .pointer (some ⟨q, 0, none⟩), .pointer (some ⟨r, 0, none⟩)] 114)).drew.heap.size = w.heap.size + 2 := by rw [heap_drew, heap_size, heap_size]
  rw [heap_size, ← hx, ← heap_drew] at e1
  generalize ((w.alloc (.cells #[.int .i64 vk, .float .f64 vn, .string T, .int .i64 vr] 31)).alloc (.cells #[.string S, .int .i64 vk, .float .f64 vn, .string T, .int .i64 vr, .pointer (some ⟨q, 0, none⟩), .pointer (some ⟨r, 0, none⟩)] 114)).drew = W1 at e1 r1 s1 ⊢
  have H1 : PropsR (some (m, r)) L W1 := HH.out.keep (fun b hb => r1.block b (HB.out b hb) List.not_mem_nil)
  have k2 : W1.cell? ⟨b, 2, none⟩ = some (.map (some m)) := (r1.cell hlt List.not_mem_nil 2).trans hc2
  have x5 : W1.cell? ⟨x, 5, none⟩ = some (.pointer (some ⟨q, 0, none⟩)) := blk_cell e1 5 _ rfl
  have x6 : W1.cell? ⟨x, 6, none⟩ = some (.pointer (some ⟨r, 0, none⟩)) := blk_cell e1 6 _ rfl
  have q6 : W1.cell? ⟨q, 6, none⟩ = some (.pointer (some ⟨r, 0, none⟩)) := by rw [← HQ.out]; exact H1.2.2.2.last.1
  have r5 : W1.cell? ⟨r, 5, none⟩ = some (.pointer (some ⟨q, 0, none⟩)) := by rw [← HQ.out]; exact H1.2.2.2.last.2
  have hqm : q ∈ r :: L.map (·.1) := by rw [← HQ.out]; exact lastN_mem _ _
  have qN : Nd q W1 := by
    rw [List.mem_cons] at hqm
    rcases hqm with h | h
    · rw [h]; exact H1.2.1
    · rw [List.mem_map] at h
      obtain ⟨p, hp, rfl⟩ := h
      exact (H1.2.2.1 p hp).1
  have hxn : x ∉ m :: r :: L.map (·.1) := by
    intro h
    have := HB.out x h
    omega
  have qf := qN.free 6
  have rf := H1.2.1.free 5
  have hbq : b ≠ q := fun e => HBB.out (by rw [e]; exact List.mem_cons_of_mem _ hqm)
  have hbr : b ≠ r := fun e => HBB.out (by rw [e]; simp)
  have hxq : x ≠ q := fun e => hxn (by rw [e]; exact List.mem_cons_of_mem _ hqm)
  have hxr : x ≠ r := fun e => hxn (by rw [e]; simp)
  have hqM : q ≠ m := by
    intro e
    have hd1 := List.nodup_cons.1 HA.out
    rw [List.mem_cons] at hqm hd1
    rcases hqm with h | h
    · exact hd1.1 (Or.inl (by rw [← e, h]))
    · exact hd1.1 (Or.inr (by rw [← e]; exact h))
  have hrM : r ≠ m := by
    intro e
    have hd1 := List.nodup_cons.1 HA.out
    rw [List.mem_cons] at hd1
    exact hd1.1 (Or.inl e.symm)
  have hM3 : MapP Tryd.prog 9 m (keysB L) ((W1.setCell ⟨q, 6, none⟩ (.pointer (some ⟨x, 0, none⟩))).setCell ⟨r, 5, none⟩ (.pointer (some ⟨x, 0, none⟩))) :=
    H1.1.keep ((heap_set_other (Ne.symm hrM) 5 _).trans (heap_set_other (Ne.symm hqM) 6 _))
  have hlen : (keysB L).length = L.length := by unfold keysB; rw [List.length_map]
  have hany : (keysB L).any (fun q => decide (q.1 = k)) = false := by rw [keysB_any, find_any, HF.out]; rfl
  obtain ⟨w4, hrun, hM4, ht4⟩ := hM3.put (T := 81) (E := 82) Tryd.underlying9 Tryd.underlying81 (by rw [hlen]; exact HN.out) k HK.out S (by rw [HS.out]; rfl) x hany
  have hfin : PutNew m r L k ⟨vk, vn, vt, vr⟩ w w4 := by
    have hxN : Nd x W1 := ⟨_, e1, rfl⟩
    have e1' := e1
    rw [HS.out, HT.out] at e1'
    have hxP : Pay x k ⟨vk, vn, vt, vr⟩ W1 := ⟨blk_cell e1' 0 _ rfl, blk_cell e1' 1 _ rfl, blk_cell e1' 2 _ rfl, blk_cell e1' 3 _ rfl, blk_cell e1' 4 _ rfl⟩
    have hs4 : w4.heap.size = w.heap.size + 2 := by rw [turned_size ht4, heap_size_set, heap_size_set, s1]
    refine ⟨⟨x, by omega, by omega, H1.snoc HA.out hxN hxP x5 x6 HQ.out hxn hM4 ht4⟩, ?_⟩
    have f1 : Fr (m :: r :: L.map (·.1)) w (W1.setCell ⟨q, 6, none⟩ (.pointer (some ⟨x, 0, none⟩))) := (r1.mono (fun _ h => by cases h)).trans (Fr.set W1 q 6 _) (fun b hb => Or.inl (by simp only [List.mem_singleton] at hb; rw [hb]; exact List.mem_cons_of_mem _ hqm))
    exact (f1.trans (Fr.set _ r 5 _) (fun b hb => Or.inl (by simp only [List.mem_singleton] at hb; rw [hb]; simp))).trans (Fr.turned ht4) (fun b hb => Or.inl (by simp only [List.mem_singleton] at hb; rw [hb]; simp))
  have HFIN := Lib.hid hfin
  clear hfin e1 r1 s1 H1 qN hqm hxn hx hlt hrl hl' hc2 hc3 hr5' hqM hrM hM3 hlen hany hM4 ht4 HH HA HBB HB HF HN HQ HK HS HT
  go_wp2
  go_end0
  exact ⟨rfl, HFIN.out⟩
end Go.Proofs.YtmhoebbdapjpeaaDoor
namespace Go.Proofs.YtmhoebbdapjpeaaDoor
open Go.RowKit Go.Maps
set_option linter.all false

structure PutFirst (b : Nat) (c0 c1 c4 c5 c6 c7 : Value) (k : List UInt8) (v : V) (w w' : World) : Prop where
  ex : ∃ m r x, w.heap.size ≤ m ∧ m < r ∧ r < x ∧ x < w'.heap.size ∧ PropsR (some (m, r)) [(x, k, v)] w' ∧ w'.heap[b]? = some (.cells #[c0, c1, .map (some m), ptr r, c4, c5, c6, c7] 88 (0, 0))
  fr : Fr [b] w w'
set_option maxRecDepth 100000 in
set_option maxHeartbeats 2000000 in
theorem pPut_first (b : Nat) (c0 c1 c4 c5 c6 c7 : Value) (k : List UInt8) (hk : k.length ≤ maxLen) (vk : Int) (vn : Nat) (vt : List UInt8) (vr : Int) (w : World)
    (hb : w.heap[b]? = some (.cells #[c0, c1, .map none, .pointer none, c4, c5, c6, c7] 88 (0, 0))) :
    Calls Tryd.prog 70 #[.pointer (some ⟨b, 2, none⟩), .string (bs k), .agg #[.int .i64 vk, .float .f64 vn, .string (bs vt), .int .i64 vr]] w fun e w' => e = .returned (.tuple #[]) ∧ PutFirst b c0 c1 c4 c5 c6 c7 k ⟨vk, vn, vt, vr⟩ w w' := by
  have hlt : b < w.heap.size := lt_of_heap hb
  have hc2 : w.cell? ⟨b, 2, none⟩ = some (.map none) := blk_cell hb 2 _ rfl
  have hl' : ∀ o, (Instr.lookup 81 (.map none) (.string (bs k)) false).run Tryd.prog (w.alloc o) = .ok (.pointer none) (w.alloc o) := by
    intro o
    have h0 : PropsR none [] (w.alloc o) := rfl
    exact h0.look k hk
  have HBK := Lib.hid hb
  have HK := Lib.hid hk
  clear hb hk
  have hst := store_float
  have qT : ∀ (w : World), (binOp .eql 81 (.map none) (.map none)).run Tryd.prog w = .ok (.bool true) w := fun w => run_eql_map_nil w _ _ _ none Tryd.underlying81
  obtain ⟨S, hS⟩ : ∃ S, S = bs k := ⟨_, rfl⟩
  rw [← hS] at hl' ⊢
  obtain ⟨T, hT⟩ : ∃ T, T = bs vt := ⟨_, rfl⟩
  rw [← hT]
  have HS := Lib.hid hS
  have HT := Lib.hid hT
  clear hS hT
  have hopen : Calls Tryd.prog 79 #[.pointer (some ⟨b, 2, none⟩)] (w.alloc (.cells #[.int .i64 vk, .float .f64 vn, .string T, .int .i64 vr] 31)) fun e w' => e = .returned (.tuple #[]) ∧ Opened b c0 c1 c4 c5 c6 c7 (w.alloc (.cells #[.int .i64 vk, .float .f64 vn, .string T, .int .i64 vr] 31)) w' :=
    pOpen_any b c0 c1 c4 c5 c6 c7 _ (by rw [Below.heap_alloc _ _ _ hlt]; exact HBK.out)
  go_enter Tryd.func70, Tryd.ntmps70
  go_wp2_with (go_at_call 79; refine hopen.mono ?_)
  rintro e W0 ⟨rfl, hO⟩
  have hbx : (w.alloc (.cells #[.int .i64 vk, .float .f64 vn, .string T, .int .i64 vr] 31)).heap[w.heap.size]? = some (.cells #[.int .i64 vk, .float .f64 vn, .string T, .int .i64 vr] 31 (0, 0)) := heap_new w _
  have hbx0 : W0.heap[w.heap.size]? = some (.cells #[.int .i64 vk, .float .f64 vn, .string T, .int .i64 vr] 31 (0, 0)) := by
    rw [hO.fr.block _ (by rw [heap_size]; omega) (by simp; omega)]; exact hbx
  have hP0 := hO.props
  have hB0 := hO.blk
  have hS0 := hO.size
  have hF0 : Fr [b] w W0 := ((Fr.alloc w _).mono (fun _ h => by cases h)).trans hO.fr (fun _ h => Or.inl h)
  rw [heap_size] at hP0 hB0 hS0
  obtain ⟨m, hm⟩ : ∃ m, m = w.heap.size + 1 := ⟨_, rfl⟩
  obtain ⟨r, hr⟩ : ∃ r, r = w.heap.size + 1 + 1 := ⟨_, rfl⟩
  rw [← hr, ← hm] at hP0 hB0
  have hrl : r < W0.heap.size := by omega
  have hml : m < W0.heap.size := by omega
  have hbl : b < W0.heap.size := by omega
  have hmr : m ≠ r := by omega
  have hbr : b ≠ r := by omega
  have hbm : b ≠ m := by omega
  have x1 : W0.cell? ⟨w.heap.size, 0, none⟩ = some (.int .i64 vk) := blk_cell hbx0 0 _ rfl
  have x2 : W0.cell? ⟨w.heap.size, 1, none⟩ = some (.float .f64 vn) := blk_cell hbx0 1 _ rfl
  have x3 : W0.cell? ⟨w.heap.size, 2, none⟩ = some (.string T) := blk_cell hbx0 2 _ rfl
  have x4 : W0.cell? ⟨w.heap.size, 3, none⟩ = some (.int .i64 vr) := blk_cell hbx0 3 _ rfl
  have y3 : W0.cell? ⟨b, 3, none⟩ = some (.pointer (some ⟨r, 0, none⟩)) := blk_cell hB0 3 _ rfl
  have y5 : W0.cell? ⟨r, 5, none⟩ = some (.pointer (some ⟨r, 0, none⟩)) := hP0.2.2.2.2
  have HS0 := Lib.hid hS0
  have HF0 := Lib.hid hF0
  have HP0 := Lib.hid hP0
  have HB0 := Lib.hid hB0
  have HM := Lib.hid hm
  have HR := Lib.hid hr
  have HML := Lib.hid hml
  have HRL := Lib.hid hrl
  have HBL := Lib.hid hbl
  clear hopen hl' hc2 HBK hO hbx hbx0 hP0 hB0 hS0 hF0 hm hr hml hrl hbl
  go_wp2
  go_region
  have e1 := heap_new W0 (.cells #[.string S, .int .i64 vk, .float .f64 vn, .string T, .int .i64 vr, .pointer (some ⟨r, 0, none⟩), .pointer (some ⟨r, 0, none⟩)] 114)
  have r1 : Fr [] W0 (W0.alloc (.cells #[.string S, .int .i64 vk, .float .f64 vn, .string T, .int .i64 vr, .pointer (some ⟨r, 0, none⟩), .pointer (some ⟨r, 0, none⟩)] 114)).drew := (Fr.alloc _ _).drew
  have s1 : (W0.alloc (.cells #[.string S, .int .i64 vk, .float .f64 vn, .string T, .int .i64 vr, .pointer (some ⟨r, 0, none⟩), .pointer (some ⟨r, 0, none⟩)] 114)).drew.heap.size = W0.heap.size + 1 := by rw [heap_drew, heap_size]
  rw [← heap_drew] at e1
  obtain ⟨x, hx⟩ : ∃ x, x = W0.heap.size := ⟨_, rfl⟩
  rw [← hx] at e1 ⊢
  generalize (W0.alloc (.cells #[.string S, .int .i64 vk, .float .f64 vn, .string T, .int .i64 vr, .pointer (some ⟨r, 0, none⟩), .pointer (some ⟨r, 0, none⟩)] 114)).drew = W1 at e1 r1 s1 ⊢
  have H1 : PropsR (some (m, r)) [] W1 := HP0.out.keep (fun b hb => r1.block b (by
    simp only [blocksR, List.map_nil, List.mem_cons, List.not_mem_nil, or_false] at hb
    rcases hb with rfl | rfl
    · exact HML.out
    · exact HRL.out) List.not_mem_nil)
  have hB1 : W1.heap[b]? = _ := (r1.block b HBL.out List.not_mem_nil).trans HB0.out
  have k2 : W1.cell? ⟨b, 2, none⟩ = some (.map (some m)) := blk_cell hB1 2 _ rfl
  have x5 : W1.cell? ⟨x, 5, none⟩ = some (.pointer (some ⟨r, 0, none⟩)) := blk_cell e1 5 _ rfl
  have x6 : W1.cell? ⟨x, 6, none⟩ = some (.pointer (some ⟨r, 0, none⟩)) := blk_cell e1 6 _ rfl
  have r6 : W1.cell? ⟨r, 6, none⟩ = some (.pointer (some ⟨r, 0, none⟩)) := H1.2.2.2.1
  have r5 : W1.cell? ⟨r, 5, none⟩ = some (.pointer (some ⟨r, 0, none⟩)) := H1.2.2.2.2
  have hxr : x ≠ r := by have := HRL.out; omega
  have hxm : x ≠ m := by have := HML.out; omega
  have rf6 := H1.2.1.free 6
  have rf5 := H1.2.1.free 5
  have hM3 : MapP Tryd.prog 9 m (keysB []) ((W1.setCell ⟨r, 6, none⟩ (.pointer (some ⟨x, 0, none⟩))).setCell ⟨r, 5, none⟩ (.pointer (some ⟨x, 0, none⟩))) :=
    H1.1.keep ((heap_set_other hmr 5 _).trans (heap_set_other hmr 6 _))
  obtain ⟨w4, hrun, hM4, ht4⟩ := hM3.put (T := 81) (E := 82) Tryd.underlying9 Tryd.underlying81 (by unfold maxLen keysB; simp) k HK.out S (by rw [HS.out]; rfl) x rfl
  have hfin : PutFirst b c0 c1 c4 c5 c6 c7 k ⟨vk, vn, vt, vr⟩ w w4 := by
    have hxN : Nd x W1 := ⟨_, e1, rfl⟩
    have e1' := e1
    rw [HS.out, HT.out] at e1'
    have hxP : Pay x k ⟨vk, vn, vt, vr⟩ W1 := ⟨blk_cell e1' 0 _ rfl, blk_cell e1' 1 _ rfl, blk_cell e1' 2 _ rfl, blk_cell e1' 3 _ rfl, blk_cell e1' 4 _ rfl⟩
    have hs4 : w4.heap.size = W0.heap.size + 1 := by rw [turned_size ht4, heap_size_set, heap_size_set, s1]
    have h0 := HS0.out
    have h1 := HM.out
    have h2 := HR.out
    refine ⟨⟨m, r, x, by omega, by omega, by omega, by omega, H1.snoc (q := r) (by unfold ApartR; simp [hmr]) hxN hxP x5 x6 rfl (by simp [hxm, hxr]) hM4 ht4, ?_⟩, ?_⟩
    · rw [turned_heap ht4 hbm, heap_set_other hbr, heap_set_other hbr]; exact hB1
    · have g1 : Fr [b] w W1 := HF0.out.trans r1 (fun _ h => by cases h)
      have g2 : Fr [b] w (W1.setCell ⟨r, 6, none⟩ (.pointer (some ⟨x, 0, none⟩))) := g1.trans (Fr.set W1 r 6 _) (fun z hz => by simp only [List.mem_singleton] at hz; exact Or.inr (by omega))
      have g3 := g2.trans (Fr.set _ r 5 (.pointer (some ⟨x, 0, none⟩))) (fun z hz => by simp only [List.mem_singleton] at hz; exact Or.inr (by omega))
      exact g3.trans (Fr.turned ht4) (fun z hz => by simp only [List.mem_singleton] at hz; exact Or.inr (by omega))
  have HFIN := Lib.hid hfin
  clear hfin e1 r1 s1 H1 hx hM3 hM4 ht4 HK HS HT HS0 HF0 HP0 HB0 HM HR HML HRL HBL hB1
  go_wp2
  go_end0
  exact ⟨rfl, HFIN.out⟩
end Go.Proofs.YtmhoebbdapjpeaaDoor
namespace Go.Proofs.YtmhoebbdapjpeaaDoor
open Go.RowKit Go.Maps
set_option linter.all false

/-- A key's value is another one now. -/
def setL (L : List Pr) (k : List UInt8) (v : V) : List Pr := L.map fun q => if q.2.1 = k then (q.1, q.2.1, v) else q
theorem setL_blocks (L : List Pr) (k : List UInt8) (v : V) : (setL L k v).map (·.1) = L.map (·.1) := by
  unfold setL; rw [List.map_map]; congr 1; funext q; simp only [Function.comp]; split <;> rfl
theorem setL_keysB (L : List Pr) (k : List UInt8) (v : V) : keysB (setL L k v) = keysB L := by
  unfold setL keysB; rw [List.map_map]; congr 1; funext q; simp only [Function.comp]; split <;> rfl
theorem same_key {L : List Pr} (hn : (L.map (·.2.1)).Nodup) : ∀ {p q : Pr}, p ∈ L → q ∈ L → p.2.1 = q.2.1 → p = q := by
  induction L with
  | nil => intro p q hp; cases hp
  | cons a L ih =>
    intro p q hp hq h
    rw [List.map_cons, List.nodup_cons] at hn
    rw [List.mem_cons] at hp hq
    rcases hp with rfl | hp <;> rcases hq with rfl | hq
    · rfl
    · exact absurd (by rw [h]; exact List.mem_map_of_mem (f := fun q : Pr => q.2.1) hq) hn.1
    · exact absurd (by rw [← h]; exact List.mem_map_of_mem (f := fun q : Pr => q.2.1) hp) hn.1
    · exact ih hn.2 hp hq h
theorem same_blk {L : List Pr} (hn : (L.map (·.1)).Nodup) : ∀ {p q : Pr}, p ∈ L → q ∈ L → p.1 = q.1 → p = q := by
  induction L with
  | nil => intro p q hp; cases hp
  | cons a L ih =>
    intro p q hp hq h
    rw [List.map_cons, List.nodup_cons] at hn
    rw [List.mem_cons] at hp hq
    rcases hp with rfl | hp <;> rcases hq with rfl | hq
    · rfl
    · exact absurd (by rw [h]; exact List.mem_map_of_mem (f := fun q : Pr => q.1) hq) hn.1
    · exact absurd (by rw [← h]; exact List.mem_map_of_mem (f := fun q : Pr => q.1) hp) hn.1
    · exact ih hn.2 hp hq h
/-- Four cells of a block, written. -/
def set4 (w : World) (x : Nat) (a b c d : Value) : World := (((w.setCell ⟨x, 1, none⟩ a).setCell ⟨x, 2, none⟩ b).setCell ⟨x, 3, none⟩ c).setCell ⟨x, 4, none⟩ d
theorem PropsR.set {m r x : Nat} {L : List Pr} {w : World} {k : List UInt8} {v v0 : V} (H : PropsR (some (m, r)) L w) (hA : ApartR m r L) (hK : (L.map (·.2.1)).Nodup) (hx : (x, k, v0) ∈ L) :
    PropsR (some (m, r)) (setL L k v) (set4 w x (.int .i64 v.k) (.float .f64 v.n) (.string (bs v.t)) (.int .i64 v.r)) := by
  obtain ⟨hM, hr, hL, hl⟩ := H
  unfold ApartR at hA
  have hd1 := List.nodup_cons.1 hA
  have hd2 := List.nodup_cons.1 hd1.2
  have hxm : x ∈ L.map (·.1) := List.mem_map_of_mem (f := fun q : Pr => q.1) hx
  have hmx : m ≠ x := fun e => hd1.1 (by rw [e]; exact List.mem_cons_of_mem _ hxm)
  have hN : ∀ b, Nd b w → Nd b (set4 w x (.int .i64 v.k) (.float .f64 v.n) (.string (bs v.t)) (.int .i64 v.r)) := fun b h => (((h.set x 1 _).set x 2 _).set x 3 _).set x 4 _
  have hO : ∀ b, b ≠ x → (set4 w x (.int .i64 v.k) (.float .f64 v.n) (.string (bs v.t)) (.int .i64 v.r)).heap[b]? = w.heap[b]? := fun b h => (heap_set_other h 4 _).trans ((heap_set_other h 3 _).trans ((heap_set_other h 2 _).trans (heap_set_other h 1 _)))
  have h56 : ∀ b o, 4 < o → (set4 w x (.int .i64 v.k) (.float .f64 v.n) (.string (bs v.t)) (.int .i64 v.r)).cell? ⟨b, o, none⟩ = w.cell? ⟨b, o, none⟩ := fun b o ho => (cell_set_off _ x 4 b o _ (by omega)).trans ((cell_set_off _ x 3 b o _ (by omega)).trans ((cell_set_off _ x 2 b o _ (by omega)).trans (cell_set_off w x 1 b o _ (by omega))))
  refine ⟨by rw [setL_keysB]; exact hM.keep (hO m hmx), hN r hr, ?_, ?_⟩
  · intro p hp
    unfold setL at hp
    rw [List.mem_map] at hp
    obtain ⟨q, hq, rfl⟩ := hp
    by_cases e : q.2.1 = k
    · rw [if_pos e]
      have := same_key hK hq hx e
      subst this
      have hn := (hL _ hx).1
      have hp := (hL _ hx).2
      refine ⟨hN _ hn, ?_, ?_, ?_, ?_, ?_⟩
      · exact (cell_set_off _ x 4 x 0 _ (by omega)).trans ((cell_set_off _ x 3 x 0 _ (by omega)).trans ((cell_set_off _ x 2 x 0 _ (by omega)).trans ((cell_set_off w x 1 x 0 _ (by omega)).trans hp.c0)))
      · exact (cell_set_off _ x 4 x 1 _ (by omega)).trans ((cell_set_off _ x 3 x 1 _ (by omega)).trans ((cell_set_off _ x 2 x 1 _ (by omega)).trans (hn.same 1 (by omega) _)))
      · exact (cell_set_off _ x 4 x 2 _ (by omega)).trans ((cell_set_off _ x 3 x 2 _ (by omega)).trans ((hn.set x 1 _).same 2 (by omega) _))
      · exact (cell_set_off _ x 4 x 3 _ (by omega)).trans (((hn.set x 1 _).set x 2 _).same 3 (by omega) _)
      · exact (((hn.set x 1 _).set x 2 _).set x 3 _).same 4 (by omega) _
    · rw [if_neg e]
      have hqx : q.1 ≠ x := fun h => e (by rw [same_blk hd2.2 hq hx h])
      exact ⟨hN _ (hL q hq).1, (hL q hq).2.keep (hO _ hqx)⟩
  · rw [setL_blocks]
    exact hl.keep (fun y _ => h56 y 6 (by omega)) (fun y _ => h56 y 5 (by omega))
structure PutOld (m r : Nat) (L : List Pr) (k : List UInt8) (v : V) (w w' : World) : Prop where
  props : PropsR (some (m, r)) (setL L k v) w'
  fr : Fr (L.map (·.1)) w w'
set_option maxRecDepth 100000 in
set_option maxHeartbeats 2000000 in
theorem pPut_old (b m r : Nat) (L : List Pr) (k : List UInt8) (hk : k.length ≤ maxLen) (vk : Int) (vn : Nat) (vt : List UInt8) (vr : Int) (w : World)
    (hc2 : w.cell? ⟨b, 2, none⟩ = some (.map (some m))) (H : PropsR (some (m, r)) L w) (hA : ApartR m r L) (hKn : (L.map (·.2.1)).Nodup) (hb : ∀ b ∈ blocksR (some (m, r)) L, b < w.heap.size)
    (x : Nat) (k' : List UInt8) (v0 : V) (hf : L.find? (fun q => decide (q.2.1 = k)) = some (x, k', v0)) :
    Calls Tryd.prog 70 #[.pointer (some ⟨b, 2, none⟩), .string (bs k), .agg #[.int .i64 vk, .float .f64 vn, .string (bs vt), .int .i64 vr]] w fun e w' => e = .returned (.tuple #[]) ∧ PutOld m r L k ⟨vk, vn, vt, vr⟩ w w' := by
  have hl := look_alloc H hb k hk
  rw [hf] at hl
  have hlt : b < w.heap.size := by
    rcases Nat.lt_or_ge b w.heap.size with h | h
    · exact h
    · simp [World.cell?, Array.getElem?_eq_none h] at hc2
  have hm := List.mem_of_find?_eq_some hf
  have hkk : k' = k := by have := List.find?_some hf; simpa using this
  subst hkk
  have hx : x < w.heap.size := hb x (by simp only [blocksR, List.mem_cons, List.mem_map]; exact Or.inr (Or.inr ⟨_, hm, rfl⟩))
  have hl' : ∀ o, (Instr.lookup 81 (.map (some m)) (.string (bs k')) false).run Tryd.prog (w.alloc o) = .ok (.pointer (some ⟨x, 0, none⟩)) (w.alloc o) := hl
  have hxN := (H.2.2.1 _ hm).1
  have hxP := (H.2.2.1 _ hm).2
  have h1 := hxP.c1
  have h2 := hxP.c2
  have h3 := hxP.c3
  have h4 := hxP.c4
  have f1 := hxN.free 1
  have f2 := hxN.free 2
  have f3 := hxN.free 3
  have f4 := hxN.free 4
  have hfin : ∀ o, PutOld m r L k' ⟨vk, vn, vt, vr⟩ w ((set4 w x (.int .i64 vk) (.float .f64 vn) (.string (bs vt)) (.int .i64 vr)).alloc o) := by
    intro o
    have hw := H.set (v := ⟨vk, vn, vt, vr⟩) hA hKn hm
    have hsz : (set4 w x (.int .i64 vk) (.float .f64 vn) (.string (bs vt)) (.int .i64 vr)).heap.size = w.heap.size := by unfold set4; rw [heap_size_set, heap_size_set, heap_size_set, heap_size_set]
    refine ⟨hw.keep (fun b h => Below.heap_alloc _ _ _ (by
      rw [hsz]; refine hb b ?_
      unfold blocksR at h ⊢
      rw [setL_blocks] at h
      exact h)), ?_⟩
    have hxm : x ∈ L.map (·.1) := List.mem_map_of_mem (f := fun q : Pr => q.1) hm
    have g : ∀ z ∈ [x], z ∈ L.map (·.1) ∨ w.heap.size ≤ z := fun z hz => Or.inl (by simp only [List.mem_singleton] at hz; rw [hz]; exact hxm)
    exact (((((Fr.refl (L.map (·.1)) w).trans (Fr.set _ x 1 _) g).trans (Fr.set _ x 2 _) g).trans (Fr.set _ x 3 _) g).trans (Fr.set _ x 4 _) g).trans (Fr.alloc _ o) (fun _ h => by cases h)
  have HFIN := Lib.hid hfin
  clear hfin hl hf H hA hKn hb hm hxN hxP
  have hst := store_float
  obtain ⟨S, hS⟩ : ∃ S, S = bs k' := ⟨_, rfl⟩
  rw [← hS] at hl' ⊢
  obtain ⟨T, hT⟩ : ∃ T, T = bs vt := ⟨_, rfl⟩
  rw [← hT] at HFIN ⊢
  clear hS hT
  generalize bs v0.t = T0 at h3
  go_enter Tryd.func70, Tryd.ntmps70
  go_wp2
  refine bodyPost_ret (results_none rfl _ _ _) rfl ?_
  exact ⟨rfl, HFIN.out _⟩
end Go.Proofs.YtmhoebbdapjpeaaDoor
