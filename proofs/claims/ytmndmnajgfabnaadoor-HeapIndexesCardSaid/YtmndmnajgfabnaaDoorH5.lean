/- Layer 8: an object's properties: open. Conditions: those that each theorem names. -/
import Derived.Test.YtmndmnajgfabnaaDoorH4
namespace Go.Proofs.YtmndmnajgfabnaaDoor
open Go.RowKit Go.Maps
set_option linter.all false

structure Opened (b : Nat) (c0 c1 c4 c5 c6 c7 : Value) (w w' : World) : Prop where
  blk : w'.heap[b]? = some (.cells #[c0, c1, .map (some w.heap.size), ptr (w.heap.size + 1), c4, c5, c6, c7] 88 (0, 0))
  props : PropsR (some (w.heap.size, w.heap.size + 1)) [] w'
  size : w'.heap.size = w.heap.size + 2
  fr : Fr [b] w w'
theorem Fr.cell {O : List Nat} {w w' : World} (h : Fr O w w') {b : Nat} (hb : b < w.heap.size) (hO : b ∉ O) (o : Nat) : w'.cell? ⟨b, o, none⟩ = w.cell? ⟨b, o, none⟩ := cell_keep (h.block b hb hO) o
theorem Fr.drew {O : List Nat} {w w' : World} (h : Fr O w w') : Fr O w w'.drew := ⟨h.os, h.tape, h.output, h.size, h.block⟩
theorem heap_drew (w : World) : w.drew.heap = w.heap := rfl
theorem heap_set_other {w : World} {b k : Nat} (h : k ≠ b) (i : Nat) (v : Value) : (w.setCell ⟨b, i, none⟩ v).heap[k]? = w.heap[k]? := Below.heap_setCell _ _ _ _ h
theorem heap_size_set (w : World) (a : Addr) (v : Value) : (w.setCell a v).heap.size = w.heap.size := by simp [World.setCell]
def ringZ (x y : Value) : Array Value := #[.string ⟨#[]⟩, .int .i64 0, .float .f64 0, .string ⟨#[]⟩, .int .i64 0, x, y]
set_option maxRecDepth 100000 in
set_option maxHeartbeats 1000000 in
theorem pOpen_any (b : Nat) (c0 c1 c4 c5 c6 c7 : Value) (w : World) (hb : w.heap[b]? = some (.cells #[c0, c1, .map none, .pointer none, c4, c5, c6, c7] 88 (0, 0))) :
    Calls Tryd.prog 79 #[.pointer (some ⟨b, 2, none⟩)] w fun e w' => e = .returned (.tuple #[]) ∧ Opened b c0 c1 c4 c5 c6 c7 w w' := by
  have hlt := lt_of_heap hb
  have k2 : w.cell? ⟨b, 2, none⟩ = some (.map none) := blk_cell hb 2 _ rfl
  have k3 : w.cell? ⟨b, 3, none⟩ = some (.pointer none) := blk_cell hb 3 _ rfl
  have f2 := blk_free hb 2
  have f3 := blk_free hb 3
  have hst := store_float
  have hmm := @run_makeMap Tryd.prog
  have HB := Lib.hid hb
  clear hb
  go_enter Tryd.func79, Tryd.ntmps79
  go_wp2
  -- the world behind both stores
  have e1 : (w.setCell ⟨b, 2, none⟩ (.map (some w.heap.size))).heap[b]? = _ := heap_set HB.out 2 _
  have e2 : ((w.setCell ⟨b, 2, none⟩ (.map (some w.heap.size))).setCell ⟨b, 3, none⟩ (ptr (w.heap.size + 1))).heap[b]? = _ := heap_set e1 3 _
  have s2 : ((w.setCell ⟨b, 2, none⟩ (.map (some w.heap.size))).setCell ⟨b, 3, none⟩ (ptr (w.heap.size + 1))).heap.size = w.heap.size := by rw [heap_size_set, heap_size_set]
  have r2 : Fr [b] w ((w.setCell ⟨b, 2, none⟩ (.map (some w.heap.size))).setCell ⟨b, 3, none⟩ (ptr (w.heap.size + 1))) := (Fr.set w b 2 _).trans (Fr.set _ b 3 _) (fun x hx => Or.inl hx)
  generalize ((w.setCell ⟨b, 2, none⟩ (.map (some w.heap.size))).setCell ⟨b, 3, none⟩ (ptr (w.heap.size + 1))) = W2 at e2 s2 r2 ⊢
  have e3 : ((W2.alloc (.map #[] 0)).alloc (.cells (ringZ (.pointer none) (.pointer none)) 114)).heap[w.heap.size + 1]? = some (.cells (ringZ (.pointer none) (.pointer none)) 114 (0, 0)) := by
    have := heap_new (W2.alloc (.map #[] 0)) (.cells (ringZ (.pointer none) (.pointer none)) 114)
    rw [heap_size, s2] at this; exact this
  have m3 : MapP Tryd.prog 9 w.heap.size [] ((W2.alloc (.map #[] 0)).alloc (.cells (ringZ (.pointer none) (.pointer none)) 114)) := by
    have := MapP.made (P := Tryd.prog) (K := 9) W2
    rw [s2] at this
    exact this.keep (Below.heap_alloc _ _ _ (by rw [heap_size]; omega))
  have b3 : ((W2.alloc (.map #[] 0)).alloc (.cells (ringZ (.pointer none) (.pointer none)) 114)).heap[b]? = some (.cells #[c0, c1, .map (some w.heap.size), ptr (w.heap.size + 1), c4, c5, c6, c7] 88 (0, 0)) := by
    rw [Below.heap_alloc _ _ _ (by rw [heap_size]; omega), Below.heap_alloc _ _ _ (by omega), e2]; rfl
  have s3 : ((W2.alloc (.map #[] 0)).alloc (.cells (ringZ (.pointer none) (.pointer none)) 114)).heap.size = w.heap.size + 2 := by rw [heap_size, heap_size, s2]
  have r3 : Fr [b] w ((W2.alloc (.map #[] 0)).alloc (.cells (ringZ (.pointer none) (.pointer none)) 114)) := (r2.trans (Fr.alloc _ _) (fun _ h => by cases h)).trans (Fr.alloc _ _) (fun _ h => by cases h)
  unfold ringZ at e3 m3 b3 s3 r3
  generalize ((W2.alloc (.map #[] 0)).alloc (.cells #[.string ⟨#[]⟩, .int .i64 0, .float .f64 0, .string ⟨#[]⟩, .int .i64 0, .pointer none, .pointer none] 114)) = W3 at e3 m3 b3 s3 r3 ⊢
  clear e1 e2 s2 r2 k2 k3 f2 f3
  have R := w.heap.size + 1
  obtain ⟨r, hr⟩ : ∃ r, r = w.heap.size + 1 := ⟨_, rfl⟩
  have k3 : W3.cell? ⟨b, 3, none⟩ = some (.pointer (some ⟨r, 0, none⟩)) := by rw [hr]; exact blk_cell b3 3 _ rfl
  rw [← hr] at e3
  have k5 : W3.cell? ⟨r, 5, none⟩ = some (.pointer none) := blk_cell e3 5 _ rfl
  have f5 := blk_free e3 5
  have E3 := Lib.hid e3
  have M3 := Lib.hid m3
  have B3 := Lib.hid b3
  have S3 := Lib.hid s3
  have R3 := Lib.hid r3
  have HR := Lib.hid hr
  have hbr : b ≠ r := by omega
  clear e3 m3 b3 s3 r3 HB hr R hlt
  clear hmm hst
  go_region
  have e4 : (W3.setCell ⟨r, 5, none⟩ (.pointer (some ⟨r, 0, none⟩))).drew.heap[r]? = _ := heap_set E3.out 5 _
  have b4 : (W3.setCell ⟨r, 5, none⟩ (.pointer (some ⟨r, 0, none⟩))).drew.heap[b]? = _ := (heap_set_other hbr 5 _).trans B3.out
  have m4 : MapP Tryd.prog 9 w.heap.size [] (W3.setCell ⟨r, 5, none⟩ (.pointer (some ⟨r, 0, none⟩))).drew := M3.out.keep (heap_set_other (by have := HR.out; omega) 5 _)
  have s4 : (W3.setCell ⟨r, 5, none⟩ (.pointer (some ⟨r, 0, none⟩))).drew.heap.size = w.heap.size + 2 := (heap_size_set _ _ _).trans S3.out
  have r4 : Fr [b] w (W3.setCell ⟨r, 5, none⟩ (.pointer (some ⟨r, 0, none⟩))).drew := R3.out.trans (O' := [r]) (Fr.set W3 r 5 _).drew (fun x hx => by simp at hx; have := HR.out; omega)
  generalize (W3.setCell ⟨r, 5, none⟩ (.pointer (some ⟨r, 0, none⟩))).drew = W4 at e4 b4 m4 s4 r4 ⊢
  have k3 : W4.cell? ⟨b, 3, none⟩ = some (.pointer (some ⟨r, 0, none⟩)) := by rw [HR.out]; exact blk_cell b4 3 _ rfl
  have k6 : W4.cell? ⟨r, 6, none⟩ = some (.pointer none) := blk_cell e4 6 _ rfl
  have f6 := blk_free e4 6
  have E4 := Lib.hid e4
  have M4 := Lib.hid m4
  have B4 := Lib.hid b4
  have S4 := Lib.hid s4
  have R4 := Lib.hid r4
  clear e4 m4 b4 s4 r4 E3 M3 B3 S3 R3 k5 f5
  go_wp2
  go_region
  have e5 : (W4.setCell ⟨r, 6, none⟩ (.pointer (some ⟨r, 0, none⟩))).drew.heap[r]? = _ := heap_set E4.out 6 _
  have b5 : (W4.setCell ⟨r, 6, none⟩ (.pointer (some ⟨r, 0, none⟩))).drew.heap[b]? = _ := (heap_set_other hbr 6 _).trans B4.out
  have m5 : MapP Tryd.prog 9 w.heap.size [] (W4.setCell ⟨r, 6, none⟩ (.pointer (some ⟨r, 0, none⟩))).drew := M4.out.keep (heap_set_other (by have := HR.out; omega) 6 _)
  have s5 : (W4.setCell ⟨r, 6, none⟩ (.pointer (some ⟨r, 0, none⟩))).drew.heap.size = w.heap.size + 2 := (heap_size_set _ _ _).trans S4.out
  have r5 : Fr [b] w (W4.setCell ⟨r, 6, none⟩ (.pointer (some ⟨r, 0, none⟩))).drew := R4.out.trans (O' := [r]) (Fr.set W4 r 6 _).drew (fun x hx => by simp at hx; have := HR.out; omega)
  generalize (W4.setCell ⟨r, 6, none⟩ (.pointer (some ⟨r, 0, none⟩))).drew = W5 at e5 b5 m5 s5 r5 ⊢
  have hfin : Opened b c0 c1 c4 c5 c6 c7 w W5 := by
    have hr := HR.out
    subst hr
    refine ⟨b5, ⟨m5, ⟨_, e5, rfl⟩, (fun q hq => absurd hq List.not_mem_nil), ⟨?_, ?_⟩⟩, s5, r5⟩
    · exact blk_cell e5 6 _ rfl
    · exact blk_cell e5 5 _ rfl
  clear e5 m5 b5 s5 r5 E4 M4 B4 S4 R4 k6 f6 k3
  have HF := Lib.hid hfin
  clear hfin
  go_wp2
  go_end0
  exact ⟨rfl, HF.out⟩
end Go.Proofs.YtmndmnajgfabnaaDoor
