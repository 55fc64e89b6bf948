/- Layer 8: one call of a script, played on a heap (gen_kc.py wrote it). Conditions: those that each theorem names. -/
import Derived.Test.YtmhoebbdapjpeaaDoorKb
namespace Go.Proofs.YtmhoebbdapjpeaaDoor
open Go.RowKit Go.Maps
set_option linter.all false

theorem Hv.wr {N h : Nat} {A : Hp} {L : List Nat} {w0 w : World} (H : Hv N h A L w0 w) {M : Nat} (hM : M ∈ L) (hN : N ≤ M) (o : Nat) (v : Value) : Hv N h A L w0 (w.setCell ⟨M, o, none⟩ v) := by
  obtain ⟨sv, gs, hG, hF, h1, h2, h3, h4⟩ := H
  have hf := Fr.set w M o v
  have hs := hf.size
  refine ⟨sv, gs, hG.keep hs (fun b hb => hf.block b (hG.lt b hb) (fun hm => ?_)), hF, h1, fun K hK => ⟨Nat.lt_of_lt_of_le (h2 K hK).1 hs, (h2 K hK).2⟩, h3.trans (hf.below h4 (fun b hb => by rw [List.mem_singleton] at hb; omega)), Nat.le_trans h4 hs⟩
  rw [List.mem_singleton] at hm
  exact (h2 M hM).2 (hm ▸ hb)
abbrev rplZ : Obj := .cells #[.int .i64 0, .int .i64 0, .int .i64 0, .int .i64 0, .float .f64 0, .string ⟨#[]⟩, .int .i64 0, .bool false, .int .i64 0, .slice none 0 0, .slice none 0 0] 40
abbrev callC (kd : Nat) (i n : Int) (k : List UInt8) (vk : Int) (vn : Nat) (vt : List UInt8) (vr : Int) (iv : Value) : Array Value := #[.int .u8 (kd : Int), .int .i64 i, .int .i64 n, .string (bs k), .int .i64 vk, .float .f64 vn, .string (bs vt), .int .i64 vr, iv]
/-- Eleven cells at b, whatever they hold. -/
def R11 (b : Nat) (w : World) : Prop := ∃ C : Array Value, C.size = 11 ∧ w.heap[b]? = some (.cells C 40 (0, 0))
theorem R11.cells {b : Nat} {w : World} (H : R11 b w) : (∃ a0 a1 a2 a3 a4 a5 a6 a7 a8 a9 aa, w.cell? ⟨b, 0, none⟩ = some a0 ∧ w.cell? ⟨b, 1, none⟩ = some a1 ∧ w.cell? ⟨b, 2, none⟩ = some a2 ∧ w.cell? ⟨b, 3, none⟩ = some a3 ∧ w.cell? ⟨b, 4, none⟩ = some a4 ∧ w.cell? ⟨b, 5, none⟩ = some a5 ∧ w.cell? ⟨b, 6, none⟩ = some a6 ∧ w.cell? ⟨b, 7, none⟩ = some a7 ∧ w.cell? ⟨b, 8, none⟩ = some a8 ∧ w.cell? ⟨b, 9, none⟩ = some a9 ∧ w.cell? ⟨b, 10, none⟩ = some aa) ∧
    ∀ o, w.frozen? ⟨b, o, none⟩ = false := by
  obtain ⟨C, hC, h⟩ := H
  have g : ∀ i (hi : i < 11), w.cell? ⟨b, i, none⟩ = some (C[i]'(by omega)) := fun i hi => blk_cell h i _ (Array.getElem?_eq_getElem _)
  exact ⟨⟨_, _, _, _, _, _, _, _, _, _, _, g 0 (by decide), g 1 (by decide), g 2 (by decide), g 3 (by decide), g 4 (by decide), g 5 (by decide), g 6 (by decide), g 7 (by decide), g 8 (by decide), g 9 (by decide), g 10 (by decide)⟩, fun o => Lib.frozen_of_heap h o⟩
theorem R11.set {b : Nat} {w : World} (H : R11 b w) (o : Nat) (v : Value) : R11 b (w.setCell ⟨b, o, none⟩ v) := by
  obtain ⟨C, hC, h⟩ := H
  exact ⟨_, by rw [Array.size_setIfInBounds]; exact hC, heap_set h o v⟩
theorem R11.other {b b' : Nat} {w : World} (H : R11 b w) (hne : b ≠ b') (o : Nat) (v : Value) : R11 b (w.setCell ⟨b', o, none⟩ v) := by
  obtain ⟨C, hC, h⟩ := H
  exact ⟨C, hC, (Below.heap_setCell w ⟨b', o, none⟩ v b hne).trans h⟩
/-- What an answer's cell may hold. -/
def okAt (o : Nat) (v : Value) : Prop := if o = 4 then (∃ x, v = .float .f64 x) else if o = 5 then (∃ x, v = .string x) else if o = 7 then (∃ x, v = .bool x) else if o = 9 ∨ o = 10 then (∃ p n c, v = .slice p n c) else ∃ x, v = .int .i64 x
def T11 (b : Nat) (w : World) : Prop := ∃ C : Array Value, C.size = 11 ∧ (∀ o v, C[o]? = some v → okAt o v) ∧ w.heap[b]? = some (.cells C 40 (0, 0))
theorem T11.cells {b : Nat} {w : World} (H : T11 b w) : (∃ a0 a1 a2 a3 a4 a5 a6 a7 a8 p9 n9 c9 pa na ca, w.cell? ⟨b, 0, none⟩ = some (.int .i64 a0) ∧ w.cell? ⟨b, 1, none⟩ = some (.int .i64 a1) ∧ w.cell? ⟨b, 2, none⟩ = some (.int .i64 a2) ∧ w.cell? ⟨b, 3, none⟩ = some (.int .i64 a3) ∧ w.cell? ⟨b, 4, none⟩ = some (.float .f64 a4) ∧ w.cell? ⟨b, 5, none⟩ = some (.string a5) ∧ w.cell? ⟨b, 6, none⟩ = some (.int .i64 a6) ∧ w.cell? ⟨b, 7, none⟩ = some (.bool a7) ∧ w.cell? ⟨b, 8, none⟩ = some (.int .i64 a8) ∧ w.cell? ⟨b, 9, none⟩ = some (.slice p9 n9 c9) ∧ w.cell? ⟨b, 10, none⟩ = some (.slice pa na ca)) ∧
    ∀ o, w.frozen? ⟨b, o, none⟩ = false := by
  obtain ⟨C, hC, hok, h⟩ := H
  have g : ∀ i (hi : i < 11), ∃ v, w.cell? ⟨b, i, none⟩ = some v ∧ okAt i v := fun i hi => ⟨C[i]'(by omega), blk_cell h i _ (Array.getElem?_eq_getElem _), hok i _ (Array.getElem?_eq_getElem _)⟩
  obtain ⟨v0, h0, x0, rfl⟩ := g 0 (by decide)
  obtain ⟨v1, h1, x1, rfl⟩ := g 1 (by decide)
  obtain ⟨v2, h2, x2, rfl⟩ := g 2 (by decide)
  obtain ⟨v3, h3, x3, rfl⟩ := g 3 (by decide)
  obtain ⟨v4, h4, x4, rfl⟩ := g 4 (by decide)
  obtain ⟨v5, h5, x5, rfl⟩ := g 5 (by decide)
  obtain ⟨v6, h6, x6, rfl⟩ := g 6 (by decide)
  obtain ⟨v7, h7, x7, rfl⟩ := g 7 (by decide)
  obtain ⟨v8, h8, x8, rfl⟩ := g 8 (by decide)
  obtain ⟨v9, h9, p9, n9, c9, rfl⟩ := g 9 (by decide)
  obtain ⟨va, ha, pa, na, ca, rfl⟩ := g 10 (by decide)
  exact ⟨⟨_, _, _, _, _, _, _, _, _, _, _, _, _, _, _, h0, h1, h2, h3, h4, h5, h6, h7, h8, h9, ha⟩, fun o => Lib.frozen_of_heap h o⟩
theorem T11.set {b : Nat} {w : World} (H : T11 b w) (o : Nat) (v : Value) (hv : okAt o v) : T11 b (w.setCell ⟨b, o, none⟩ v) := by
  obtain ⟨C, hC, hok, h⟩ := H
  refine ⟨_, by rw [Array.size_setIfInBounds]; exact hC, fun o' v' h' => ?_, heap_set h o v⟩
  rw [Array.getElem?_setIfInBounds] at h'
  split at h'
  · rename_i e
    subst e
    split at h'
    · cases h'; exact hv
    · cases h'
  · exact hok o' v' h'
theorem T11.other {b b' : Nat} {w : World} (H : T11 b w) (hne : b ≠ b') (o : Nat) (v : Value) : T11 b (w.setCell ⟨b', o, none⟩ v) := by
  obtain ⟨C, hC, hok, h⟩ := H
  exact ⟨C, hC, hok, (Below.heap_setCell w ⟨b', o, none⟩ v b hne).trans h⟩
theorem T11.new {b : Nat} {w : World} (h : w.heap[b]? = some rplZ) : T11 b w := by
  refine ⟨_, rfl, fun o v ho => ?_, h⟩
  have hlt : o < 11 := by
    rcases Nat.lt_or_ge o 11 with h' | h'
    · exact h'
    · rw [Array.getElem?_eq_none (show 11 ≤ o from h')] at ho; cases ho
  match o, hlt with
  | 0, _ | 1, _ | 2, _ | 3, _ | 4, _ | 5, _ | 6, _ | 7, _ | 8, _ => cases ho; exact ⟨_, rfl⟩
  | 9, _ | 10, _ => cases ho; exact ⟨_, _, _, rfl⟩
/-- The call, the answer to be returned and the answer lie beside a heap. -/
structure PS (N h c B : Nat) (C : Array Value) (w0 w : World) : Prop where
  hp : ∃ A : Hp, A.Ok c ∧ Hv N h A [B + 1 + 1, B + 1, B] w0 w
  c0 : w.heap[B]? = some (.cells C 37 (0, 0))
  r1 : R11 (B + 1) w
  r2 : T11 (B + 1 + 1) w
  hB : N ≤ B
theorem PS.call {N h c B : Nat} {C : Array Value} {w0 w w' : World} (H : PS N h c B C w0 w) (hn : Pl N h c [B + 1 + 1, B + 1, B] w0 w w') : PS N h c B C w0 w' := by
  obtain ⟨A', hK, hn⟩ := hn
  refine ⟨⟨A', hK, hn.hv⟩, (hn.keep B (by simp)).trans H.c0, ?_, ?_, H.hB⟩
  · obtain ⟨C, hC, h⟩ := H.r1
    exact ⟨C, hC, (hn.keep _ (by simp)).trans h⟩
  · obtain ⟨C, hC, hok, h⟩ := H.r2
    exact ⟨C, hC, hok, (hn.keep _ (by simp)).trans h⟩
theorem PS.set2 {N h c B : Nat} {C : Array Value} {w0 w : World} (H : PS N h c B C w0 w) (o : Nat) (v : Value) (hv : okAt o v) : PS N h c B C w0 (w.setCell ⟨B + 1 + 1, o, none⟩ v) := by
  have hB := H.hB
  obtain ⟨A, hK, hh⟩ := H.hp
  exact ⟨⟨A, hK, hh.wr (by simp) (by omega) o v⟩, (Below.heap_setCell w ⟨B + 1 + 1, o, none⟩ v B (by show B ≠ B + 1 + 1; omega)).trans H.c0, H.r1.other (by omega) o v, H.r2.set o v hv, H.hB⟩
theorem PS.set1 {N h c B : Nat} {C : Array Value} {w0 w : World} (H : PS N h c B C w0 w) (o : Nat) (v : Value) : PS N h c B C w0 (w.setCell ⟨B + 1, o, none⟩ v) := by
  have hB := H.hB
  obtain ⟨A, hK, hv⟩ := H.hp
  exact ⟨⟨A, hK, hv.wr (by simp) (by omega) o v⟩, (Below.heap_setCell w ⟨B + 1, o, none⟩ v B (by show B ≠ B + 1; omega)).trans H.c0, H.r1.set o v, H.r2.other (by omega) o v, H.hB⟩
theorem PS.pl {N h c : Nat} {C : Array Value} {w0 w w' : World} (H : PS N h c w.heap.size C w0 w') : Pl N h c [] w0 w w' := by
  obtain ⟨A, hK, hv⟩ := H.hp
  have := hv.ltL w.heap.size (by simp)
  exact ⟨A, hK, hv.sub (fun M hM => by cases hM), fun M hM => (by cases hM), Nat.le_of_lt this⟩
theorem PS.start {N h c : Nat} {A : Hp} {L : List Nat} {w0 w : World} (H : Hv N h A L w0 w) (K : A.Ok c) (C : Array Value) : PS N h c w.heap.size C w0 (((w.alloc (.cells C 37)).alloc rplZ).alloc rplZ) := by
  have h1 := (H.sub (L' := []) (fun M hM => by cases hM)).alloc (.cells C 37)
  have h2 := h1.alloc rplZ
  have h3 := h2.alloc rplZ
  have s1 : (w.alloc (.cells C 37)).heap.size = w.heap.size + 1 := heap_size _ _
  have s2 : ((w.alloc (.cells C 37)).alloc rplZ).heap.size = w.heap.size + 1 + 1 := by rw [heap_size, s1]
  rw [s2, s1] at h3
  have b2 : Below ((w.alloc (.cells C 37)).alloc rplZ).heap.size ((w.alloc (.cells C 37)).alloc rplZ) (((w.alloc (.cells C 37)).alloc rplZ).alloc rplZ) := (Below.refl _ _).alloc (Nat.le_refl _) _
  have b1 : Below (w.alloc (.cells C 37)).heap.size (w.alloc (.cells C 37)) (((w.alloc (.cells C 37)).alloc rplZ).alloc rplZ) := ((Below.refl _ _).alloc (Nat.le_refl _) _).alloc (by rw [s2, s1]; omega) _
  refine ⟨⟨A, K, h3⟩, ?_, ⟨#[.int .i64 0, .int .i64 0, .int .i64 0, .int .i64 0, .float .f64 0, .string ⟨#[]⟩, .int .i64 0, .bool false, .int .i64 0, .slice none 0 0, .slice none 0 0], rfl, ?_⟩, T11.new ?_, H.loc.2⟩
  · rw [b1.block _ (by rw [s1]; omega)]
    exact heap_new _ _
  · rw [b2.block _ (by rw [s2]; omega), ← s1]
    exact heap_new _ _
  · rw [← s2]
    exact heap_new _ _
theorem elevenC {w : World} {b : Nat} {a0 a1 a2 a3 a4 a5 a6 a7 a8 a9 aa : Value} {T : TypeId} (h : w.heap[b]? = some (.cells #[a0, a1, a2, a3, a4, a5, a6, a7, a8, a9, aa] T (0, 0))) :
    (w.cell? ⟨b, 0, none⟩ = some a0 ∧ w.cell? ⟨b, 1, none⟩ = some a1 ∧ w.cell? ⟨b, 2, none⟩ = some a2 ∧ w.cell? ⟨b, 3, none⟩ = some a3 ∧ w.cell? ⟨b, 4, none⟩ = some a4 ∧ w.cell? ⟨b, 5, none⟩ = some a5 ∧ w.cell? ⟨b, 6, none⟩ = some a6 ∧ w.cell? ⟨b, 7, none⟩ = some a7 ∧ w.cell? ⟨b, 8, none⟩ = some a8 ∧ w.cell? ⟨b, 9, none⟩ = some a9 ∧ w.cell? ⟨b, 10, none⟩ = some aa) ∧
    ∀ o, w.frozen? ⟨b, o, none⟩ = false :=
  ⟨⟨blk_cell h 0 _ rfl, blk_cell h 1 _ rfl, blk_cell h 2 _ rfl, blk_cell h 3 _ rfl, blk_cell h 4 _ rfl, blk_cell h 5 _ rfl, blk_cell h 6 _ rfl, blk_cell h 7 _ rfl, blk_cell h 8 _ rfl, blk_cell h 9 _ rfl, blk_cell h 10 _ rfl⟩, fun o => Lib.frozen_of_heap h o⟩
theorem eleven_form {C : Array Value} (h : C.size = 11) : ∃ a0 a1 a2 a3 a4 a5 a6 a7 a8 a9 aa, C = #[a0, a1, a2, a3, a4, a5, a6, a7, a8, a9, aa] := by
  obtain ⟨l⟩ := C
  simp only [List.size_toArray] at h
  match l, h with
  | [a0, a1, a2, a3, a4, a5, a6, a7, a8, a9, aa], _ => exact ⟨a0, a1, a2, a3, a4, a5, a6, a7, a8, a9, aa, rfl⟩
theorem set_eleven {X : World} {B : Nat} (H : R11 B X) (a0 a1 a2 a3 a4 a5 a6 a7 a8 a9 a10 : Value) : (((((((((((X.setCell ⟨B, 0, none⟩ a0).setCell ⟨B, 1, none⟩ a1).setCell ⟨B, 2, none⟩ a2).setCell ⟨B, 3, none⟩ a3).setCell ⟨B, 4, none⟩ a4).setCell ⟨B, 5, none⟩ a5).setCell ⟨B, 6, none⟩ a6).setCell ⟨B, 7, none⟩ a7).setCell ⟨B, 8, none⟩ a8).setCell ⟨B, 9, none⟩ a9).setCell ⟨B, 10, none⟩ a10).heap[B]? = some (.cells #[a0, a1, a2, a3, a4, a5, a6, a7, a8, a9, a10] 40 (0, 0)) := by
  obtain ⟨C, hC, h⟩ := H
  obtain ⟨c0, c1, c2, c3, c4, c5, c6, c7, c8, c9, ca, rfl⟩ := eleven_form hC
  have h2 := heap_set (heap_set (heap_set (heap_set (heap_set (heap_set (heap_set (heap_set (heap_set (heap_set (heap_set h 0 a0) 1 a1) 2 a2) 3 a3) 4 a4) 5 a5) 6 a6) 7 a7) 8 a8) 9 a9) 10 a10
  simpa using h2
set_option maxHeartbeats 2000000 in
theorem play_done {N h c : Nat} {C : Array Value} {w0 w X : World} (H : PS N h c w.heap.size C w0 X) (a0 a1 a2 a3 a4 a5 a6 a7 a8 a9 a10 : Value) (t : Array Value) (ht : t[4]? = some (.pointer (some ⟨w.heap.size + 1, 0, none⟩))) :
    bodyPost Tryd.prog Tryd.f15 (fun e w' => (∃ r, e = .returned r) ∧ Pl N h c [] w0 w w') Exit.ret { tmps := t, defers := [] } (((((((((((X.setCell ⟨w.heap.size + 1, 0, none⟩ a0).setCell ⟨w.heap.size + 1, 1, none⟩ a1).setCell ⟨w.heap.size + 1, 2, none⟩ a2).setCell ⟨w.heap.size + 1, 3, none⟩ a3).setCell ⟨w.heap.size + 1, 4, none⟩ a4).setCell ⟨w.heap.size + 1, 5, none⟩ a5).setCell ⟨w.heap.size + 1, 6, none⟩ a6).setCell ⟨w.heap.size + 1, 7, none⟩ a7).setCell ⟨w.heap.size + 1, 8, none⟩ a8).setCell ⟨w.heap.size + 1, 9, none⟩ a9).setCell ⟨w.heap.size + 1, 10, none⟩ a10) := by
  have hz := set_eleven H.r1 a0 a1 a2 a3 a4 a5 a6 a7 a8 a9 a10
  have hp : PS N h c w.heap.size C w0 (((((((((((X.setCell ⟨w.heap.size + 1, 0, none⟩ a0).setCell ⟨w.heap.size + 1, 1, none⟩ a1).setCell ⟨w.heap.size + 1, 2, none⟩ a2).setCell ⟨w.heap.size + 1, 3, none⟩ a3).setCell ⟨w.heap.size + 1, 4, none⟩ a4).setCell ⟨w.heap.size + 1, 5, none⟩ a5).setCell ⟨w.heap.size + 1, 6, none⟩ a6).setCell ⟨w.heap.size + 1, 7, none⟩ a7).setCell ⟨w.heap.size + 1, 8, none⟩ a8).setCell ⟨w.heap.size + 1, 9, none⟩ a9).setCell ⟨w.heap.size + 1, 10, none⟩ a10) := (PS.set1 (PS.set1 (PS.set1 (PS.set1 (PS.set1 (PS.set1 (PS.set1 (PS.set1 (PS.set1 (PS.set1 (PS.set1 H 0 a0) 1 a1) 2 a2) 3 a3) 4 a4) 5 a5) 6 a6) 7 a7) 8 a8) 9 a9) 10 a10)
  obtain ⟨⟨b0, b1, b2, b3, b4, b5, b6, b7, b8, b9, ba⟩, -⟩ := elevenC hz
  refine bodyPost_ret (v := .agg #[a0, a1, a2, a3, a4, a5, a6, a7, a8, a9, a10]) ?_ rfl ⟨⟨_, rfl⟩, hp.pl⟩
  generalize (((((((((((X.setCell ⟨w.heap.size + 1, 0, none⟩ a0).setCell ⟨w.heap.size + 1, 1, none⟩ a1).setCell ⟨w.heap.size + 1, 2, none⟩ a2).setCell ⟨w.heap.size + 1, 3, none⟩ a3).setCell ⟨w.heap.size + 1, 4, none⟩ a4).setCell ⟨w.heap.size + 1, 5, none⟩ a5).setCell ⟨w.heap.size + 1, 6, none⟩ a6).setCell ⟨w.heap.size + 1, 7, none⟩ a7).setCell ⟨w.heap.size + 1, 8, none⟩ a8).setCell ⟨w.heap.size + 1, 9, none⟩ a9).setCell ⟨w.heap.size + 1, 10, none⟩ a10) = W at *
  simp [results, Tryd.results15, go_sem, ht, b0, b1, b2, b3, b4, b5, b6, b7, b8, b9, ba]
end Go.Proofs.YtmhoebbdapjpeaaDoor
