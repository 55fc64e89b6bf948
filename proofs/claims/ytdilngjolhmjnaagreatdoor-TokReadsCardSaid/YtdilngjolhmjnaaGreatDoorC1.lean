/- api.Tell of no error, and of a fault. Conditions: those that each theorem names. The statements' first question answers true. Conditions: those that each theorem names. -/
import Derived.Test.YtdilngjolhmjnaaGreatDoorAsC
import Derived.KernelRfl
namespace Go.Proofs.YtdilngjolhmjnaaGreatDoor
open Go.RowKit Go.Shelf
set_option linter.all false

/-- What Tell tells. -/
abbrev tellVal (n : Nat) (p : K.Pl) : Value := .tuple #[.int .i64 (n : Int), .agg #[.int .i64 (p.1 : Int), .int .i64 (p.2 : Int)]]
theorem tell_nil (w : World) : Calls Tryz.prog 11 #[.nilIface] w fun e w' => e = .returned (tellVal 0 (0, 0)) ∧ Below w.heap.size w w' := by
  go_enter Tryz.func11, Tryz.ntmps11
  go_wp2
  refine bodyPost_ret (v := tellVal 0 (0, 0)) ?_ rfl ⟨rfl, ?_⟩
  · simp [results, Tryz.results11, go_sem]
  · exact (Below.refl _ _).alloc (Nat.le_refl _) _

/-- Tell's four variables. -/
def Tb (N : Nat) (C0 C1 C2 C3 : Array Value) (w : World) : Prop :=
  w.heap[N]? = some (.cells C0 29 (0, 0)) ∧ w.heap[N + 1]? = some (.cells C1 45 (0, 0)) ∧ w.heap[N + 2]? = some (.cells C2 32 (0, 0)) ∧ w.heap[N + 3]? = some (.cells C3 29 (0, 0))
theorem Tb.below {N : Nat} {C0 C1 C2 C3 : Array Value} {w w' : World} (h : Tb N C0 C1 C2 C3 w) (k : Below w.heap.size w w') : Tb N C0 C1 C2 C3 w' := ⟨Below.keep k h.1, Below.keep k h.2.1, Below.keep k h.2.2.1, Below.keep k h.2.2.2⟩
theorem Tb.new (w : World) : Tb w.heap.size #[.int .i64 0, .int .i64 0] #[.pointer none] #[.int .i64 0] #[.int .i64 0, .int .i64 0] ((((w.alloc (.cells #[.int .i64 0, .int .i64 0] 29)).alloc (.cells #[.pointer none] 45)).alloc (.cells #[.int .i64 0] 32)).alloc (.cells #[.int .i64 0, .int .i64 0] 29)) := by
  refine ⟨?_, ?_, ?_, ?_⟩
  · rw [Below.heap_alloc _ _ _ (by simp; omega), Below.heap_alloc _ _ _ (by simp; omega), Below.heap_alloc _ _ _ (by simp)]; exact heap_new _ _
  · rw [Below.heap_alloc _ _ _ (by simp), Below.heap_alloc _ _ _ (by simp)]
    have := heap_new (w.alloc (.cells #[.int .i64 0, .int .i64 0] 29)) (.cells #[.pointer none] 45)
    rw [heap_size] at this
    exact this
  · rw [Below.heap_alloc _ _ _ (by simp)]
    have := heap_new ((w.alloc (.cells #[.int .i64 0, .int .i64 0] 29)).alloc (.cells #[.pointer none] 45)) (.cells #[.int .i64 0] 32)
    rw [heap_size, heap_size] at this
    exact this
  · have := heap_new (((w.alloc (.cells #[.int .i64 0, .int .i64 0] 29)).alloc (.cells #[.pointer none] 45)).alloc (.cells #[.int .i64 0] 32)) (.cells #[.int .i64 0, .int .i64 0] 29)
    rw [heap_size, heap_size, heap_size] at this
    exact this
theorem Tb.set1 {N i : Nat} {C0 C1 C2 C3 : Array Value} {w : World} (h : Tb N C0 C1 C2 C3 w) (v : Value) : Tb N C0 (C1.setIfInBounds i v) C2 C3 (w.setCell ⟨N + 1, i, none⟩ v) :=
  ⟨by rw [Below.heap_setCell _ _ _ _ (by simp)]; exact h.1, heap_set h.2.1 i v, by rw [Below.heap_setCell _ _ _ _ (by simp)]; exact h.2.2.1, by rw [Below.heap_setCell _ _ _ _ (by simp)]; exact h.2.2.2⟩
theorem Tb.set2 {N i : Nat} {C0 C1 C2 C3 : Array Value} {w : World} (h : Tb N C0 C1 C2 C3 w) (v : Value) : Tb N C0 C1 (C2.setIfInBounds i v) C3 (w.setCell ⟨N + 2, i, none⟩ v) :=
  ⟨by rw [Below.heap_setCell _ _ _ _ (by simp)]; exact h.1, by rw [Below.heap_setCell _ _ _ _ (by simp)]; exact h.2.1, heap_set h.2.2.1 i v, by rw [Below.heap_setCell _ _ _ _ (by simp)]; exact h.2.2.2⟩
theorem Tb.set3 {N i : Nat} {C0 C1 C2 C3 : Array Value} {w : World} (h : Tb N C0 C1 C2 C3 w) (v : Value) : Tb N C0 C1 C2 (C3.setIfInBounds i v) (w.setCell ⟨N + 3, i, none⟩ v) :=
  ⟨by rw [Below.heap_setCell _ _ _ _ (by simp)]; exact h.1, by rw [Below.heap_setCell _ _ _ _ (by simp)]; exact h.2.1, by rw [Below.heap_setCell _ _ _ _ (by simp)]; exact h.2.2.1, heap_set h.2.2.2 i v⟩
theorem fault_set {fb k i : Nat} {er : K.Er} {w : World} {v : Value} (h : FaultAt fb er w) (hk : k ≠ fb) : FaultAt fb er (w.setCell ⟨k, i, none⟩ v) := by
  unfold FaultAt
  rw [Below.heap_setCell _ _ _ _ (by simpa using fun e => hk e.symm)]
  exact h
theorem FaultAt.cells {fb : Nat} {er : K.Er} {w : World} (h : FaultAt fb er w) : w.cell? ⟨fb, 0, none⟩ = some (.int .i64 (er.2.1 : Int)) ∧ w.cell? ⟨fb, 1, none⟩ = some (.int .i64 (er.2.2 : Int)) ∧ w.cell? ⟨fb, 2, none⟩ = some (.iface 32 (.int .i64 (er.1 : Int))) :=
  ⟨by rw [Lib.cell_of_heap h]; rfl, by rw [Lib.cell_of_heap h]; rfl, by rw [Lib.cell_of_heap h]; rfl⟩

set_option maxHeartbeats 8000000 in
set_option maxRecDepth 100000 in
theorem tell_fault (fb : Nat) (er : K.Er) (w : World) (hf : FaultAt fb er w) (hlow : Low w) (h12 : 12 ≤ w.heap.size) :
    Calls Tryz.prog 11 #[.iface 45 (.pointer (some ⟨fb, 0, none⟩))] w fun e w' => e = .returned (tellVal er.1 er.2) ∧ Below w.heap.size w w' := by
  have hfl := lt_of_heap hf
  have hT0 := Tb.new w
  have hb0 : Below w.heap.size w ((((w.alloc (.cells #[.int .i64 0, .int .i64 0] 29)).alloc (.cells #[.pointer none] 45)).alloc (.cells #[.int .i64 0] 32)).alloc (.cells #[.int .i64 0, .int .i64 0] 29)) :=
    ((((Below.refl _ _).alloc (Nat.le_refl _) _).alloc (by simp) _).alloc (by simp; omega) _).alloc (by simp; omega) _
  have hF0 : FaultAt fb er ((((w.alloc (.cells #[.int .i64 0, .int .i64 0] 29)).alloc (.cells #[.pointer none] 45)).alloc (.cells #[.int .i64 0] 32)).alloc (.cells #[.int .i64 0, .int .i64 0] 29)) := Below.keep hb0 hf
  have hL0 := hlow.below hb0 h12
  have hsz0 : ((((w.alloc (.cells #[.int .i64 0, .int .i64 0] 29)).alloc (.cells #[.pointer none] 45)).alloc (.cells #[.int .i64 0] 32)).alloc (.cells #[.int .i64 0, .int .i64 0] 29)).heap.size = w.heap.size + 4 := by simp
  have a1 := as_fault ⟨fb, 0, none⟩ ⟨w.heap.size + 1, 0, none⟩ (.pointer none) _ hL0.errt (by rw [Lib.cell_of_heap hT0.2.1]; rfl) (Lib.frozen_of_heap hT0.2.1 _)
  have T0 := Lib.hid hT0
  have B0 := Lib.hid hb0
  have F0 := Lib.hid hF0
  have L0 := Lib.hid hlow
  have SZ := Lib.hid hsz0
  clear hT0 hb0 hF0 hL0 hlow hf hsz0
  go_enter Tryz.func11, Tryz.ntmps11
  go_wp2_with (go_at_call 29; first
    | ((with_reducible refine a1.mono ?_); rintro ev w1 ⟨rfl, W0, hb1, rfl⟩; have hTT := (T0.out.below hb1).set1 (i := 0) (.pointer (some ⟨fb, 0, none⟩)); have hFF : FaultAt fb er (W0.setCell ⟨w.heap.size + 1, 0, none⟩ (.pointer (some ⟨fb, 0, none⟩))) := fault_set (show FaultAt fb er W0 from Below.keep hb1 F0.out) (by omega); have T1 := Lib.hid hTT; have F1 := Lib.hid hFF; have j0 : (W0.setCell ⟨w.heap.size + 1, 0, none⟩ (.pointer (some ⟨fb, 0, none⟩))).cell? ⟨w.heap.size + 1, 0, none⟩ = some (.pointer (some ⟨fb, 0, none⟩)) := (by rw [Lib.cell_of_heap hTT.2.1]; rfl); obtain ⟨f0, f1, f2⟩ := hFF.cells; have k0 : (W0.setCell ⟨w.heap.size + 1, 0, none⟩ (.pointer (some ⟨fb, 0, none⟩))).cell? ⟨w.heap.size + 3, 0, none⟩ = some (.int .i64 0) := (by rw [Lib.cell_of_heap hTT.2.2.2]; rfl); have k1 : (W0.setCell ⟨w.heap.size + 1, 0, none⟩ (.pointer (some ⟨fb, 0, none⟩))).cell? ⟨w.heap.size + 3, 1, none⟩ = some (.int .i64 0) := (by rw [Lib.cell_of_heap hTT.2.2.2]; rfl); have z0 : (W0.setCell ⟨w.heap.size + 1, 0, none⟩ (.pointer (some ⟨fb, 0, none⟩))).frozen? ⟨w.heap.size + 3, 0, none⟩ = false := Lib.frozen_of_heap hTT.2.2.2 _; have z1 : (W0.setCell ⟨w.heap.size + 1, 0, none⟩ (.pointer (some ⟨fb, 0, none⟩))).frozen? ⟨w.heap.size + 3, 1, none⟩ = false := Lib.frozen_of_heap hTT.2.2.2 _; have BB1 := Lib.hid hb1; clear hTT hFF hb1))
  have hT2 := (T1.out.set3 (i := 0) (.int .i64 (er.2.1 : Int))).set3 (i := 1) (.int .i64 (er.2.2 : Int))
  have hF2 : FaultAt fb er (((W0.setCell ⟨w.heap.size + 1, 0, none⟩ (.pointer (some ⟨fb, 0, none⟩))).setCell ⟨w.heap.size + 3, 0, none⟩ (.int .i64 (er.2.1 : Int))).setCell ⟨w.heap.size + 3, 1, none⟩ (.int .i64 (er.2.2 : Int))) := fault_set (fault_set F1.out (by omega)) (by omega)
  have hB2 : Below w.heap.size w (((W0.setCell ⟨w.heap.size + 1, 0, none⟩ (.pointer (some ⟨fb, 0, none⟩))).setCell ⟨w.heap.size + 3, 0, none⟩ (.int .i64 (er.2.1 : Int))).setCell ⟨w.heap.size + 3, 1, none⟩ (.int .i64 (er.2.2 : Int))) :=
    (((B0.out.trans (BB1.out.mono (by simp; omega))).setCell (p := ⟨w.heap.size + 1, 0, none⟩) (by simp) _).setCell (p := ⟨w.heap.size + 3, 0, none⟩) (by simp) _).setCell (p := ⟨w.heap.size + 3, 1, none⟩) (by simp) _
  have a2 := as_errno fb ⟨w.heap.size + 2, 0, none⟩ (er.1 : Int) (.int .i64 0) _ (L0.out.below hB2 h12).errt (by rw [Lib.cell_of_heap hT2.2.2.1]; rfl) (Lib.frozen_of_heap hT2.2.2.1 _) hF2.cells.2.2
  refine a2.mono ?_
  clear a2
  rintro ev w3 ⟨rfl, W3, hb3, rfl⟩
  have hT3 := (hT2.below hb3).set2 (i := 0) (.int .i64 (er.1 : Int))
  have hB3 : Below w.heap.size w (W3.setCell ⟨w.heap.size + 2, 0, none⟩ (.int .i64 (er.1 : Int))) := (hB2.trans (hb3.mono hB2.size)).setCell (p := ⟨w.heap.size + 2, 0, none⟩) (by simp) _
  have n0 : (W3.setCell ⟨w.heap.size + 2, 0, none⟩ (.int .i64 (er.1 : Int))).cell? ⟨w.heap.size + 2, 0, none⟩ = some (.int .i64 (er.1 : Int)) := by rw [Lib.cell_of_heap hT3.2.2.1]; rfl
  have m0 : (W3.setCell ⟨w.heap.size + 2, 0, none⟩ (.int .i64 (er.1 : Int))).cell? ⟨w.heap.size + 3, 0, none⟩ = some (.int .i64 (er.2.1 : Int)) := by rw [Lib.cell_of_heap hT3.2.2.2]; rfl
  have m1 : (W3.setCell ⟨w.heap.size + 2, 0, none⟩ (.int .i64 (er.1 : Int))).cell? ⟨w.heap.size + 3, 1, none⟩ = some (.int .i64 (er.2.2 : Int)) := by rw [Lib.cell_of_heap hT3.2.2.2]; rfl
  have q0 : (W3.setCell ⟨w.heap.size + 2, 0, none⟩ (.int .i64 (er.1 : Int))).cell? ⟨w.heap.size, 0, none⟩ = some (.int .i64 0) := by rw [Lib.cell_of_heap hT3.1]; rfl
  have q1 : (W3.setCell ⟨w.heap.size + 2, 0, none⟩ (.int .i64 (er.1 : Int))).cell? ⟨w.heap.size, 1, none⟩ = some (.int .i64 0) := by rw [Lib.cell_of_heap hT3.1]; rfl
  have y0 : (W3.setCell ⟨w.heap.size + 2, 0, none⟩ (.int .i64 (er.1 : Int))).frozen? ⟨w.heap.size, 0, none⟩ = false := Lib.frozen_of_heap hT3.1 _
  have y1 : (W3.setCell ⟨w.heap.size + 2, 0, none⟩ (.int .i64 (er.1 : Int))).frozen? ⟨w.heap.size, 1, none⟩ = false := Lib.frozen_of_heap hT3.1 _
  have T3 := Lib.hid hT3
  have B3 := Lib.hid hB3
  generalize (W3.setCell ⟨w.heap.size + 2, 0, none⟩ (.int .i64 (er.1 : Int))) = W5 at n0 m0 m1 q0 q1 y0 y1 T3 B3 ⊢
  clear hT2 hF2 hB2 hb3 hT3 hB3 j0 f0 f1 f2 k0 k1 z0 z1
  go_wp2
  go_region
  go_wp2
  have hh := heap_set (heap_set T3.out.1 0 (.int .i64 (er.2.1 : Int))) 1 (.int .i64 (er.2.2 : Int))
  have g0 : ((W5.setCell ⟨w.heap.size, 0, none⟩ (.int .i64 (er.2.1 : Int))).setCell ⟨w.heap.size, 1, none⟩ (.int .i64 (er.2.2 : Int))).cell? ⟨w.heap.size, 0, none⟩ = some (.int .i64 (er.2.1 : Int)) := by rw [Lib.cell_of_heap hh]; simp
  have g1 : ((W5.setCell ⟨w.heap.size, 0, none⟩ (.int .i64 (er.2.1 : Int))).setCell ⟨w.heap.size, 1, none⟩ (.int .i64 (er.2.2 : Int))).cell? ⟨w.heap.size, 1, none⟩ = some (.int .i64 (er.2.2 : Int)) := by rw [Lib.cell_of_heap hh]; simp
  have hb6 := (B3.out.setCell (p := ⟨w.heap.size, 0, none⟩) (Nat.le_refl _) (.int .i64 (er.2.1 : Int))).setCell (p := ⟨w.heap.size, 1, none⟩) (Nat.le_refl _) (.int .i64 (er.2.2 : Int))
  generalize ((W5.setCell ⟨w.heap.size, 0, none⟩ (.int .i64 (er.2.1 : Int))).setCell ⟨w.heap.size, 1, none⟩ (.int .i64 (er.2.2 : Int))) = W6 at g0 g1 hb6 ⊢
  refine bodyPost_ret (v := tellVal er.1 er.2) ?_ rfl ⟨rfl, hb6.drew⟩
  simp [results, Tryz.results11, go_sem, g0, g1]
end Go.Proofs.YtdilngjolhmjnaaGreatDoor
namespace Go.Proofs.YtdilngjolhmjnaaGreatDoor
open Go.RowKit Go.Shelf
set_option linter.all false

def d1 : List UInt8 := [60, 97, 32, 98, 61, 39, 120, 38, 97, 109, 112, 59, 121, 39, 47, 62, 38, 35, 54, 53, 59, 60, 33, 91, 67, 68, 65, 84, 65, 91, 60, 93, 93, 62]
def d2 : List UInt8 := [60, 97, 10, 32, 98, 61, 49, 62]
theorem tok1 : K.tokens d1 = .ok [⟨1, [97], [([98], [120, 38, 121], (1, 4))], [], (1, 1), true⟩, ⟨3, [], [], [65, 60], (1, 17), false⟩] := by kernel_rfl
theorem tok2 : K.tokens d2 = .error (21, (2, 4)) := by kernel_rfl
theorem bs_d1 : bs d1 = ⟨#[60, 97, 32, 98, 61, 39, 120, 38, 97, 109, 112, 59, 121, 39, 47, 62, 38, 35, 54, 53, 59, 60, 33, 91, 67, 68, 65, 84, 65, 91, 60, 93, 93, 62]⟩ := rfl
theorem bs_d2 : bs d2 = ⟨#[60, 97, 10, 32, 98, 61, 49, 62]⟩ := rfl
/-- What memory keeps of tokens and faults. -/
theorem ListAt.bel {B : Nat} {toks : List K.Tk} {lv : Value} {w w' : World} (h : ListAt B toks lv w) (k : Below w.heap.size w w') : ListAt B toks lv w' := by
  obtain ⟨xs, ho, ht⟩ := h
  exact ⟨xs, (KeepT.bel k).own ho, ht.keep (KeepT.bel k)⟩

theorem own_at {w : World} {B : Nat} {e : TypeId} {sz n : Nat} {v : Value} {xs : List Value} (h : w.ownsRow B e sz v n xs) (hn : 0 < n) : ∃ g cap, v = .slice (some ⟨g, 0, none⟩) n cap ∧ B ≤ g ∧ n ≤ cap ∧ cap ≤ maxLen ∧ g < w.heap.size ∧ ∀ W, Below w.heap.size w W → ∀ j u, j < n * sz → xs[j]? = some u → W.cell? ⟨g, j, none⟩ = some u := by
  have hk := h
  rcases h.2 with ⟨_, h0⟩ | ⟨g, cap, cur, rfl, hB, hh, hnc, hcm, _, _⟩
  · omega
  · refine ⟨g, cap, rfl, hB, hnc, hcm, lt_of_heap hh, ?_⟩
    intro W hW j u hj hu
    rw [show W.cell? ⟨g, j, none⟩ = w.cell? ⟨g, j, none⟩ from hW.cell (p := ⟨g, j, none⟩) (lt_of_heap hh), hk.cellAt j hj, hu]

set_option maxHeartbeats 8000000 in
set_option maxRecDepth 100000 in
theorem awake_any (w : World) (hlow : Low w) (h12 : 12 ≤ w.heap.size) : Calls Tryz.prog 8 #[] w fun e w' => e = .returned (.bool true) ∧ Below w.heap.size w w' := by
  have ht1 := tokens_any d1 (by decide) w hlow h12
  rw [tok1, bs_d1] at ht1
  have ht2 : ∀ W, Below w.heap.size w W → Calls Tryz.prog 9 #[.string ⟨#[60, 97, 10, 32, 98, 61, 49, 62]⟩] W (TokRet (.error (21, (2, 4))) W) := by
    intro W hW
    have := tokens_any d2 (by decide) W (hlow.below hW h12) (by have := hW.size; omega)
    rw [tok2, bs_d2] at this
    exact this
  have htl : ∀ fb W, Below w.heap.size w W → FaultAt fb (21, (2, 4)) W → Calls Tryz.prog 11 #[.iface 45 (.pointer (some ⟨fb, 0, none⟩))] W fun e w' => e = .returned (tellVal 21 (2, 4)) ∧ Below W.heap.size W w' :=
    fun fb W hW hf => tell_fault fb (21, (2, 4)) W hf (hlow.below hW h12) (by have := hW.size; omega)
  have HT2 := Lib.hid ht2
  have HTl := Lib.hid htl
  clear ht2 htl hlow
  go_enter Tryz.func8, Tryz.ntmps8
  go_wp2_with (first
    | (go_at_call 9; first
      | ((with_reducible refine ht1.mono ?_); rintro e w1 ⟨lv, rfl, ⟨xs, ho, av, ys, rfl, ha, av2, zs, rfl, ha2, rfl⟩, hb1⟩; obtain ⟨g, cap, rfl, hgB, hnc, hcm, hgl, hc⟩ := own_at ho (by decide); obtain ⟨g1, cap1, rfl, hg1B, hnc1, hcm1, hgl1, hc1⟩ := own_at ha (by decide); have HB1 := Lib.hid hb1; have HC := Lib.hid hc; have HC1 := Lib.hid hc1; have hk2 := HT2.out _ hb1; clear hb1 hc hc1 ho ha ha2)
      | ((with_reducible refine hk2.mono ?_); rintro e w2 ⟨fb, rfl, hfa, hb2⟩; have hk3 := HTl.out fb w2 (HB1.out.trans (hb2.mono HB1.out.size)) hfa; have HB2 := Lib.hid hb2; clear hb2 hfa))
    | (go_at_call 11; refine hk3.mono ?_; rintro e w3 ⟨rfl, hb3⟩; have hb4 := (HB2.out.trans (hb3.mono HB2.out.size)).alloc (Nat.le_trans HB2.out.size hb3.size) (.cells #[.int .i64 2, .int .i64 4] 29); have m6 := HC.out _ hb4 6 _ (by decide) rfl; have m2 := HC.out _ hb4 2 _ (by decide) rfl; have m10 : (w3.alloc (.cells #[.int .i64 2, .int .i64 4] 29)).cell? ⟨g, 10, none⟩ = some (.string ⟨#[65, 60]⟩) := HC.out _ hb4 10 _ (by decide) rfl; have n1 : (w3.alloc (.cells #[.int .i64 2, .int .i64 4] 29)).cell? ⟨g1, 1, none⟩ = some (.string ⟨#[120, 38, 121]⟩) := HC1.out _ hb4 1 _ (by decide) rfl; have HB3 := Lib.hid hb3; have HB4 := Lib.hid hb4; clear hb3 hb4))
  all_goals (go_ret; exact ⟨rfl, HB1.out.trans (HB4.out.mono HB1.out.size)⟩)
end Go.Proofs.YtdilngjolhmjnaaGreatDoor
