/- What xmltok.Tokens defers: a fault that was panicked with is handed out. Conditions: those that each theorem names. xmltok.Tokens: a document's tokens, or its first fault and its place. Conditions: those that each theorem names. -/
import Derived.Test.YtdilngjolhmjnaaGreatDoorB8
import Derived.Defers
import Derived.Recover
import Derived.Laws.Pointers
import Derived.Test.YtdilngjolhmjnaaGreatDoorB6
namespace Go.Proofs.YtdilngjolhmjnaaGreatDoor
open Go.RowKit Go.Shelf
set_option linter.all false

theorem assert_fault (a : Addr) (w : World) : (Instr.typeAssert (.iface 45 (.pointer (some a))) 20 45 true).run Tryz.prog w = .ok (.tuple #[.pointer (some a), .bool true]) w := by kernel_rfl
theorem assert_nil (w : World) : (Instr.typeAssert .nilIface 20 45 true).run Tryz.prog w = .ok (.tuple #[.pointer none, .bool false]) w := by kernel_rfl

set_option maxHeartbeats 4000000 in
set_option maxRecDepth 100000 in
theorem catch_panicking (lp ep : Addr) (hne : lp ≠ ep) (lv ev : Value) (a : Addr) (older : List PanicEntry) (w : World) (hl : w.cell? lp = some lv) (hlz : w.frozen? lp = false) (he : w.cell? ep = some ev) (hez : w.frozen? ep = false) :
    CallsD Tryz.prog 16 #[.pointer (some lp), .pointer (some ep)] (.panicking ({ v := .iface 45 (.pointer (some a)), recovered := false } :: older)) w fun e u' w' =>
      e = .returned (.tuple #[]) ∧ u' = .panicking ({ v := .iface 45 (.pointer (some a)), recovered := true } :: older) ∧ w' = (w.setCell lp (.slice none 0 0)).setCell ep (.iface 45 (.pointer (some a))) := by
  have ta := assert_fault a
  have he2 : (w.setCell lp (.slice none 0 0)).cell? ep = some ev := (World.cell?_setCell_other _ _ _ _ (by first | exact hne | exact fun h => hne h.symm)).trans he
  have hz2 : (w.setCell lp (.slice none 0 0)).frozen? ep = false := by simpa using hez
  refine callsD_of_wpS Tryz.func16 rfl fun c₀ cs hu => ?_
  apply wpS_seq
  apply wpS_region
  simp [wpOpsS, go_sem, recoverD, hu, Tryz.ntmps16, Exit.thenS, ta, Result.andThen, Array.replicate]
  refine wpS_of_wp ?_
  go_wp2
  cases c₀
  simp_all [bodyPostS, results, Tryz.results16]

set_option maxHeartbeats 4000000 in
set_option maxRecDepth 100000 in
theorem catch_idle (lp ep : Addr) (w : World) :
    CallsD Tryz.prog 16 #[.pointer (some lp), .pointer (some ep)] .returning w fun e u' w' => e = .returned (.tuple #[]) ∧ u' = .returning ∧ w' = w := by
  have ta := assert_nil
  refine callsD_of_wpS Tryz.func16 rfl fun c₀ cs hu => ?_
  apply wpS_seq
  apply wpS_region
  simp [wpOpsS, go_sem, recoverD, hu, Tryz.ntmps16, Exit.thenS, ta, Result.andThen, Array.replicate]
  refine wpS_of_wp ?_
  go_wp2
  cases c₀
  simp_all [bodyPostS, results, Tryz.results16]
end Go.Proofs.YtdilngjolhmjnaaGreatDoor
namespace Go.Proofs.YtdilngjolhmjnaaGreatDoor
open Go.RowKit Go.Shelf
set_option linter.all false

/-- A fault in memory. -/
def FaultAt (fb : Nat) (er : K.Er) (w : World) : Prop := w.heap[fb]? = some (.cells #[.int .i64 (er.2.1 : Int), .int .i64 (er.2.2 : Int), .iface 32 (.int .i64 (er.1 : Int))] 71 (0, 0))
/-- Tokens in memory. -/
def ListAt (B : Nat) (toks : List K.Tk) (lv : Value) (w : World) : Prop := ∃ xs, w.ownsRow B 38 7 lv toks.length xs ∧ ToksAt B w toks xs
/-- What Tokens leaves. -/
def TokRet (r : Except K.Er (List K.Tk)) (w : World) (e : Ending) (w' : World) : Prop := match r with
  | .ok toks => ∃ lv, e = .returned (.tuple #[lv, .nilIface]) ∧ ListAt w.heap.size toks lv w' ∧ Below w.heap.size w w'
  | .error er => ∃ fb, e = .returned (.tuple #[.slice none 0 0, .iface 45 (.pointer (some ⟨fb, 0, none⟩))]) ∧ FaultAt fb er w' ∧ Below w.heap.size w w'
theorem ToksAt.base {B B' : Nat} (hB : B' ≤ B) {w : World} : ∀ {l : List K.Tk} {xs : List Value}, ToksAt B w l xs → ToksAt B' w l xs
  | [], _, h => h
  | _ :: _, _, ⟨av, ys, e, ho, hr⟩ => ⟨av, ys, e, own_base ho hB, ToksAt.base hB hr⟩
theorem tokens_eq (doc : List UInt8) : K.tokens doc = if 65536 < doc.length then .error (2, (1, 1)) else match CF doc (1, 1) [] with
    | .error e => .error e
    | .ok d => K.document d := rfl
/-- The two results' cells. -/
def Res (L : Nat) (w : World) : Prop := w.heap[L]? = some (.cells #[.slice none 0 0] 23 (0, 0)) ∧ w.heap[L + 1]? = some (.cells #[.nilIface] 25 (0, 0))
theorem Res.below {L : Nat} {w w' : World} (h : Res L w) {B : Nat} (k : Below B w w') (hB : L + 1 < B) : Res L w' := ⟨(k.block L (by omega)).trans h.1, (k.block (L + 1) hB).trans h.2⟩
theorem Res.fault {L fb : Nat} {er : K.Er} {w : World} {lv ev : Value} (h : Res L w) (hf : FaultAt fb er w) : FaultAt fb er ((w.setCell ⟨L, 0, none⟩ lv).setCell ⟨L + 1, 0, none⟩ ev) := by
  have h1 : fb ≠ L := by rintro rfl; rw [FaultAt, h.1] at hf; cases hf
  have h2 : fb ≠ L + 1 := by rintro rfl; rw [FaultAt, h.2] at hf; cases hf
  unfold FaultAt
  rw [Below.heap_setCell _ _ _ _ (by simpa using h2), Below.heap_setCell _ _ _ _ (by simpa using h1)]
  exact hf
theorem Res.cells {L : Nat} {w : World} (h : Res L w) : w.cell? ⟨L, 0, none⟩ = some (.slice none 0 0) ∧ w.cell? ⟨L + 1, 0, none⟩ = some .nilIface ∧ w.frozen? ⟨L, 0, none⟩ = false ∧ w.frozen? ⟨L + 1, 0, none⟩ = false :=
  ⟨by rw [Lib.cell_of_heap h.1]; rfl, by rw [Lib.cell_of_heap h.2]; rfl, Lib.frozen_of_heap h.1 _, Lib.frozen_of_heap h.2 _⟩
theorem Res.read {L : Nat} {w : World} (h : Res L w) (lv ev : Value) : ((w.setCell ⟨L, 0, none⟩ lv).setCell ⟨L + 1, 0, none⟩ ev).cell? ⟨L, 0, none⟩ = some lv ∧ ((w.setCell ⟨L, 0, none⟩ lv).setCell ⟨L + 1, 0, none⟩ ev).cell? ⟨L + 1, 0, none⟩ = some ev := by
  have h1 := heap_set h.1 0 lv
  have h2 : (w.setCell ⟨L, 0, none⟩ lv).heap[L + 1]? = _ := (Below.heap_setCell _ _ _ _ (by simp)).trans h.2
  have h3 := heap_set h2 0 ev
  have h4 : ((w.setCell ⟨L, 0, none⟩ lv).setCell ⟨L + 1, 0, none⟩ ev).heap[L]? = _ := (Below.heap_setCell _ _ _ _ (by simp)).trans h1
  exact ⟨by rw [Lib.cell_of_heap h4]; simp, by rw [Lib.cell_of_heap h3]; simp⟩

theorem res_new (w : World) : Res w.heap.size ((w.alloc (.cells #[.slice none 0 0] 23)).alloc (.cells #[.nilIface] 25)) := by
  refine ⟨?_, ?_⟩
  · rw [Below.heap_alloc _ _ _ (by rw [heap_size]; omega)]; exact heap_new _ _
  · have := heap_new (w.alloc (.cells #[.slice none 0 0] 23)) (.cells #[.nilIface] 25)
    rw [heap_size] at this
    exact this
theorem res_below (w : World) : Below w.heap.size w ((w.alloc (.cells #[.slice none 0 0] 23)).alloc (.cells #[.nilIface] 25)) := ((Below.refl _ _).alloc (Nat.le_refl _) _).alloc (by simp) _

set_option maxHeartbeats 8000000 in
set_option maxRecDepth 100000 in
theorem tokens_long (doc : List UInt8) (hl : 65536 < doc.length) (hs : doc.length ≤ 140737488355328) (w : World) :
    Calls Tryz.prog 9 #[.string (bs doc)] w (TokRet (.error (2, (1, 1))) w) := by
  have hmf : ∀ (fn : Fn) (first cap : Array Value) (w : World), (Instr.makeFunc fn first cap).run Tryz.prog w = .ok (.func fn first cap) w := fun _ _ _ _ => rfl
  have hsz := bs_size doc
  have hres : ∀ W, Below ((w.alloc (.cells #[.slice none 0 0] 23)).alloc (.cells #[.nilIface] 25)).heap.size ((w.alloc (.cells #[.slice none 0 0] 23)).alloc (.cells #[.nilIface] 25)) W → Res w.heap.size W := fun W hW => (res_new w).below hW (by simp)
  have HRes := Lib.hid hres
  clear hres
  have hgt : (65536 : Int) < ((bs doc).size : Int) := by omega
  have hf := fail_any 2 1 1 ((w.alloc (.cells #[.slice none 0 0] 23)).alloc (.cells #[.nilIface] 25))
  go_enter_defers Tryz.func9, Tryz.ntmps9
  go_wp2_with (go_at_call 17; refine hf.mono ?_; rintro e w2 ⟨⟨fb, rfl, hfc⟩, hfb⟩)
  have hR2 := HRes.out _ hfb
  obtain ⟨r0, r1, z0, z1⟩ := hR2.cells
  refine leaves_cons (f := 16) (args := #[.pointer (some ⟨w.heap.size, 0, none⟩), .pointer (some ⟨w.heap.size + 1, 0, none⟩)]) (by simp) (by simp [go_sem]) ?_
  refine (catch_panicking ⟨w.heap.size, 0, none⟩ ⟨w.heap.size + 1, 0, none⟩ (by simp) _ _ ⟨fb, 0, none⟩ [] w2 r0 z0 r1 z1).mono ?_
  rintro e u' w'' ⟨rfl, rfl, rfl⟩
  obtain ⟨q0, q1⟩ := hR2.read (.slice none 0 0) (.iface 45 (.pointer (some ⟨fb, 0, none⟩)))
  have hfin := hR2.fault (er := (2, (1, 1))) (lv := .slice none 0 0) (ev := .iface 45 (.pointer (some ⟨fb, 0, none⟩))) hfc
  have hbel : Below w.heap.size w2 ((w2.setCell ⟨w.heap.size, 0, none⟩ (.slice none 0 0)).setCell ⟨w.heap.size + 1, 0, none⟩ (.iface 45 (.pointer (some ⟨fb, 0, none⟩)))) := ((Below.refl _ _).setCell (p := ⟨w.heap.size, 0, none⟩) (Nat.le_refl _) _).setCell (p := ⟨w.heap.size + 1, 0, none⟩) (by simp) _
  generalize ((w2.setCell ⟨w.heap.size, 0, none⟩ (.slice none 0 0)).setCell ⟨w.heap.size + 1, 0, none⟩ (.iface 45 (.pointer (some ⟨fb, 0, none⟩)))) = W at q0 q1 hfin hbel ⊢
  simp [Leaves, settle, results, Tryz.results9, go_sem, q0, q1]
  exact ⟨fb, rfl, hfin, ((res_below w).trans (hfb.mono (by simp; omega))).trans hbel⟩

set_option maxHeartbeats 8000000 in
set_option maxRecDepth 100000 in
theorem tokens_chars (doc : List UInt8) (hl : doc.length ≤ 65536) (w : World) (hlow : Low w) (h12 : 12 ≤ w.heap.size) (er : K.Er) (hc : CF doc (1, 1) [] = .error er) :
    Calls Tryz.prog 9 #[.string (bs doc)] w (TokRet (.error er) w) := by
  have hmf : ∀ (fn : Fn) (first cap : Array Value) (w : World), (Instr.makeFunc fn first cap).run Tryz.prog w = .ok (.func fn first cap) w := fun _ _ _ _ => rfl
  have hsz := bs_size doc
  have hres : ∀ W, Below ((w.alloc (.cells #[.slice none 0 0] 23)).alloc (.cells #[.nilIface] 25)).heap.size ((w.alloc (.cells #[.slice none 0 0] 23)).alloc (.cells #[.nilIface] 25)) W → Res w.heap.size W := fun W hW => (res_new w).below hW (by simp)
  have HRes := Lib.hid hres
  clear hres
  have hlow0 : Low ((w.alloc (.cells #[.slice none 0 0] 23)).alloc (.cells #[.nilIface] 25)) := hlow.below (res_below w) h12
  have hsz0 : w.heap.size + 2 = ((w.alloc (.cells #[.slice none 0 0] 23)).alloc (.cells #[.nilIface] 25)).heap.size := by simp
  have hch := characters_any doc hl _ hlow0 (by omega)
  rw [hc] at hch
  have hch : Calls Tryz.prog 19 #[.string (bs doc)] ((w.alloc (.cells #[.slice none 0 0] 23)).alloc (.cells #[.nilIface] 25)) fun e w' => Fell er e w' ∧ Below ((w.alloc (.cells #[.slice none 0 0] 23)).alloc (.cells #[.nilIface] 25)).heap.size ((w.alloc (.cells #[.slice none 0 0] 23)).alloc (.cells #[.nilIface] 25)) w' := hch
  have hle : ((bs doc).size : Int) ≤ 65536 := by omega
  clear hc hlow hlow0
  go_enter_defers Tryz.func9, Tryz.ntmps9
  go_wp2_with (go_at_call 19; refine hch.mono ?_; rintro e w2 ⟨⟨fb, rfl, hfc⟩, hfb⟩)
  have hR2 := HRes.out _ hfb
  obtain ⟨r0, r1, z0, z1⟩ := hR2.cells
  refine leaves_cons (f := 16) (args := #[.pointer (some ⟨w.heap.size, 0, none⟩), .pointer (some ⟨w.heap.size + 1, 0, none⟩)]) (by simp) (by simp [go_sem]) ?_
  refine (catch_panicking ⟨w.heap.size, 0, none⟩ ⟨w.heap.size + 1, 0, none⟩ (by simp) _ _ ⟨fb, 0, none⟩ [] w2 r0 z0 r1 z1).mono ?_
  rintro e u' w'' ⟨rfl, rfl, rfl⟩
  obtain ⟨q0, q1⟩ := hR2.read (.slice none 0 0) (.iface 45 (.pointer (some ⟨fb, 0, none⟩)))
  have hfin := hR2.fault (er := er) (lv := .slice none 0 0) (ev := .iface 45 (.pointer (some ⟨fb, 0, none⟩))) hfc
  have hbel : Below w.heap.size w2 ((w2.setCell ⟨w.heap.size, 0, none⟩ (.slice none 0 0)).setCell ⟨w.heap.size + 1, 0, none⟩ (.iface 45 (.pointer (some ⟨fb, 0, none⟩)))) := ((Below.refl _ _).setCell (p := ⟨w.heap.size, 0, none⟩) (Nat.le_refl _) _).setCell (p := ⟨w.heap.size + 1, 0, none⟩) (by simp) _
  generalize ((w2.setCell ⟨w.heap.size, 0, none⟩ (.slice none 0 0)).setCell ⟨w.heap.size + 1, 0, none⟩ (.iface 45 (.pointer (some ⟨fb, 0, none⟩)))) = W at q0 q1 hfin hbel ⊢
  simp [Leaves, settle, results, Tryz.results9, go_sem, q0, q1]
  exact ⟨fb, rfl, hfin, ((res_below w).trans (hfb.mono (by simp; omega))).trans hbel⟩

set_option maxHeartbeats 8000000 in
set_option maxRecDepth 100000 in
theorem tokens_wrong (doc : List UInt8) (hl : doc.length ≤ 65536) (w : World) (hlow : Low w) (h12 : 12 ≤ w.heap.size) (cs : List Nat) (hc : CF doc (1, 1) [] = .ok cs) (er : K.Er) (hd : K.document cs = .error er) :
    Calls Tryz.prog 9 #[.string (bs doc)] w (TokRet (.error er) w) := by
  have hmf : ∀ (fn : Fn) (first cap : Array Value) (w : World), (Instr.makeFunc fn first cap).run Tryz.prog w = .ok (.func fn first cap) w := fun _ _ _ _ => rfl
  have hsz := bs_size doc
  have hres : ∀ W, Below ((w.alloc (.cells #[.slice none 0 0] 23)).alloc (.cells #[.nilIface] 25)).heap.size ((w.alloc (.cells #[.slice none 0 0] 23)).alloc (.cells #[.nilIface] 25)) W → Res w.heap.size W := fun W hW => (res_new w).below hW (by simp)
  have HRes := Lib.hid hres
  clear hres
  have hlow0 : Low ((w.alloc (.cells #[.slice none 0 0] 23)).alloc (.cells #[.nilIface] 25)) := hlow.below (res_below w) h12
  have hsz0 : w.heap.size + 2 = ((w.alloc (.cells #[.slice none 0 0] 23)).alloc (.cells #[.nilIface] 25)).heap.size := by simp
  have hch := characters_any doc hl _ hlow0 (by omega)
  obtain ⟨hsc, hn8⟩ := CF_facts doc.length doc (Nat.le_refl _) _ _ _ hc (fun y hy => by cases hy)
  have hn8 : (U.n8 cs).length ≤ 65536 := by have : (U.n8 []).length = 0 := rfl; omega
  rw [hc] at hch
  have hch : Calls Tryz.prog 19 #[.string (bs doc)] ((w.alloc (.cells #[.slice none 0 0] 23)).alloc (.cells #[.nilIface] 25)) fun e w' => e = .returned (.string (bs (U.n8 cs))) ∧ Below ((w.alloc (.cells #[.slice none 0 0] 23)).alloc (.cells #[.nilIface] 25)).heap.size ((w.alloc (.cells #[.slice none 0 0] 23)).alloc (.cells #[.nilIface] 25)) w' := hch
  have hnw : ∀ W, Below ((w.alloc (.cells #[.slice none 0 0] 23)).alloc (.cells #[.nilIface] 25)).heap.size ((w.alloc (.cells #[.slice none 0 0] 23)).alloc (.cells #[.nilIface] 25)) W → Calls Tryz.prog 18 #[.string (bs (U.n8 cs))] W (NewRet cs W.heap.size W) := fun W hW => newReader_any cs hn8 hsc W (hlow0.below hW (by omega)) (by have := hW.size; omega)
  have hdc : ∀ (b mm B : Nat) (x : X6) (W : World), Inv b mm B (cs, (1, 1)) t0 x W → 12 ≤ B → Calls Tryz.prog 20 #[.pointer (some ⟨b, 0, none⟩)] W fun e w' => Fell er e w' ∧ Below B W w' := by
    intro b mm B x W hI hB
    have := document_any b mm B cs x W hI hB
    rw [hd] at this
    exact this
  have hle : ((bs doc).size : Int) ≤ 65536 := by omega
  have HNw := Lib.hid hnw
  have HDc := Lib.hid hdc
  clear hc hlow hlow0 hnw hdc hd hsc hn8
  go_enter_defers Tryz.func9, Tryz.ntmps9
  go_wp2_with (first
    | (go_at_call 19; refine hch.mono ?_; rintro e w2 ⟨rfl, hb2⟩; have hn := HNw.out _ hb2; have HB2 := Lib.hid hb2; clear hb2)
    | (go_at_call 18; refine hn.mono ?_; rintro e w3 ⟨b, mm, x, rfl, hI, hb3⟩; have hdd := HDc.out _ _ _ _ _ hI (by have := HB2.out.size; omega); have HB3 := Lib.hid (HB2.out.trans (hb3.mono HB2.out.size)); clear hI)
    | (go_at_call 20; refine hdd.mono ?_; rintro e w4 ⟨⟨fb, rfl, hfc⟩, hfb4⟩))
  have hfb : Below ((w.alloc (.cells #[.slice none 0 0] 23)).alloc (.cells #[.nilIface] 25)).heap.size ((w.alloc (.cells #[.slice none 0 0] 23)).alloc (.cells #[.nilIface] 25)) w4 := HB3.out.trans (hfb4.mono HB2.out.size)
  have hR2 := HRes.out _ hfb
  obtain ⟨r0, r1, z0, z1⟩ := hR2.cells
  refine leaves_cons (f := 16) (args := #[.pointer (some ⟨w.heap.size, 0, none⟩), .pointer (some ⟨w.heap.size + 1, 0, none⟩)]) (by simp) (by simp [go_sem]) ?_
  refine (catch_panicking ⟨w.heap.size, 0, none⟩ ⟨w.heap.size + 1, 0, none⟩ (by simp) _ _ ⟨fb, 0, none⟩ [] w4 r0 z0 r1 z1).mono ?_
  rintro e u' w'' ⟨rfl, rfl, rfl⟩
  obtain ⟨q0, q1⟩ := hR2.read (.slice none 0 0) (.iface 45 (.pointer (some ⟨fb, 0, none⟩)))
  have hfin := hR2.fault (er := er) (lv := .slice none 0 0) (ev := .iface 45 (.pointer (some ⟨fb, 0, none⟩))) hfc
  have hbel : Below w.heap.size w4 ((w4.setCell ⟨w.heap.size, 0, none⟩ (.slice none 0 0)).setCell ⟨w.heap.size + 1, 0, none⟩ (.iface 45 (.pointer (some ⟨fb, 0, none⟩)))) := ((Below.refl _ _).setCell (p := ⟨w.heap.size, 0, none⟩) (Nat.le_refl _) _).setCell (p := ⟨w.heap.size + 1, 0, none⟩) (by simp) _
  generalize ((w4.setCell ⟨w.heap.size, 0, none⟩ (.slice none 0 0)).setCell ⟨w.heap.size + 1, 0, none⟩ (.iface 45 (.pointer (some ⟨fb, 0, none⟩)))) = W at q0 q1 hfin hbel ⊢
  simp [Leaves, settle, results, Tryz.results9, go_sem, q0, q1]
  exact ⟨fb, rfl, hfin, ((res_below w).trans (hfb.mono (by simp; omega))).trans hbel⟩

set_option maxHeartbeats 8000000 in
set_option maxRecDepth 100000 in
theorem tokens_ok (doc : List UInt8) (hl : doc.length ≤ 65536) (w : World) (hlow : Low w) (h12 : 12 ≤ w.heap.size) (cs : List Nat) (hc : CF doc (1, 1) [] = .ok cs) (toks : List K.Tk) (hd : K.document cs = .ok toks) :
    Calls Tryz.prog 9 #[.string (bs doc)] w (TokRet (.ok toks) w) := by
  have hmf : ∀ (fn : Fn) (first cap : Array Value) (w : World), (Instr.makeFunc fn first cap).run Tryz.prog w = .ok (.func fn first cap) w := fun _ _ _ _ => rfl
  have hsz := bs_size doc
  have hres : ∀ W, Below ((w.alloc (.cells #[.slice none 0 0] 23)).alloc (.cells #[.nilIface] 25)).heap.size ((w.alloc (.cells #[.slice none 0 0] 23)).alloc (.cells #[.nilIface] 25)) W → Res w.heap.size W := fun W hW => (res_new w).below hW (by simp)
  have HRes := Lib.hid hres
  clear hres
  have hlow0 : Low ((w.alloc (.cells #[.slice none 0 0] 23)).alloc (.cells #[.nilIface] 25)) := hlow.below (res_below w) h12
  have hsz0 : w.heap.size + 2 = ((w.alloc (.cells #[.slice none 0 0] 23)).alloc (.cells #[.nilIface] 25)).heap.size := by simp
  have hch := characters_any doc hl _ hlow0 (by omega)
  obtain ⟨hsc, hn8⟩ := CF_facts doc.length doc (Nat.le_refl _) _ _ _ hc (fun y hy => by cases hy)
  have hn8 : (U.n8 cs).length ≤ 65536 := by have : (U.n8 []).length = 0 := rfl; omega
  rw [hc] at hch
  have hch : Calls Tryz.prog 19 #[.string (bs doc)] ((w.alloc (.cells #[.slice none 0 0] 23)).alloc (.cells #[.nilIface] 25)) fun e w' => e = .returned (.string (bs (U.n8 cs))) ∧ Below ((w.alloc (.cells #[.slice none 0 0] 23)).alloc (.cells #[.nilIface] 25)).heap.size ((w.alloc (.cells #[.slice none 0 0] 23)).alloc (.cells #[.nilIface] 25)) w' := hch
  have hnw : ∀ W, Below ((w.alloc (.cells #[.slice none 0 0] 23)).alloc (.cells #[.nilIface] 25)).heap.size ((w.alloc (.cells #[.slice none 0 0] 23)).alloc (.cells #[.nilIface] 25)) W → Calls Tryz.prog 18 #[.string (bs (U.n8 cs))] W (NewRet cs W.heap.size W) := fun W hW => newReader_any cs hn8 hsc W (hlow0.below hW (by omega)) (by have := hW.size; omega)
  have hdc : ∀ (b mm B : Nat) (x : X6) (W : World), Inv b mm B (cs, (1, 1)) t0 x W → 12 ≤ B → Calls Tryz.prog 20 #[.pointer (some ⟨b, 0, none⟩)] W fun e w' => e = .returned (.tuple #[]) ∧ ∃ s p x', Inv b mm B s ⟨toks, [], p⟩ x' w' ∧ Below B W w' := by
    intro b mm B x W hI hB
    have := document_any b mm B cs x W hI hB
    rw [hd] at this
    exact this
  have hle : ((bs doc).size : Int) ≤ 65536 := by omega
  have HNw := Lib.hid hnw
  have HDc := Lib.hid hdc
  clear hc hlow hlow0 hnw hdc hd hsc hn8
  go_enter_defers Tryz.func9, Tryz.ntmps9
  go_wp2_with (first
    | (go_at_call 19; refine hch.mono ?_; rintro e w2 ⟨rfl, hb2⟩; have hn := HNw.out _ hb2; have HB2 := Lib.hid hb2; clear hb2)
    | (go_at_call 18; refine hn.mono ?_; rintro e w3 ⟨b, mm, x, rfl, hI, hb3⟩; have hdd := HDc.out _ _ _ _ _ hI (by have := HB2.out.size; omega); have HB3 := Lib.hid (HB2.out.trans (hb3.mono HB2.out.size)); clear hI hb3)
    | (go_at_call 20; refine hdd.mono ?_; rintro e w4 ⟨rfl, s4, p4, x4, hI4, hb4⟩; have hfb : Below ((w.alloc (.cells #[.slice none 0 0] 23)).alloc (.cells #[.nilIface] 25)).heap.size ((w.alloc (.cells #[.slice none 0 0] 23)).alloc (.cells #[.nilIface] 25)) w4 := HB3.out.trans (hb4.mono HB2.out.size); have hR4 := HRes.out _ hfb; obtain ⟨r0, r1, z0, z1⟩ := hR4.cells; obtain ⟨xs4, ho4, ht4⟩ := hI4.list; obtain ⟨ap, an, ac, hav⟩ := own_slice ho4; have k4 : w4.cell? ⟨b, 4, none⟩ = some (.slice ap an ac) := (by rw [Lib.cell_of_heap hI4.heap, ← hav]; rfl); rw [hav] at ho4; have HO4 := Lib.hid ho4; have HT4 := Lib.hid ht4; clear ho4 ht4 hav; have HR4 := Lib.hid hR4; have HI4 := Lib.hid hI4; have HFb := Lib.hid hfb; clear hR4 hI4 hfb hb4))
  have hR4 := HR4.out
  refine leaves_cons (f := 16) (args := #[.pointer (some ⟨w.heap.size, 0, none⟩), .pointer (some ⟨w.heap.size + 1, 0, none⟩)]) (by simp) (by simp [go_sem]) ?_
  refine (catch_idle ⟨w.heap.size, 0, none⟩ ⟨w.heap.size + 1, 0, none⟩ _).mono ?_
  rintro e u' w'' ⟨rfl, rfl, rfl⟩
  obtain ⟨q0, q1⟩ := hR4.read (.slice ap an ac) .nilIface
  have hk : ∀ T, T ≠ 23 → T ≠ 25 → KeepT T w4 ((w4.setCell ⟨w.heap.size, 0, none⟩ (.slice ap an ac)).setCell ⟨w.heap.size + 1, 0, none⟩ .nilIface) := fun T h1 h2 => (KeepT.set hR4.1 h1 0 _).trans (KeepT.set ((Below.heap_setCell _ _ _ _ (by simp)).trans hR4.2) h2 0 _)
  have hbel : Below w.heap.size w4 ((w4.setCell ⟨w.heap.size, 0, none⟩ (.slice ap an ac)).setCell ⟨w.heap.size + 1, 0, none⟩ .nilIface) := ((Below.refl _ _).setCell (p := ⟨w.heap.size, 0, none⟩) (Nat.le_refl _) _).setCell (p := ⟨w.heap.size + 1, 0, none⟩) (by simp) _
  have hle2 : w.heap.size ≤ w2.heap.size := by have := HB2.out.size; omega
  have hfin : ListAt w.heap.size toks (.slice ap an ac) ((w4.setCell ⟨w.heap.size, 0, none⟩ (.slice ap an ac)).setCell ⟨w.heap.size + 1, 0, none⟩ .nilIface) :=
    ⟨xs4, own_base ((hk 38 (by decide) (by decide)).own HO4.out) hle2, (HT4.out.keep (hk 40 (by decide) (by decide))).base hle2⟩
  generalize ((w4.setCell ⟨w.heap.size, 0, none⟩ (.slice ap an ac)).setCell ⟨w.heap.size + 1, 0, none⟩ .nilIface) = W at q0 q1 hfin hbel ⊢
  simp [Leaves, settle, results, Tryz.results9, go_sem, q0, q1]
  exact ⟨_, rfl, hfin, ((res_below w).trans (HFb.out.mono (by simp; omega))).trans hbel⟩

/-- xmltok.Tokens answers as the chapter says. -/
theorem tokens_any (doc : List UInt8) (hs : doc.length ≤ 140737488355328) (w : World) (hlow : Low w) (h12 : 12 ≤ w.heap.size) :
    Calls Tryz.prog 9 #[.string (bs doc)] w (TokRet (K.tokens doc) w) := by
  rw [tokens_eq]
  by_cases hl : 65536 < doc.length
  · rw [if_pos hl]
    exact tokens_long doc hl hs w
  · rw [if_neg hl]
    cases hc : CF doc (1, 1) [] with
    | error er => exact tokens_chars doc (by omega) w hlow h12 er hc
    | ok cs =>
      simp only
      cases hd : K.document cs with
      | error er => exact tokens_wrong doc (by omega) w hlow h12 cs hc er hd
      | ok toks => exact tokens_ok doc (by omega) w hlow h12 cs hc toks hd
end Go.Proofs.YtdilngjolhmjnaaGreatDoor
