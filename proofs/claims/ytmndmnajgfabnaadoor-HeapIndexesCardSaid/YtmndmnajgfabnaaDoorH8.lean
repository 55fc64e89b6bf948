/- Layer 8: an object's properties: put of an object's first key. Conditions: those that each theorem names. -/
import Derived.Test.YtmndmnajgfabnaaDoorH7
namespace Go.Proofs.YtmndmnajgfabnaaDoor
open Go.RowKit Go.Maps
set_option linter.all false

structure PutFirst (b : Nat) (c0 c1 c4 c5 c6 c7 : Value) (k : List UInt8) (v : V) (w w' : World) : Prop where
  ex : ∃ m r x, w.heap.size ≤ m ∧ m < r ∧ r < x ∧ x < w'.heap.size ∧ PropsR (some (m, r)) [(x, k, v)] w' ∧ w'.heap[b]? = some (.cells #[c0, c1, .map (some m), ptr r, c4, c5, c6, c7] 88 (0, 0))
  fr : Fr [b] w w'
set_option maxRecDepth 100000 in
set_option maxHeartbeats 2000000 in
theorem pPut_first (b : Nat) (c0 c1 c4 c5 c6 c7 : Value) (k : List UInt8) (hk : k.length ≤ maxLen) (vk : Int) (vn : Nat) (vt : List UInt8) (vr : Int) (w : World)
    (hb : w.heap[b]? = some (.cells #[c0, c1, .map none, .pointer none, c4, c5, c6, c7] 88 (0, 0))) :
    Calls Tryd.prog 70 #[.pointer (some ⟨b, 2, none⟩), .string (bs k), .agg #[.int .i64 vk, .float .f64 vn, .string (bs vt), .int .i64 vr]] w fun e w' => e = .returned (.tuple #[]) ∧ PutFirst b c0 c1 c4 c5 c6 c7 k ⟨vk, vn, vt, vr⟩ w w' := by
  have hlt : b < w.heap.size := lt_of_heap hb
  have hc2 : w.cell? ⟨b, 2, none⟩ = some (.map none) := blk_cell hb 2 _ rfl
  have hl' : ∀ o, (Instr.lookup 81 (.map none) (.string (bs k)) false).run Tryd.prog (w.alloc o) = .ok (.pointer none) (w.alloc o) := by
    intro o
    have h0 : PropsR none [] (w.alloc o) := rfl
    exact h0.look k hk
  have HBK := Lib.hid hb
  have HK := Lib.hid hk
  clear hb hk
  have hst := store_float
  have qT : ∀ (w : World), (binOp .eql 81 (.map none) (.map none)).run Tryd.prog w = .ok (.bool true) w := fun w => run_eql_map_nil w _ _ _ none Tryd.underlying81
  obtain ⟨S, hS⟩ : ∃ S, S = bs k := ⟨_, rfl⟩
  rw [← hS] at hl' ⊢
  obtain ⟨T, hT⟩ : ∃ T, T = bs vt := ⟨_, rfl⟩
  rw [← hT]
  have HS := Lib.hid hS
  have HT := Lib.hid hT
  clear hS hT
  have hopen : Calls Tryd.prog 79 #[.pointer (some ⟨b, 2, none⟩)] (w.alloc (.cells #[.int .i64 vk, .float .f64 vn, .string T, .int .i64 vr] 31)) fun e w' => e = .returned (.tuple #[]) ∧ Opened b c0 c1 c4 c5 c6 c7 (w.alloc (.cells #[.int .i64 vk, .float .f64 vn, .string T, .int .i64 vr] 31)) w' :=
    pOpen_any b c0 c1 c4 c5 c6 c7 _ (by rw [Below.heap_alloc _ _ _ hlt]; exact HBK.out)
  go_enter Tryd.func70, Tryd.ntmps70
  go_wp2_with (go_at_call 79; refine hopen.mono ?_)
  rintro e W0 ⟨rfl, hO⟩
  have hbx : (w.alloc (.cells #[.int .i64 vk, .float .f64 vn, .string T, .int .i64 vr] 31)).heap[w.heap.size]? = some (.cells #[.int .i64 vk, .float .f64 vn, .string T, .int .i64 vr] 31 (0, 0)) := heap_new w _
  have hbx0 : W0.heap[w.heap.size]? = some (.cells #[.int .i64 vk, .float .f64 vn, .string T, .int .i64 vr] 31 (0, 0)) := by
    rw [hO.fr.block _ (by rw [heap_size]; omega) (by simp; omega)]; exact hbx
  have hP0 := hO.props
  have hB0 := hO.blk
  have hS0 := hO.size
  have hF0 : Fr [b] w W0 := ((Fr.alloc w _).mono (fun _ h => by cases h)).trans hO.fr (fun _ h => Or.inl h)
  rw [heap_size] at hP0 hB0 hS0
  obtain ⟨m, hm⟩ : ∃ m, m = w.heap.size + 1 := ⟨_, rfl⟩
  obtain ⟨r, hr⟩ : ∃ r, r = w.heap.size + 1 + 1 := ⟨_, rfl⟩
  rw [← hr, ← hm] at hP0 hB0
  have hrl : r < W0.heap.size := by omega
  have hml : m < W0.heap.size := by omega
  have hbl : b < W0.heap.size := by omega
  have hmr : m ≠ r := by omega
  have hbr : b ≠ r := by omega
  have hbm : b ≠ m := by omega
  have x1 : W0.cell? ⟨w.heap.size, 0, none⟩ = some (.int .i64 vk) := blk_cell hbx0 0 _ rfl
  have x2 : W0.cell? ⟨w.heap.size, 1, none⟩ = some (.float .f64 vn) := blk_cell hbx0 1 _ rfl
  have x3 : W0.cell? ⟨w.heap.size, 2, none⟩ = some (.string T) := blk_cell hbx0 2 _ rfl
  have x4 : W0.cell? ⟨w.heap.size, 3, none⟩ = some (.int .i64 vr) := blk_cell hbx0 3 _ rfl
  have y3 : W0.cell? ⟨b, 3, none⟩ = some (.pointer (some ⟨r, 0, none⟩)) := blk_cell hB0 3 _ rfl
  have y5 : W0.cell? ⟨r, 5, none⟩ = some (.pointer (some ⟨r, 0, none⟩)) := hP0.2.2.2.2
  have HS0 := Lib.hid hS0
  have HF0 := Lib.hid hF0
  have HP0 := Lib.hid hP0
  have HB0 := Lib.hid hB0
  have HM := Lib.hid hm
  have HR := Lib.hid hr
  have HML := Lib.hid hml
  have HRL := Lib.hid hrl
  have HBL := Lib.hid hbl
  clear hopen hl' hc2 HBK hO hbx hbx0 hP0 hB0 hS0 hF0 hm hr hml hrl hbl
  go_wp2
  go_region
  have e1 := heap_new W0 (.cells #[.string S, .int .i64 vk, .float .f64 vn, .string T, .int .i64 vr, .pointer (some ⟨r, 0, none⟩), .pointer (some ⟨r, 0, none⟩)] 114)
  have r1 : Fr [] W0 (W0.alloc (.cells #[.string S, .int .i64 vk, .float .f64 vn, .string T, .int .i64 vr, .pointer (some ⟨r, 0, none⟩), .pointer (some ⟨r, 0, none⟩)] 114)).drew := (Fr.alloc _ _).drew
  have s1 : (W0.alloc (.cells #[.string S, .int .i64 vk, .float .f64 vn, .string T, .int .i64 vr, .pointer (some ⟨r, 0, none⟩), .pointer (some ⟨r, 0, none⟩)] 114)).drew.heap.size = W0.heap.size + 1 := by rw [heap_drew, heap_size]
  rw [← heap_drew] at e1
  obtain ⟨x, hx⟩ : ∃ x, x = W0.heap.size := ⟨_, rfl⟩
  rw [← hx] at e1 ⊢
  generalize (W0.alloc (.cells #[.string S, .int .i64 vk, .float .f64 vn, .string T, .int .i64 vr, .pointer (some ⟨r, 0, none⟩), .pointer (some ⟨r, 0, none⟩)] 114)).drew = W1 at e1 r1 s1 ⊢
  have H1 : PropsR (some (m, r)) [] W1 := HP0.out.keep (fun b hb => r1.block b (by
    simp only [blocksR, List.map_nil, List.mem_cons, List.not_mem_nil, or_false] at hb
    rcases hb with rfl | rfl
    · exact HML.out
    · exact HRL.out) List.not_mem_nil)
  have hB1 : W1.heap[b]? = _ := (r1.block b HBL.out List.not_mem_nil).trans HB0.out
  have k2 : W1.cell? ⟨b, 2, none⟩ = some (.map (some m)) := blk_cell hB1 2 _ rfl
  have x5 : W1.cell? ⟨x, 5, none⟩ = some (.pointer (some ⟨r, 0, none⟩)) := blk_cell e1 5 _ rfl
  have x6 : W1.cell? ⟨x, 6, none⟩ = some (.pointer (some ⟨r, 0, none⟩)) := blk_cell e1 6 _ rfl
  have r6 : W1.cell? ⟨r, 6, none⟩ = some (.pointer (some ⟨r, 0, none⟩)) := H1.2.2.2.1
  have r5 : W1.cell? ⟨r, 5, none⟩ = some (.pointer (some ⟨r, 0, none⟩)) := H1.2.2.2.2
  have hxr : x ≠ r := by have := HRL.out; omega
  have hxm : x ≠ m := by have := HML.out; omega
  have rf6 := H1.2.1.free 6
  have rf5 := H1.2.1.free 5
  have hM3 : MapP Tryd.prog 9 m (keysB []) ((W1.setCell ⟨r, 6, none⟩ (.pointer (some ⟨x, 0, none⟩))).setCell ⟨r, 5, none⟩ (.pointer (some ⟨x, 0, none⟩))) :=
    H1.1.keep ((heap_set_other hmr 5 _).trans (heap_set_other hmr 6 _))
  obtain ⟨w4, hrun, hM4, ht4⟩ := hM3.put (T := 81) (E := 82) Tryd.underlying9 Tryd.underlying81 (by unfold maxLen keysB; simp) k HK.out S (by rw [HS.out]; rfl) x rfl
  have hfin : PutFirst b c0 c1 c4 c5 c6 c7 k ⟨vk, vn, vt, vr⟩ w w4 := by
    have hxN : Nd x W1 := ⟨_, e1, rfl⟩
    have e1' := e1
    rw [HS.out, HT.out] at e1'
    have hxP : Pay x k ⟨vk, vn, vt, vr⟩ W1 := ⟨blk_cell e1' 0 _ rfl, blk_cell e1' 1 _ rfl, blk_cell e1' 2 _ rfl, blk_cell e1' 3 _ rfl, blk_cell e1' 4 _ rfl⟩
    have hs4 : w4.heap.size = W0.heap.size + 1 := by rw [turned_size ht4, heap_size_set, heap_size_set, s1]
    have h0 := HS0.out
    have h1 := HM.out
    have h2 := HR.out
    refine ⟨⟨m, r, x, by omega, by omega, by omega, by omega, H1.snoc (q := r) (by unfold ApartR; simp [hmr]) hxN hxP x5 x6 rfl (by simp [hxm, hxr]) hM4 ht4, ?_⟩, ?_⟩
    · rw [turned_heap ht4 hbm, heap_set_other hbr, heap_set_other hbr]; exact hB1
    · have g1 : Fr [b] w W1 := HF0.out.trans r1 (fun _ h => by cases h)
      have g2 : Fr [b] w (W1.setCell ⟨r, 6, none⟩ (.pointer (some ⟨x, 0, none⟩))) := g1.trans (Fr.set W1 r 6 _) (fun z hz => by simp only [List.mem_singleton] at hz; exact Or.inr (by omega))
      have g3 := g2.trans (Fr.set _ r 5 (.pointer (some ⟨x, 0, none⟩))) (fun z hz => by simp only [List.mem_singleton] at hz; exact Or.inr (by omega))
      exact g3.trans (Fr.turned ht4) (fun z hz => by simp only [List.mem_singleton] at hz; exact Or.inr (by omega))
  have HFIN := Lib.hid hfin
  clear hfin e1 r1 s1 H1 hx hM3 hM4 ht4 HK HS HT HS0 HF0 HP0 HB0 HM HR HML HRL HBL hB1
  go_wp2
  go_end0
  exact ⟨rfl, HFIN.out⟩
end Go.Proofs.YtmndmnajgfabnaaDoor
