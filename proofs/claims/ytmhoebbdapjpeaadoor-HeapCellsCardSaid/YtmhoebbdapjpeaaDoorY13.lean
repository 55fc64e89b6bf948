/- Layer 8: an append of so many zero items, as a row grows by make. Conditions: those that each theorem names. Layer 8: slices.Delete at a row's end. Conditions: those that each theorem names. Layer 8: an object's row of items is exchanged; resize. Conditions: those that each theorem names. Layer 8: resize. Conditions: those that each theorem names. -/
import Derived.Test.YtmhoebbdapjpeaaDoorY12
import Derived.Laws.MakeOwn
import Derived.Deep.RegionWith
namespace Go.Proofs.YtmhoebbdapjpeaaDoor
open Go.RowKit Go.Maps
set_option linter.all false

theorem zeroCells_size (z : Array Value) (n : Nat) : (Builtin.zeroCells z n).size = n * z.size := by simp [Builtin.zeroCells]
/-- The cells of so many zero items. -/
def zeroL (z : Value) (m : Nat) : List Value := (Builtin.zeroCells z.cells m).toList
theorem zeroL_length (z : Value) (m size : Nat) (hzs : z.cells.size = size) : (zeroL z m).length = m * size := by
  unfold zeroL
  rw [Array.length_toList, zeroCells_size, hzs]
theorem zeroL_one (z : Value) (m : Nat) (h : ∀ u ∈ z.cells, u.oneCell' = true) (h0 : 0 < z.cells.size) : ∀ u ∈ zeroL z m, u.oneCell' = true := by
  intro u hu
  unfold zeroL Builtin.zeroCells at hu
  rw [Array.mem_toList_iff, Array.mem_map] at hu
  obtain ⟨i, hi, rfl⟩ := hu
  have hlt : i % z.cells.size < z.cells.size := Nat.mod_lt _ h0
  rw [getElem!_pos z.cells _ hlt]
  exact h _ (Array.getElem_mem hlt)
section
variable {P : Program} (w : World)
theorem run_append_zeros (t u ty e : TypeId) (i : TypeInfo) (z : Value) (size bytes : Nat) (kk : IntKind) (ht : P.underlying t = some (.slice e)) (hu : P.underlying u = some (.int kk)) (hi : P.info? e = some i) (hz : i.zero = some z)
    (hsize : i.size = size) (hby : i.bytes = bytes) (hzs : z.cells.size = size) (hsz : 0 < size) (hone : ∀ u ∈ z.cells, u.oneCell' = true)
    (v : Value) (n : Nat) (xs : List Value) (hown : w.ownsRow 0 e size v n xs) (m : Nat) (h63 : n + m ≤ maxLen) (hbytes : (n + m) * bytes ≤ 140737488355328) :
    ∃ v' w', (Builtin.append_ #[t, u] ty #[v, .int .i64 (m : Int)]).run P w = .ok v' w' ∧ w'.ownsRow 0 e size v' (n + m) (xs ++ zeroL z m) ∧ w.grownBy w' v.ownBlock ∧ (∀ g, v'.ownBlock = some g → v.ownBlock = some g ∨ w.heap.size ≤ g) := by
  subst hsize
  subst hby
  have hsmall : n + m ≤ 9223372036854775807 := by simp only [maxLen] at h63; omega
  have hnl : (zeroL z m).length = m * i.size := zeroL_length z m _ hzs
  have hlen : (xs ++ zeroL z m).length = (n + m) * i.size := by rw [List.length_append, hown.1, hnl, Nat.add_mul]
  have wm : IntKind.i64.wrap (m : Int) = (m : Int) := by rw [IntKind.wrap_i64]; omega
  have m0 : ¬ ((m : Int) < 0) := by omega
  have mb : ¬ (281474976710656 < (m : Int) * (i.bytes : Int)) := by
    have h1 : m * i.bytes ≤ (n + m) * i.bytes := Nat.mul_le_mul_right _ (by omega)
    have h2 : ((m * i.bytes : Nat) : Int) = (m : Int) * (i.bytes : Int) := Int.natCast_mul _ _
    omega
  have h63' : ¬ (9223372036854775807 < ((n : Int) + (m : Int))) := by omega
  have hza : (zeroL z m).toArray = Builtin.zeroCells z.cells m := by unfold zeroL; rw [Array.toArray_toList]
  have hmz : m * i.size = 0 → zeroL z m = [] := fun h => List.eq_nil_of_length_eq_zero (by rw [hnl]; exact h)
  have grown : ∀ (old : Nat), old < n + m → ∀ (row : Option Nat),
      (w.drew.alloc (.cells (xs.toArray ++ Builtin.zeroCells z.cells m ++ Builtin.zeroCells z.cells (grownCap w (n + m) old e - (n + m))) e)).ownsRow 0 e i.size
        (.slice (some ⟨w.heap.size, 0, none⟩) (n + m) (grownCap w (n + m) old e)) (n + m) (xs ++ zeroL z m) ∧
      w.grownBy (w.drew.alloc (.cells (xs.toArray ++ Builtin.zeroCells z.cells m ++ Builtin.zeroCells z.cells (grownCap w (n + m) old e - (n + m))) e)) row := by
    intro old ho row
    have hge := grownCap_ge w (n + m) old e
    have hcm : grownCap w (n + m) old e ≤ maxLen := grownCap_le_maxLen w (n + m) old e h63
    refine ⟨⟨hlen, .inr ⟨w.heap.size, _, _, rfl, Nat.zero_le _, heap_alloc_new w.drew _, hge, hcm, ?_, ?_⟩⟩, ⟨rfl, rfl, rfl, by simp, fun k hk _ => Below.heap_alloc w.drew _ k hk⟩⟩
    · simp only [Array.size_append, List.size_toArray, size_zeroCells, hzs, hown.1, ← Nat.add_mul]
      congr 1
      omega
    · rw [← hza]
      simp only [Array.toList_append, List.append_assoc]
      rw [← List.append_assoc, ← hlen]
      exact List.take_left
  rcases hown.2 with ⟨rfl, rfl⟩ | ⟨g, cap, cur, rfl, hbg, hg, hnc, hcm, hcs, htake⟩
  · have hx : xs = [] := List.eq_nil_of_length_eq_zero (by simpa using hown.1)
    subst hx
    by_cases hm : m = 0
    · subst hm
      rw [hmz (by simp)]
      refine ⟨.slice none 0 0, w, ?_, World.ownsRow_nil w 0 e i.size, ⟨rfl, rfl, rfl, Nat.le_refl _, fun _ _ _ => rfl⟩, by simp [Value.ownBlock]⟩
      simp [Builtin.append_, run_underlying ht, run_underlying hu, sizeOf, typeInfo, hi, asInt, asIntOf, IntKind.wrap_i64]
    · have h0 : 0 < m := by omega
      have hn : ¬ (m * i.size = 0) := by
        intro h
        rcases Nat.mul_eq_zero.1 h with h | h <;> omega
      have h48' : ¬ (281474976710656 < Builtin.nextslicecap m 0 * i.bytes) := by rw [nextslicecap_zero h0]; have hb := hbytes; simp only [Nat.zero_add] at hb; omega
      have h63'' : ¬ (9223372036854775807 < (m : Int)) := by omega
      have hgr := grown 0 (by omega) (Value.ownBlock (.slice none 0 0))
      simp only [Nat.zero_add, List.nil_append, Array.empty_append] at hgr ⊢
      refine ⟨_, _, ?_, hgr.1, hgr.2, ?_⟩
      · have hmm : ¬ (m = 0) := hm
        have hss : ¬ (i.size = 0) := by omega
        simp [Builtin.append_, run_underlying ht, run_underlying hu, sizeOf, typeInfo, zeroValue, hi, hz, asInt, asIntOf, wm, m0, mb, hmm, hss, h63'', h48', Question.forced, run_firstCells_none, newRow, grownCap]
        exact fun h => absurd h hn
      · intro g hg
        cases hg
        exact Or.inr (Nat.le_refl _)
  · by_cases hroom : n + m ≤ cap
    · have hfit : n * i.size + (zeroL z m).length ≤ cur.size := by rw [hnl, hcs, ← Nat.add_mul]; exact Nat.mul_le_mul_right _ hroom
      have hst := run_storeCells_at P g (n * i.size) e (zeroL z m) 0 cur w hg (by simpa using hfit) (zeroL_one z m hone (by omega))
      simp only [Nat.add_zero] at hst
      have hzt : Builtin.zeroCells z.cells m = (zeroL z m).toArray := hza.symm
      refine ⟨.slice (some ⟨g, 0, none⟩) (n + m) cap, w.setRow g (cur.toList.take (n * i.size) ++ zeroL z m ++ cur.toList.drop (n * i.size + (zeroL z m).length)).toArray, ?_, ⟨hlen, .inr ⟨g, cap, _, rfl, hbg, setRow_heap w g cur _ e _ hg, hroom, hcm, ?_, ?_⟩⟩, ⟨rfl, rfl, rfl, by simp, fun k _ hk => setRow_other w g k _ (fun e => hk (by simp [Value.ownBlock, e]))⟩, fun g hg => Or.inl hg⟩
      · by_cases hmm : m * i.size = 0
        · rw [hmz hmm] at hst ⊢
          simp [Builtin.append_, run_underlying ht, run_underlying hu, sizeOf, typeInfo, zeroValue, hi, hz, asInt, asIntOf, wm, m0, mb, hmm, hroom, Addr.add_lit, hst]
        · have hss : ¬ (i.size = 0) := by omega
          have hm1 : ¬ (m = 0) := fun h => hmm (by simp [h])
          simp [Builtin.append_, run_underlying ht, run_underlying hu, sizeOf, typeInfo, zeroValue, hi, hz, asInt, asIntOf, wm, m0, mb, hm1, hss, hmm, hroom, Addr.add_lit, hzt, hst]
      · simp only [List.size_toArray, List.length_append, List.length_take, List.length_drop, Array.length_toList]
        omega
      · rw [htake, ← hlen]
        exact List.take_left
    · have holds : ∀ j u, xs[j]? = some u → w.cell? ((⟨g, 0, none⟩ : Addr).add j) = some u := hown.cells (g := g) rfl
      have hn : ¬ (n + m ≤ cap) := hroom
      have hmz : ¬ (m * i.size = 0) := by
        intro h
        rcases Nat.mul_eq_zero.1 h with h | h <;> omega
      have hm1 : ¬ (m = 0) := by omega
      have hss : ¬ (i.size = 0) := by omega
      have h48' : ¬ (281474976710656 < Builtin.nextslicecap (n + m) cap * i.bytes) := by
        have := growslice_fits (need := n + m) (old := cap) (bytes := i.bytes) (by omega) hbytes
        omega
      have hfo := run_firstCells_some (P := P) w.drew i.size n ⟨g, 0, none⟩ n cap xs hown.1 (by simpa using holds)
      have hgr := grown cap (by omega) (Value.ownBlock (.slice (some ⟨g, 0, none⟩) n cap))
      refine ⟨_, _, ?_, hgr.1, hgr.2, ?_⟩
      · simp [Builtin.append_, run_underlying ht, run_underlying hu, sizeOf, typeInfo, zeroValue, hi, hz, asInt, asIntOf, wm, m0, mb, hm1, hss, hmz, hn, h63', h48', Question.forced, hfo, newRow, grownCap]
      · intro g' hg'
        cases hg'
        exact Or.inr (Nat.le_refl _)
end
end Go.Proofs.YtmhoebbdapjpeaaDoor
namespace Go.Proofs.YtmhoebbdapjpeaaDoor
open Go.RowKit Go.Maps
set_option linter.all false

theorem run_append_nothing {P : Program} (w : World) (t ty e : TypeId) (i : TypeInfo) (ht : P.underlying t = some (.slice e)) (hi : P.info? e = some i) (a : Addr) (n cap : Nat) (hn : n ≤ cap) (p : Option Addr) (c : Nat) :
    (Builtin.append_ #[t, t] ty #[.slice (some a) n cap, .slice p 0 c]).run P w = .ok (.slice (some a) n cap) w := by
  cases p with
  | none => simp [Builtin.append_, run_underlying ht, sizeOf, typeInfo, hi, Builtin.lenOf, Builtin.firstCells, hn, storeCells]
  | some b => simp [Builtin.append_, run_underlying ht, sizeOf, typeInfo, hi, Builtin.lenOf, Builtin.firstCells, loadCells, loadCellsFrom, hn, storeCells]
theorem run_clear {P : Program} (w : World) (t ty e : TypeId) (i : TypeInfo) (z : Value) (ht : P.underlying t = some (.slice e)) (hi : P.info? e = some i) (hz : i.zero = some z) (g o n c : Nat) (cur : Array Value) (hg : w.heap[g]? = some (.cells cur e (0, 0))) (hn : n ≠ 0) (hfit : o + n * z.cells.size ≤ cur.size) (hone : ∀ u ∈ z.cells, u.oneCell' = true) (h0 : 0 < z.cells.size) :
    (Builtin.clear_ #[t] ty #[.slice (some ⟨g, o, none⟩) n c]).run P w = .ok (.tuple #[]) (w.setRow g (cur.toList.take o ++ zeroL z n ++ cur.toList.drop (o + n * z.cells.size)).toArray) := by
  have hl := zeroL_length z n _ rfl
  have hst := run_storeCells_at P g o e (zeroL z n) 0 cur w hg (by rw [hl]; simpa using hfit) (zeroL_one z n hone h0)
  simp only [Nat.add_zero] at hst
  rw [hl] at hst
  have hst' : (storeCells ⟨g, o, none⟩ (Builtin.zeroCells z.cells n).toList 0).run P w = _ := hst
  simp [Builtin.clear_, run_underlying ht, zeroValue, typeInfo, hi, hz, hn, hst']
set_option maxRecDepth 100000 in
set_option maxHeartbeats 1000000 in
theorem delete_any (x n cap i : Nat) (l : List V) (w : World) (H : w.ownsRow 0 31 4 (.slice (some ⟨x, 0, none⟩) n cap) n (itemCells l)) (hl : l.length = n) (hi : i < n) (hn : n ≤ 100000) :
    Calls Tryd.prog 78 #[.slice (some ⟨x, 0, none⟩) n cap, .int .i64 (i : Int), .int .i64 (n : Int)] w fun e w' =>
      e = .returned (.slice (some ⟨x, 0, none⟩) i cap) ∧ w'.ownsRow 0 31 4 (.slice (some ⟨x, 0, none⟩) i cap) i (itemCells (l.take i)) ∧ Fr [x] w w' := by
  obtain ⟨i0, hi0, hz0, hz1, hz2⟩ := info_parts infoVal
  obtain ⟨cur, hcur, hnc, hcm, hcs, htake⟩ : ∃ cur : Array Value, w.heap[x]? = some (.cells cur 31 (0, 0)) ∧ n ≤ cap ∧ cap ≤ maxLen ∧ cur.size = cap * 4 ∧ cur.toList.take (n * 4) = itemCells l := by
    rcases H.2 with ⟨h, _⟩ | ⟨g, cap', cur, h, _, h1, h2, h3, h4, h5⟩
    · cases h
    · cases h
      exact ⟨cur, h1, h2, h3, h4, h5⟩
  have happ : ∀ (p : Option Addr) (c : Nat) (W : World), (Builtin.append_ #[35, 35] 35 #[.slice (some ⟨x, 0, none⟩) i cap, .slice p 0 c]).run Tryd.prog W = .ok (.slice (some ⟨x, 0, none⟩) i cap) W :=
    fun p c W => run_append_nothing W _ _ 31 i0 Tryd.underlying35 hi0 ⟨x, 0, none⟩ i cap (by omega) p c
  have hclr : ∀ (c : Nat) (W : World), W.heap[x]? = some (.cells cur 31 (0, 0)) → (Builtin.clear_ #[35] 0 #[.slice (some ⟨x, i * 4, none⟩) (n - i) c]).run Tryd.prog W = .ok (.tuple #[]) (W.setRow x (cur.toList.take (i * 4) ++ zeroL (.agg #[.int .i64 0, .float .f64 0, .string ⟨#[]⟩, .int .i64 0]) (n - i) ++ cur.toList.drop (i * 4 + (n - i) * 4)).toArray) := by
    intro c W hW
    exact run_clear W _ _ 31 i0 _ Tryd.underlying35 hi0 hz0 x (i * 4) (n - i) c cur hW (by omega) (by show i * 4 + (n - i) * 4 ≤ cur.size; omega) (by intro u hu; simp [Value.cells] at hu; rcases hu with rfl | rfl | rfl | rfl <;> rfl) (by decide)
  have hfin : ∀ W : World, W.heap = w.heap → W.os = w.os → W.tape = w.tape → W.output = w.output → 
      (W.setRow x (cur.toList.take (i * 4) ++ zeroL (.agg #[.int .i64 0, .float .f64 0, .string ⟨#[]⟩, .int .i64 0]) (n - i) ++ cur.toList.drop (i * 4 + (n - i) * 4)).toArray).ownsRow 0 31 4 (.slice (some ⟨x, 0, none⟩) i cap) i (itemCells (l.take i)) ∧
      Fr [x] w (W.setRow x (cur.toList.take (i * 4) ++ zeroL (.agg #[.int .i64 0, .float .f64 0, .string ⟨#[]⟩, .int .i64 0]) (n - i) ++ cur.toList.drop (i * 4 + (n - i) * 4)).toArray) := by
    intro W h1 h2 h3 h4
    have hil : itemCells (l.take i) = cur.toList.take (i * 4) := by
      have e : ∀ (l : List V) (i : Nat), itemCells (l.take i) = (itemCells l).take (i * 4) := by
        intro l
        induction l with
        | nil => intro i; simp [itemCells]
        | cons a l ih =>
          intro i
          cases i with
          | zero => simp [itemCells]
          | succ i =>
            rw [List.take_succ_cons, itemCells_cons, itemCells_cons, ih i, show (i + 1) * 4 = i * 4 + 1 + 1 + 1 + 1 by omega]
            rfl
      rw [e, ← htake, List.take_take]
      congr 1
      omega
    refine ⟨⟨?_, .inr ⟨x, cap, _, rfl, Nat.zero_le _, setRow_heap W x cur _ _ _ (by rw [h1]; exact hcur), by omega, hcm, ?_, ?_⟩⟩, ⟨h2, h3, h4, by simp [h1], fun k _ hk => by rw [← h1]; exact setRow_other W x k _ (fun e => hk (by simp [e]))⟩⟩
    · rw [hil, List.length_take, Array.length_toList, hcs]; omega
    · simp only [List.size_toArray, List.length_append, List.length_take, List.length_drop, Array.length_toList, zeroL_length (.agg #[.int .i64 0, .float .f64 0, .string ⟨#[]⟩, .int .i64 0]) _ 4 rfl]
      omega
    · rw [hil]
      simp only [List.append_assoc]
      rw [List.take_append_of_le_length (by rw [List.length_take, Array.length_toList]; omega), List.take_take]
      congr 1
      omega
  generalize (cur.toList.take (i * 4) ++ zeroL (.agg #[.int .i64 0, .float .f64 0, .string ⟨#[]⟩, .int .i64 0]) (n - i) ++ cur.toList.drop (i * 4 + (n - i) * 4)).toArray = R at hfin hclr
  have HFIN := Lib.hid hfin
  have hcur' : ∀ k, (w.drewN k).heap[x]? = some (.cells cur 31 (0, 0)) := fun k => hcur
  have i1 : ((i : Int) == (n : Int)) = false := beq_eq_false_iff_ne.2 (by omega)
  have j1 : (0 : Int) ≤ (i : Int) := by omega
  have j2 : (i : Int) ≤ (n : Int) := by omega
  have j3 : (n : Int) ≤ (cap : Int) := by omega
  have j4 : i ≤ cap := by omega
  have j5 : ¬ (n = i) := by omega
  have j6 : ¬ (cap = i) := by omega
  have hfc : ∀ (p : Option Addr) (c : Nat) (W : World), (Builtin.firstCells 4 0 (.slice p 0 c)).run Tryd.prog W = .ok #[] W := by
    intro p c W
    cases p <;> simp [Builtin.firstCells, loadCells, loadCellsFrom]
  have hsc : ∀ (a : Addr) (W : World), (storeCells a [] 0).run Tryd.prog W = .ok () W := fun a W => by simp [storeCells]
  have hc0 := hclr (cap - i) w.drew hcur
  clear hfin H hl hi hcm hcs htake hi0 hz0 hz1 hz2
  by_cases hcn : cap = n
  · subst hcn
    go_enter Tryd.func78, Tryd.ntmps78
    go_wp2
    go_region
    go_wp2
    go_ret
    exact ⟨rfl, HFIN.out w.drew rfl rfl rfl rfl⟩
  · go_enter Tryd.func78, Tryd.ntmps78
    go_wp2
    go_region
    go_wp2
    go_ret
    exact ⟨rfl, HFIN.out w.drew rfl rfl rfl rfl⟩
end Go.Proofs.YtmhoebbdapjpeaaDoor
namespace Go.Proofs.YtmhoebbdapjpeaaDoor
open Go.RowKit Go.Maps
set_option linter.all false

theorem Upd.row {h : Nat} {sv : Value} {left left' : Int} {o : Ob} {g : Gx} {w w2 : World} {items' : List V} {v' : Value} (H : ObAt o g w) (hh : HpC h sv left w) (hgh : h ∉ g.blocks) (hlt : ∀ y ∈ g.blocks, y < w.heap.size)
    (hrow : w2.ownsRow 0 31 4 v' items'.length (itemCells items')) (hf : Fr g.it.ownBlock.toList (w.setCell ⟨h, 1, none⟩ (.int .i64 left')) w2) (hfresh : ∀ b, v'.ownBlock = some b → g.it.ownBlock = some b ∨ w.heap.size ≤ b) :
    Upd h sv g { o with items := items' } left' w (w2.setCell ⟨g.blk, 4, none⟩ v') := by
  have hap := H.apart
  have hhl : h < w.heap.size := hh.lt
  unfold Gx.blocks at hap hgh hlt
  rw [List.nodup_cons, List.nodup_append] at hap
  obtain ⟨hap1, hap2, hap3, hap4⟩ := hap
  rw [List.mem_cons, List.mem_append, not_or, not_or] at hgh
  obtain ⟨hg1, hg2, hg3⟩ := hgh
  have s1 : (w.setCell ⟨h, 1, none⟩ (.int .i64 left')).heap.size = w.heap.size := heap_size_set _ _ _
  have hs2 : w.heap.size ≤ w2.heap.size := by have := hf.size; rw [s1] at this; exact this
  have hblk : g.blk < w.heap.size := hlt g.blk (by simp)
  have hkeep : ∀ y, y < w.heap.size → y ≠ h → y ∉ g.it.ownBlock.toList → w2.heap[y]? = w.heap[y]? := fun y hy h1 h2 => (hf.block y (by rw [s1]; exact hy) h2).trans (heap_set_other h1 1 _)
  have hbit : g.blk ∉ g.it.ownBlock.toList := fun hm => hap1 (List.mem_append_right _ hm)
  have kb : w2.heap[g.blk]? = some (.cells (objC o g) 88 (0, 0)) := (hkeep g.blk hblk (fun e => hg1 e.symm) hbit).trans H.blk
  have hvb : ∀ b, v'.ownBlock = some b → b ≠ g.blk ∧ b ≠ h ∧ b ∉ blocksR g.op g.L ∧ b < w2.heap.size := by
    intro b hb
    have hb2 := (hrow.lt b hb).2
    rcases hfresh b hb with h1 | h1
    · have hm : b ∈ g.it.ownBlock.toList := by rw [h1]; simp
      refine ⟨fun e => hbit (by rw [← e]; exact hm), fun e => hg3 (by rw [← e]; exact hm), fun hm2 => hap4 b hm2 b hm rfl, hb2⟩
    · refine ⟨by omega, by omega, fun hm2 => ?_, hb2⟩
      have := hlt b (List.mem_cons_of_mem _ (List.mem_append_left _ hm2))
      omega
  refine ⟨⟨{ g with it := v' }, rfl, ⟨?_, ?_, H.eq, ?_, H.keys, ?_⟩, ?_⟩, ?_, ?_⟩
  · exact heap_set kb 4 v'
  · refine H.props.keep (fun y hy => ?_)
    have hyl := hlt y (List.mem_cons_of_mem _ (List.mem_append_left _ hy))
    have hyb : y ≠ g.blk := fun e => hap1 (by rw [← e]; exact List.mem_append_left _ hy)
    exact (heap_set_other hyb 4 v').trans (hkeep y hyl (fun e => hg2 (by rw [← e]; exact hy)) (fun hm => hap4 y hy y hm rfl))
  · show (g.blk :: (blocksR g.op g.L ++ v'.ownBlock.toList)).Nodup
    rw [List.nodup_cons, List.nodup_append]
    refine ⟨fun hm => ?_, hap2, by cases v'.ownBlock <;> simp, fun a ha b hb e => ?_⟩
    · rcases List.mem_append.1 hm with hm | hm
      · exact hap1 (List.mem_append_left _ hm)
      · exact (hvb g.blk (by rwa [Option.mem_toList] at hm)).1 rfl
    · subst e
      exact (hvb a (by rwa [Option.mem_toList] at hb)).2.2.1 ha
  · exact row_keep hrow (fun b hb => heap_set_other (hvb b (by rwa [Option.mem_toList] at hb)).1 4 v')
  · intro b hb
    rw [heap_size_set]
    have hb' : b ∈ g.blk :: (blocksR g.op g.L ++ v'.ownBlock.toList) := hb
    rcases List.mem_cons.1 hb' with rfl | hb'
    · exact ⟨Or.inl (by simp [Gx.blocks]), by omega⟩
    · rcases List.mem_append.1 hb' with hm | hm
      · exact ⟨Or.inl (by unfold Gx.blocks; exact List.mem_cons_of_mem _ (List.mem_append_left _ hm)), by have := hlt b (List.mem_cons_of_mem _ (List.mem_append_left _ hm)); omega⟩
      · rw [Option.mem_toList] at hm
        refine ⟨?_, (hvb b hm).2.2.2⟩
        rcases hfresh b hm with h1 | h1
        · exact Or.inl (by unfold Gx.blocks; exact List.mem_cons_of_mem _ (List.mem_append_right _ (by rw [h1]; simp)))
        · exact Or.inr h1
  · have h1 : w2.heap[h]? = some (.cells #[sv, .int .i64 left'] 72 (0, 0)) := by
      rw [hf.block h (by rw [s1]; exact hhl) hg3]
      exact heap_set hh 1 _
    exact (heap_set_other (fun e => hg1 e) 4 v').trans h1
  · have f1 : Fr [h] w (w.setCell ⟨h, 1, none⟩ (.int .i64 left')) := Fr.set w h 1 _
    have f2 := (f1.mono (O' := h :: g.blocks) (fun z hz => Or.inl (by simp at hz; rw [hz]; exact List.mem_cons_self))).trans hf (fun z hz => Or.inl (List.mem_cons_of_mem _ (by unfold Gx.blocks; exact List.mem_cons_of_mem _ (List.mem_append_right _ hz))))
    exact f2.trans (Fr.set w2 g.blk 4 v') (fun z hz => Or.inl (by simp at hz; rw [hz]; exact List.mem_cons_of_mem _ (by simp [Gx.blocks])))
theorem itemCells_zeros (l : List V) (m : Nat) : itemCells (l ++ List.replicate m V.zero) = itemCells l ++ zeroL (.agg #[.int .i64 0, .float .f64 0, .string ⟨#[]⟩, .int .i64 0]) m := by
  have e : itemCells (List.replicate m V.zero) = zeroL (.agg #[.int .i64 0, .float .f64 0, .string ⟨#[]⟩, .int .i64 0]) m := by
    apply List.ext_getElem?
    intro j
    have hlen : ∀ m, (itemCells (List.replicate m V.zero)).length = m * 4 := by
      intro m
      induction m with
      | zero => rfl
      | succ m ih => rw [List.replicate_succ, itemCells_cons]; simp only [List.length_cons, ih]; omega
    by_cases hj : j < m * 4
    · have h2 : (zeroL (.agg #[.int .i64 0, .float .f64 0, .string ⟨#[]⟩, .int .i64 0]) m)[j]? = some ((#[.int .i64 0, .float .f64 0, .string ⟨#[]⟩, .int .i64 0] : Array Value)[j % 4]!) := by
        unfold zeroL Builtin.zeroCells
        rw [Array.getElem?_toList, Array.getElem?_map, Array.getElem?_range]
        show Option.map _ (if j < m * 4 then some j else none) = _
        rw [if_pos hj]
        rfl
      have h1 : ∀ (m j : Nat), j < m * 4 → (itemCells (List.replicate m V.zero))[j]? = some ((#[.int .i64 0, .float .f64 0, .string ⟨#[]⟩, .int .i64 0] : Array Value)[j % 4]!) := by
        intro m
        induction m with
        | zero => intro j hj; omega
        | succ m ih =>
          intro j hj
          rw [List.replicate_succ, itemCells_cons]
          match j, hj with
          | 0, _ => rfl
          | 1, _ => rfl
          | 2, _ => rfl
          | 3, _ => rfl
          | j + 4, hj =>
            have := ih j (by omega)
            simp only [List.getElem?_cons_succ]
            rw [this, Nat.add_mod_right]
      rw [h1 m j hj, h2]
    · rw [List.getElem?_eq_none (by rw [hlen]; omega), List.getElem?_eq_none (by rw [zeroL_length _ _ 4 rfl]; omega)]
  rw [← e]
  unfold itemCells
  rw [List.flatMap_append]
end Go.Proofs.YtmhoebbdapjpeaaDoor
namespace Go.Proofs.YtmhoebbdapjpeaaDoor
open Go.RowKit Go.Maps
set_option linter.all false

theorem wpList_append_run3 {P : Program} {w w' : World} {ops : Array Oper} {rest : List Oper} {o : Oper} {a : Act} {Q : Exit → Act → World → Prop} (hgd : o.guard = none) (s x : Operand) (t u : TypeId)
    (ho : o.op = .call { callee := .builtin .append, args := #[s, x], argTypes := #[t, u] }) (v y v' : Value) (hs : a.eval s = v) (hx : a.eval x = y) (hrun : (Builtin.append_ #[t, u] o.type #[v, y]).run P w = .ok v' w')
    (h : wpList P ops Q rest (a.put o.dst v') w') : wpList P ops Q (o :: rest) a w := by
  refine wpList_plain hgd fun K hK => ?_
  unfold Oper.wp execOp
  simp only [ho, resolve, invoke, builtin, Sem.run_bind, Sem.run_pure, Result.andThen_ok, List.map_toArray, List.map_cons, List.map_nil, hs, hx, hrun]
  exact hK _ _ h
set_option maxRecDepth 100000 in
set_option maxHeartbeats 2000000 in
theorem resize_more (h : Nat) (sv : Value) (left : Nat) (o : Ob) (g : Gx) (m : Nat) (hm : o.items.length ≤ m) (hm2 : m ≤ 100000) (hle : m - o.items.length ≤ left) (hleft : left ≤ 10000) (w : World)
    (hh : HpC h sv (left : Int) w) (hgh : h ∉ g.blocks) (H : ObAt o g w) (hlt : ∀ x ∈ g.blocks, x < w.heap.size) :
    Calls Tryd.prog 68 #[.pointer (some ⟨h, 0, none⟩), .pointer (some ⟨g.blk, 0, none⟩), .int .i64 (m : Int)] w fun e w' => e = .returned (.tuple #[]) ∧ Upd h sv g { o with items := o.items ++ List.replicate (m - o.items.length) V.zero } ((left - (m - o.items.length) : Nat) : Int) w w' := by
  obtain ⟨p, c, hit⟩ := row_slice H.items
  obtain ⟨M, hM⟩ : ∃ M, M = o.items.length := ⟨_, rfl⟩
  obtain ⟨d, hd⟩ : ∃ d, d = m - o.items.length := ⟨_, rfl⟩
  have hdm : M + d = m := by omega
  obtain ⟨left', hl'⟩ : ∃ l : Nat, l = left - d := ⟨_, rfl⟩
  have hhl := hh.lt
  have hgb : g.blk < w.heap.size := hlt g.blk (by simp [Gx.blocks])
  have hne : g.blk ≠ h := fun e => hgh (by rw [← e]; simp [Gx.blocks])
  obtain ⟨W1, hW1⟩ : ∃ W1, W1 = w.setCell ⟨h, 1, none⟩ (.int .i64 (left' : Int)) := ⟨_, rfl⟩
  have s1 : W1.heap.size = w.heap.size := by rw [hW1, heap_size_set]
  have hitb : ∀ b ∈ g.it.ownBlock.toList, b ≠ h := fun b hb e => hgh (by rw [← e]; unfold Gx.blocks; exact List.mem_cons_of_mem _ (List.mem_append_right _ hb))
  have hrow1 : W1.ownsRow 0 31 4 g.it M (itemCells o.items) := by
    rw [hM, hW1]
    exact row_keep H.items (fun b hb => heap_set_other (hitb b hb) 1 _)
  obtain ⟨i0, hi0, hz0, hz1, hz2⟩ := info_parts infoVal
  obtain ⟨v', w2, hrun, hrow2, hgr, hfresh⟩ := run_append_zeros (P := Tryd.prog) W1 35 3 35 31 i0 _ 4 40 .i64 Tryd.underlying35 Tryd.underlying3 hi0 hz0 hz1 hz2 rfl (by decide) (by intro u hu; simp [Value.cells] at hu; rcases hu with rfl | rfl | rfl | rfl <;> rfl)
    g.it M (itemCells o.items) hrow1 d (by unfold maxLen; omega) (by omega)
  have hrow2' : w2.ownsRow 0 31 4 v' (o.items ++ List.replicate d V.zero).length (itemCells (o.items ++ List.replicate d V.zero)) := by
    rw [itemCells_zeros, List.length_append, List.length_replicate, ← hM]
    exact hrow2
  obtain ⟨p2, c2, hv2⟩ := row_slice hrow2
  have hU := Upd.row (left' := (left' : Int)) H hh hgh hlt hrow2' (by rw [← hW1]; exact Fr.grown hgr) (fun b hb => by rw [← s1]; exact hfresh b hb)
  have k1 := hh.c1
  have kf1 := blk_free hh 1
  have k4 : w.cell? ⟨g.blk, 4, none⟩ = some g.it := blk_cell H.blk 4 _ rfl
  have k4' : W1.cell? ⟨g.blk, 4, none⟩ = some g.it := by rw [hW1]; exact (World.cell?_of_block (heap_set_other hne 1 _)).trans k4
  have hgit : g.blk ∉ g.it.ownBlock.toList := by
    intro hm
    have := H.apart
    unfold Gx.blocks at this
    rw [List.nodup_cons] at this
    exact this.1 (List.mem_append_right _ hm)
  have kb2 : w2.heap[g.blk]? = some (.cells (objC o g) 88 (0, 0)) := by
    rw [(Fr.grown hgr).block g.blk (by rw [s1]; exact hgb) hgit, hW1, heap_set_other hne 1 _]
    exact H.blk
  have k5 : w2.cell? ⟨g.blk, 4, none⟩ = some g.it := blk_cell kb2 4 _ rfl
  have kf5 := blk_free kb2 4
  rw [← hd] at ⊢
  rw [← hl']
  rw [hv2] at hU hrun
  have HU := Lib.hid hU
  rw [hW1] at hrun k4'
  rw [hit, ← hM] at hrun k4 k4' k5
  have hlz : (left' : Int) = (left : Int) - (d : Int) := by omega
  rw [hlz] at hrun k4'
  have HRUN := Lib.hid hrun
  have e1 : IntKind.i64.wrap ((m : Int) - (M : Int)) = (d : Int) := by rw [show (m : Int) - (M : Int) = (d : Int) by omega]; exact IntWalk.i64_in _ (by omega)
  have e2 : IntKind.i64.wrap ((left : Int) - (d : Int)) = (left : Int) - (d : Int) := IntWalk.i64_in _ (by omega)
  have e3 : ¬ (d : Int) < 0 := by omega
  generalize ({ o with items := o.items ++ List.replicate d V.zero } : Ob) = o2 at *
  clear hv2 hU hrun hrow2' hrow2 hgr hfresh hrow1 hi0 hz0 hz1 hz2 hitb hgit kb2 H hh hgh hlt hW1 s1 hit hM hd hdm hl' hlz hhl hgb hm hm2 hle hleft
  generalize g.blk = b at *
  go_enter Tryd.func68, Tryd.ntmps68
  go_wp2_with (at_builtin; refine wpList_append_run3 rfl _ _ 35 3 rfl _ _ _ rfl rfl HRUN.out ?_)
  go_wp2
  refine bodyPost_end (results_none rfl _ _ _) rfl ?_
  exact ⟨rfl, HU.out⟩
set_option maxRecDepth 100000 in
set_option maxHeartbeats 2000000 in
theorem resize_less (h : Nat) (sv : Value) (left : Nat) (o : Ob) (g : Gx) (m : Nat) (hm : m < o.items.length) (hm2 : o.items.length ≤ 100000) (hleft : left ≤ 10000) (w : World)
    (hh : HpC h sv (left : Int) w) (hgh : h ∉ g.blocks) (H : ObAt o g w) (hlt : ∀ x ∈ g.blocks, x < w.heap.size) :
    Calls Tryd.prog 68 #[.pointer (some ⟨h, 0, none⟩), .pointer (some ⟨g.blk, 0, none⟩), .int .i64 (m : Int)] w fun e w' => e = .returned (.tuple #[]) ∧ Upd h sv g { o with items := o.items.take m } ((left + (o.items.length - m) : Nat) : Int) w w' := by
  obtain ⟨x, c, hit⟩ : ∃ x c, g.it = .slice (some ⟨x, 0, none⟩) o.items.length c := by
    obtain ⟨_, h2 | ⟨x, c, cur, hv', _⟩⟩ := H.items
    · omega
    · exact ⟨x, c, hv'⟩
  obtain ⟨M, hM⟩ : ∃ M, M = o.items.length := ⟨_, rfl⟩
  obtain ⟨d, hd⟩ : ∃ d, d = o.items.length - m := ⟨_, rfl⟩
  have hdm : m + d = M := by omega
  have hhl := hh.lt
  have hgb : g.blk < w.heap.size := hlt g.blk (by simp [Gx.blocks])
  have hne : g.blk ≠ h := fun e => hgh (by rw [← e]; simp [Gx.blocks])
  obtain ⟨W1, hW1⟩ : ∃ W1, W1 = w.setCell ⟨h, 1, none⟩ (.int .i64 ((left + d : Nat) : Int)) := ⟨_, rfl⟩
  have s1 : W1.heap.size = w.heap.size := by rw [hW1, heap_size_set]
  have hitb : ∀ b ∈ g.it.ownBlock.toList, b ≠ h := fun b hb e => hgh (by rw [← e]; unfold Gx.blocks; exact List.mem_cons_of_mem _ (List.mem_append_right _ hb))
  have hrow1 : W1.ownsRow 0 31 4 (.slice (some ⟨x, 0, none⟩) M c) M (itemCells o.items) := by
    have := row_keep H.items (w' := W1) (fun b hb => by rw [hW1]; exact heap_set_other (hitb b hb) 1 _)
    rw [hit, ← hM] at this
    exact this
  have hxs : x < W1.heap.size := (hrow1.lt x rfl).2
  have hown : g.it.ownBlock.toList = [x] := by rw [hit]; rfl
  have hlen : (o.items.take m).length = m := by rw [List.length_take]; omega
  have hdel : ∀ W, Fr [] W1 W → Calls Tryd.prog 78 #[.slice (some ⟨x, 0, none⟩) M c, .int .i64 (m : Int), .int .i64 (M : Int)] W fun e w' =>
      e = .returned (.slice (some ⟨x, 0, none⟩) m c) ∧ w'.ownsRow 0 31 4 (.slice (some ⟨x, 0, none⟩) m c) m (itemCells (o.items.take m)) ∧ Fr [x] W1 w' := by
    intro W hW
    refine (delete_any x M c m o.items W (row_keep hrow1 (fun b hb => hW.block b (by simp [Value.ownBlock] at hb; rw [hb]; exact hxs) List.not_mem_nil)) hM.symm (by omega) (by omega)).mono ?_
    rintro e w' ⟨h1, h2, h3⟩
    exact ⟨h1, h2, (hW.mono (fun _ h => by cases h)).trans h3 (fun z hz => Or.inl hz)⟩
  have hgit : g.blk ∉ g.it.ownBlock.toList := by
    intro hm
    have := H.apart
    unfold Gx.blocks at this
    rw [List.nodup_cons] at this
    exact this.1 (List.mem_append_right _ hm)
  have hfin : ∀ w2, w2.ownsRow 0 31 4 (.slice (some ⟨x, 0, none⟩) m c) m (itemCells (o.items.take m)) → Fr [x] W1 w2 → Upd h sv g { o with items := o.items.take m } ((left + d : Nat) : Int) w (w2.setCell ⟨g.blk, 4, none⟩ (.slice (some ⟨x, 0, none⟩) m c)) := by
    intro w2 h1 h2
    refine Upd.row H hh hgh hlt (by rw [hlen]; exact h1) (by rw [← hW1, hown]; exact h2) (fun b hb => Or.inl ?_)
    rw [hit]; exact hb
  have hb2 : ∀ w2, Fr [x] W1 w2 → w2.heap[g.blk]? = some (.cells (objC o g) 88 (0, 0)) := by
    intro w2 h2
    rw [h2.block g.blk (by rw [s1]; exact hgb) (by rw [← hown]; exact hgit), hW1, heap_set_other hne 1 _]
    exact H.blk
  have k1 := hh.c1
  have kf1 := blk_free hh 1
  have k4 : w.cell? ⟨g.blk, 4, none⟩ = some (.slice (some ⟨x, 0, none⟩) M c) := by rw [hM, ← hit]; exact blk_cell H.blk 4 _ rfl
  have k4' : ∀ W, Fr [] W1 W → W.cell? ⟨g.blk, 4, none⟩ = some (.slice (some ⟨x, 0, none⟩) M c) := by
    intro W hW
    rw [hW.cell (by rw [s1]; exact hgb) List.not_mem_nil 4, hW1, World.cell?_of_block (heap_set_other hne 1 _)]
    exact k4
  have k5 : ∀ w2, Fr [x] W1 w2 → w2.cell? ⟨g.blk, 4, none⟩ = some (.slice (some ⟨x, 0, none⟩) M c) ∧ w2.frozen? ⟨g.blk, 4, none⟩ = false := fun w2 h2 => ⟨by rw [hM, ← hit]; exact blk_cell (hb2 w2 h2) 4 _ rfl, blk_free (hb2 w2 h2) 4⟩
  rw [← hd]
  have hlz : ((left + d : Nat) : Int) = (left : Int) + (d : Int) := by omega
  have HFIN := Lib.hid hfin
  have HDEL := Lib.hid hdel
  have K4 := Lib.hid k4'
  have K5 := Lib.hid k5
  have HW1 := Lib.hid hW1
  have HLZ := Lib.hid hlz
  have e1 : IntKind.i64.wrap ((m : Int) - (M : Int)) = -(d : Int) := by rw [show (m : Int) - (M : Int) = -(d : Int) by omega]; exact IntWalk.i64_in _ (by omega)
  have e2 : IntKind.i64.wrap ((left : Int) - -(d : Int)) = ((left + d : Nat) : Int) := by rw [show (left : Int) - -(d : Int) = ((left + d : Nat) : Int) by omega]; exact IntWalk.i64_in _ (by omega)
  have e3 : -(d : Int) < 0 := by omega
  generalize ({ o with items := o.items.take m } : Ob) = o2 at *
  generalize -(d : Int) = zd at *
  generalize ((left + d : Nat) : Int) = L2 at *
  clear hfin hdel k4' k5 hb2 hgit hown hxs hrow1 H hh hgh hlt hW1 s1 hit hM hd hdm hlz hhl hgb hm hm2 hleft hlen hitb
  generalize g.blk = b at *
  go_enter Tryd.func68, Tryd.ntmps68
  go_wp2
  rw [← show W1 = w.setCell ⟨h, 1, none⟩ (.int .i64 L2) from HW1.out]
  have q0 := K4.out W1 (Fr.refl _ _)
  have q1 := K4.out W1.drew (Fr.refl _ _).drew
  go_region_with (first
    | (go_at_call 78; ((with_reducible refine (HDEL.out _ (Fr.refl _ _).drew).mono ?_); rintro e w2 ⟨rfl, hr2, hf2⟩; obtain ⟨q2, q3⟩ := K5.out _ hf2; have R2 := Lib.hid hr2; have F2 := Lib.hid hf2; clear hr2 hf2))
    | fail)
  all_goals go_wp2
  all_goals (refine bodyPost_ret (results_none rfl _ _ _) rfl ?_; exact ⟨rfl, HFIN.out _ R2.out F2.out⟩)
end Go.Proofs.YtmhoebbdapjpeaaDoor
