/- Layer 8: a copy of values; Items. Conditions: those that each theorem names. -/
import Derived.Test.YtmndmnajgfabnaaDoorHv
import Derived.Laws.CopyRow
namespace Go.Proofs.YtmndmnajgfabnaaDoor
open Go.RowKit Go.Maps
set_option linter.all false

structure RowAt (w : World) (v : Value) (n : Nat) (xs : List Value) : Prop where
  len : xs.length = n * 4
  ex : ∃ p cap, v = .slice p n cap ∧ (p = none → n = 0) ∧ ∀ a, p = some a → ∀ j u, xs[j]? = some u → w.cell? (a.add j) = some u
theorem RowAt.of_own {w : World} {e : TypeId} {v : Value} {n : Nat} {xs : List Value} {base : Nat} (h : w.ownsRow base e 4 v n xs) : RowAt w v n xs := by
  refine ⟨h.1, ?_⟩
  rcases h.2 with ⟨h1, h2⟩ | ⟨g, cap, cur, hv, _⟩
  · exact ⟨none, 0, by rw [h1, h2], fun _ => h2, fun a ha => by cases ha⟩
  · subst hv
    exact ⟨_, cap, rfl, (fun h => by cases h), (fun a ha => by cases ha; exact h.cells (g := g) rfl)⟩
theorem RowAt.fr {w w' : World} {v : Value} {n : Nat} {xs : List Value} (h : RowAt w v n xs) (hf : Fr [] w w') : RowAt w' v n xs := by
  obtain ⟨h1, p, cap, hv, hn, hc⟩ := h
  refine ⟨h1, p, cap, hv, hn, fun a ha j u hj => ?_⟩
  have hc := hc a ha j u hj
  have hlt : (a.add j).block < w.heap.size := by
    rcases Nat.lt_or_ge (a.add j).block w.heap.size with h | h
    · exact h
    · simp [World.cell?, Array.getElem?_eq_none h] at hc
  rw [← hc]
  exact World.cell?_of_block (hf.block _ hlt List.not_mem_nil)
theorem run_copy4 {P : Program} (w : World) (dT sT ty elem : TypeId) (g n : Nat) (sp : Option Addr) (sCap : Nat) (cur : Array Value) (t : TypeId) (cs : List Value)
    (hu : P.underlying dT = some (.slice elem)) (hs : (P.info? elem).map (·.size) = some 4)
    (hg : w.heap[g]? = some (.cells cur t (0, 0))) (hl : cs.length = n * 4) (hsp : sp = none → n = 0)
    (hsrc : ∀ a, sp = some a → ∀ j v, cs[j]? = some v → w.cell? (a.add j) = some v) (hfit : cs.length = cur.size) (h1 : ∀ v ∈ cs, v.oneCell' = true) :
    (Builtin.copy_ #[dT, sT] ty #[.slice (some ⟨g, 0, none⟩) n n, .slice sp n sCap]).run P w = .ok (goInt n) (w.setRow g cs.toArray) := by
  have hst := run_storeCells_at P g 0 t cs 0 cur w hg (by simpa using Nat.le_of_eq hfit) h1
  have e : (cur.toList.take (0 + 0) ++ cs ++ cur.toList.drop (0 + 0 + cs.length)) = cs := by
    rw [hfit]
    simp
  rw [e] at hst
  cases hq : P.info? elem with
  | none => simp [hq] at hs
  | some i =>
    have hi : i.size = 4 := by simpa [hq] using hs
    cases sp with
    | none =>
      have hn := hsp rfl
      subst hn
      have hc : cs = [] := List.eq_nil_of_length_eq_zero (by simpa using hl)
      subst hc
      simp [Builtin.copy_, run_underlying hu, Builtin.lenOf, Builtin.firstCells, sizeOf, typeInfo, hq, hi, hst]
    | some a =>
      have hld := run_loadCells_list (P := P) w a cs (hsrc a rfl)
      rw [hl] at hld
      simp [Builtin.copy_, run_underlying hu, Builtin.lenOf, Builtin.firstCells, sizeOf, typeInfo, hq, hi, hld, hst]
theorem wpList_copy_run2 {P : Program} {w w' : World} {ops : Array Oper} {rest : List Oper} {o : Oper} {a : Act} {Q : Exit → Act → World → Prop} (hgd : o.guard = none) (s x : Operand) (t : TypeId)
    (ho : o.op = .call { callee := .builtin .copy, args := #[s, x], argTypes := #[t, t] }) (v y v' : Value) (hs : a.eval s = v) (hx : a.eval x = y) (hrun : (Builtin.copy_ #[t, t] o.type #[v, y]).run P w = .ok v' w')
    (h : wpList P ops Q rest (a.put o.dst v') w') : wpList P ops Q (o :: rest) a w := by
  refine wpList_plain hgd fun K hK => ?_
  unfold Oper.wp execOp
  simp only [ho, resolve, invoke, builtin, Sem.run_bind, Sem.run_pure, Result.andThen_ok, List.map_toArray, List.map_cons, List.map_nil, hs, hx, hrun]
  exact hK _ _ h
theorem infoVal : (Tryd.prog.info? 31).map (fun i => (i.zero, i.size, i.bytes)) = some (some (.agg #[.int .i64 0, .float .f64 0, .string ⟨#[]⟩, .int .i64 0]), 4, 40) := by kernel_rfl
theorem itemCells_one (l : List V) : ∀ u ∈ itemCells l, u.oneCell' = true := by
  intro u hu
  unfold itemCells at hu
  rw [List.mem_flatMap] at hu
  obtain ⟨v, _, hv⟩ := hu
  simp only [V.cells, List.mem_cons, List.not_mem_nil, or_false] at hv
  rcases hv with rfl | rfl | rfl | rfl <;> rfl
set_option maxRecDepth 100000 in
theorem copied_any (v : Value) (n : Nat) (l : List V) (hn : n ≤ 100000) (w : World) (H : RowAt w v n (itemCells l)) :
    Calls Tryd.prog 57 #[v] w fun e w' => e = .returned (.slice (some ⟨w.heap.size, 0, none⟩) n n) ∧ w'.ownsRow w.heap.size 31 4 (.slice (some ⟨w.heap.size, 0, none⟩) n n) n (itemCells l) ∧ Fr [] w w' := by
  obtain ⟨hl, p, cap, hv, hpn, hcells⟩ := H
  subst hv
  obtain ⟨i0, hi0, hz0, hz1, hz2⟩ := info_parts infoVal
  obtain ⟨w1, hr, ho1, hg1⟩ := run_make_full (P := Tryd.prog) w w.heap.size 35 31 i0 (.agg #[.int .i64 0, .float .f64 0, .string ⟨#[]⟩, .int .i64 0]) 4 Tryd.underlying35 hi0 hz0 hz1 .i64 .i64 n (by rw [hz2]; omega) (by unfold maxLen; omega) (Nat.le_refl _)
  have f1 : Fr [] w w1 := Fr.grown hg1
  obtain ⟨cur, hg, hcur⟩ : ∃ cur : Array Value, w1.heap[w.heap.size]? = some (.cells cur 31 (0, 0)) ∧ cur.size = n * 4 := by
    rcases ho1.2 with ⟨h1, _⟩ | ⟨g, cap', cur, hv, _, hh, _, _, hs, _⟩
    · cases h1
    · cases hv
      exact ⟨cur, hh, hs⟩
  have hcl : ∀ a, p = some a → ∀ j u, (itemCells l)[j]? = some u → w1.cell? (a.add j) = some u := by
    have hR : RowAt w1 (.slice p n cap) n (itemCells l) := RowAt.fr (w := w) ⟨hl, p, cap, rfl, hpn, hcells⟩ f1
    obtain ⟨_, p', cap', hv, _, hc⟩ := hR
    cases hv
    exact hc
  have hcp := run_copy4 (P := Tryd.prog) w1 35 35 3 31 w.heap.size n p cap cur 31 (itemCells l) Tryd.underlying35 (by rw [hi0]; simp [hz1]) hg hl hpn hcl (by rw [hl, hcur]) (itemCells_one l)
  have f2 : Fr [] w (w1.setRow w.heap.size (itemCells l).toArray) := by
    refine f1.trans (O' := [w.heap.size]) ⟨rfl, rfl, rfl, by simp, fun k _ hk => setRow_other w1 _ k _ (fun e => hk (by simp [e]))⟩ (fun b hb => Or.inr (by simp at hb; omega))
  have ho2 : (w1.setRow w.heap.size (itemCells l).toArray).ownsRow w.heap.size 31 4 (.slice (some ⟨w.heap.size, 0, none⟩) n n) n (itemCells l) := by
    refine ⟨hl, .inr ⟨w.heap.size, n, (itemCells l).toArray, rfl, Nat.le_refl _, setRow_heap w1 _ cur _ _ _ hg, Nat.le_refl _, by unfold maxLen; omega, by simp [hl], ?_⟩⟩
    rw [← hl]
    simp
  have F2 := Lib.hid f2
  have O2 := Lib.hid ho2
  have HCP := Lib.hid hcp
  clear f2 ho2 hcp hcl hg hcur f1 hg1 ho1 hpn hcells hl hi0 hz0 hz1 hz2
  go_enter Tryd.func57, Tryd.ntmps57
  have hcp := HCP.out
  go_wp2
  go_ret
  exact ⟨rfl, O2.out, F2.out⟩
end Go.Proofs.YtmndmnajgfabnaaDoor
