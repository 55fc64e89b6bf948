/- Layer 8: an append to an own row, with where the row lies behind it; a new object. Conditions: those that each theorem names. -/
import Derived.Test.YtmndmnajgfabnaaDoorHn
namespace Go.Proofs.YtmndmnajgfabnaaDoor
open Go.RowKit Go.Maps
set_option linter.all false

theorem append_own2 {P : Program} (w : World) (t ty e : TypeId) (i : TypeInfo) (z : Value) (size bytes : Nat) (ht : P.underlying t = some (.slice e)) (hi : P.info? e = some i) (hz : i.zero = some z)
    (hsize : i.size = size) (hby : i.bytes = bytes) (hzs : z.cells.size = size) (hsz : 0 < size)
    (v : Value) (n : Nat) (xs : List Value) (hown : w.ownsRow 0 e size v n xs)
    (a : Addr) (m c : Nat) (news : List Value) (hl : news.length = m * size) (hnews : ∀ j u, news[j]? = some u → w.cell? (a.add j) = some u) (h1 : ∀ u ∈ news, u.oneCell' = true)
    (h63 : n + m ≤ maxLen) (hbytes : (n + m) * bytes ≤ 140737488355328) :
    ∃ v' w', (Builtin.append_ #[t, t] ty #[v, .slice (some a) m c]).run P w = .ok v' w' ∧ w'.ownsRow 0 e size v' (n + m) (xs ++ news) ∧ w.grownBy w' v.ownBlock ∧ (∀ g, v'.ownBlock = some g → v.ownBlock = some g ∨ w.heap.size ≤ g) := by
  obtain ⟨v', w', hrun, ho, hg, _⟩ := run_append_own (P := P) w 0 t ty e i z size bytes ht hi hz hsize hby hzs hsz v n xs hown a m c news hl hnews h1 h63 hbytes (Nat.zero_le _)
  refine ⟨v', w', hrun, ho, hg, ?_⟩
  subst hsize
  subst hby
  have hsmall : n + m ≤ 9223372036854775807 := by simp only [maxLen] at h63; omega
  rcases hown.2 with ⟨rfl, rfl⟩ | ⟨g, cap, cur, rfl, hbg, hgh, hnc, hcm, hcs, htake⟩
  · obtain ⟨v2, w2, hrun2, ho2, _, _⟩ := run_append_own (P := P) w w.heap.size t ty e i z i.size i.bytes ht hi hz rfl rfl hzs hsz (.slice none 0 0) 0 xs ⟨hown.1, .inl ⟨rfl, rfl⟩⟩ a m c news hl hnews h1 h63 hbytes (Nat.le_refl _)
    rw [hrun] at hrun2
    cases hrun2
    exact fun g hg => Or.inr (ho2.lt g hg).1
  · by_cases hroom : n + m ≤ cap
    · have hfit : n * i.size + news.length ≤ cur.size := by rw [hl, hcs, ← Nat.add_mul]; exact Nat.mul_le_mul_right _ hroom
      have hr := run_append_room (P := P) w t ty e i ht hi g n cap cur hgh a m c news hl hnews h1 hroom hfit
      rw [hrun] at hr
      cases hr
      exact fun g hg => Or.inl hg
    · have holds : ∀ j u, xs[j]? = some u → w.cell? ((⟨g, 0, none⟩ : Addr).add j) = some u := hown.cells (g := g) rfl
      have hr := run_append_grow (P := P) w t ty e i z ht hi hz ⟨g, 0, none⟩ n cap xs hown.1 holds a m c news hl hnews (by omega) (by omega) (growslice_fits (by omega) hbytes)
      rw [hrun] at hr
      cases hr
      intro g' hg'
      cases hg'
      exact Or.inr (Nat.le_refl _)
theorem HeapG.add {h : Nat} {A : Hp} {sv sv' it : Value} {gs : List Gx} {w w' : World} {o : Ob} {left' blk : Nat} (H : HeapG h A sv gs w) (hp : HpC h sv' (left' : Int) w')
    (hrow : w'.ownsRow 0 89 1 sv' (gs.length + 1) (gs.map (fun g => Value.pointer (some ⟨g.blk, 0, none⟩)) ++ [.pointer (some ⟨blk, 0, none⟩)]))
    (hf : Fr (h :: sv.ownBlock.toList) w w') (hsv : ∀ x, sv'.ownBlock = some x → (sv.ownBlock = some x ∨ w.heap.size ≤ x) ∧ x ≠ blk ∧ x ∉ it.ownBlock.toList)
    (hblk : w.heap.size ≤ blk) (hblk' : blk < w'.heap.size) (hitb : ∀ x ∈ it.ownBlock.toList, x ∉ allBlocks h sv gs ∧ x ≠ blk ∧ x < w'.heap.size)
    (hb : w'.heap[blk]? = some (.cells (objC o ⟨blk, none, [], it⟩) 88 (0, 0))) (hpr : o.props = []) (hit : w'.ownsRow 0 31 4 it o.items.length (itemCells o.items)) :
    ∃ gs', HeapG h ⟨A.objs ++ [o], left'⟩ sv' gs' w' ∧ ∀ b ∈ allBlocks h sv' gs', b ∈ allBlocks h sv gs ∨ w.heap.size ≤ b ∨ b ∈ it.ownBlock.toList := by
  have hap := H.apart
  unfold allBlocks at hap
  rw [List.nodup_append] at hap
  obtain ⟨hap1, hap2, hap3⟩ := hap
  have hgm : ∀ g ∈ gs, ∀ b ∈ g.blocks, b ∈ gs.flatMap Gx.blocks := fun g hg b hb => List.mem_flatMap.2 ⟨g, hg, hb⟩
  have hlt : ∀ b ∈ gs.flatMap Gx.blocks, b < w.heap.size := fun b hb => H.lt b (List.mem_append_right _ hb)
  have hkeep : ∀ b ∈ gs.flatMap Gx.blocks, w'.heap[b]? = w.heap[b]? := fun b hb => hf.block b (hlt b hb) (fun hm => hap3 b hm b hb rfl)
  have hgb : (Gx.mk blk none [] it).blocks = blk :: it.ownBlock.toList := rfl
  have hall : allBlocks h sv' (gs ++ [⟨blk, none, [], it⟩]) = (h :: sv'.ownBlock.toList) ++ (gs.flatMap Gx.blocks ++ (blk :: it.ownBlock.toList)) := by
    unfold allBlocks; rw [List.flatMap_append, List.flatMap_cons, List.flatMap_nil, List.append_nil, hgb]
  have hh : h < w.heap.size := H.lt_h
  have hin : it.ownBlock.toList.Nodup := by cases it.ownBlock <;> simp
  have hbn : (blk :: it.ownBlock.toList).Nodup := List.nodup_cons.2 ⟨fun hm => (hitb blk hm).2.1 rfl, hin⟩
  refine ⟨gs ++ [⟨blk, none, [], it⟩], ⟨hp, ?_, ?_, ?_, ?_, ?_⟩, ?_⟩
  · rw [List.length_append, List.map_append]; exact hrow
  · rw [List.length_append, List.length_append, H.len]; rfl
  · intro j p g hp' hg'
    have hl := H.len
    by_cases hj : j < gs.length
    · rw [List.getElem?_append_left (by omega)] at hp' hg'
      exact (H.obs j p g hp' hg').keep (fun b hb => hkeep b (hgm g (List.mem_of_getElem? hg') b hb))
    · by_cases hj2 : j = gs.length
      · subst hj2
        rw [List.getElem?_append_right (Nat.le_refl _), Nat.sub_self] at hg'
        rw [List.getElem?_append_right (by omega), hl, Nat.sub_self] at hp'
        simp only [List.getElem?_cons_zero, Option.some.injEq] at hp' hg'
        subst hp'
        subst hg'
        exact ⟨hb, rfl, hpr, by rw [hgb]; exact hbn, by simp, hit⟩
      · rw [List.getElem?_append_right (by omega), List.getElem?_eq_none (by simp; omega)] at hg'
        cases hg'
  · rw [hall, List.nodup_append, List.nodup_append]
    refine ⟨?_, ⟨hap2, hbn, ?_⟩, ?_⟩
    · rw [List.nodup_cons]
      refine ⟨?_, by cases sv'.ownBlock <;> simp⟩
      intro hm
      rw [Option.mem_toList] at hm
      rcases (hsv h hm).1 with h1 | h1
      · exact (List.nodup_cons.1 hap1).1 (by rw [h1]; simp)
      · omega
    · intro a ha c hc e
      have := hlt a ha
      rcases List.mem_cons.1 hc with rfl | hc
      · omega
      · exact (hitb c hc).1 (by rw [← e]; exact List.mem_append_right _ ha)
    · intro a ha c hc e
      subst e
      rcases List.mem_cons.1 ha with rfl | ha
      · rcases List.mem_append.1 hc with hc | hc
        · exact hap3 a List.mem_cons_self a hc rfl
        · rcases List.mem_cons.1 hc with rfl | hc
          · omega
          · exact (hitb a hc).1 (by simp [allBlocks])
      · rw [Option.mem_toList] at ha
        obtain ⟨h1, h2, h3⟩ := hsv a ha
        rcases List.mem_append.1 hc with hc | hc
        · rcases h1 with h1 | h1
          · exact hap3 a (List.mem_cons_of_mem _ (by rw [h1]; simp)) a hc rfl
          · have := hlt a hc; omega
        · rcases List.mem_cons.1 hc with rfl | hc
          · exact h2 rfl
          · exact h3 hc
  · intro b hb'
    rw [hall] at hb'
    rcases List.mem_append.1 hb' with h1 | h1
    · rcases List.mem_cons.1 h1 with rfl | h1
      · exact Nat.lt_of_lt_of_le hh hf.size
      · rw [Option.mem_toList] at h1
        have := row_keep hrow (w' := w') (fun _ _ => rfl)
        exact (hrow.lt b h1).2
    · rcases List.mem_append.1 h1 with h1 | h1
      · exact Nat.lt_of_lt_of_le (hlt b h1) hf.size
      · rcases List.mem_cons.1 h1 with rfl | h1
        · exact hblk'
        · exact (hitb b h1).2.2
  · intro b hb'
    rw [hall] at hb'
    rcases List.mem_append.1 hb' with h1 | h1
    · rcases List.mem_cons.1 h1 with rfl | h1
      · exact Or.inl (by simp [allBlocks])
      · rw [Option.mem_toList] at h1
        rcases (hsv b h1).1 with h2 | h2
        · exact Or.inl (List.mem_append_left _ (List.mem_cons_of_mem _ (by rw [h2]; simp)))
        · exact Or.inr (Or.inl h2)
    · rcases List.mem_append.1 h1 with h1 | h1
      · exact Or.inl (List.mem_append_right _ h1)
      · rcases List.mem_cons.1 h1 with rfl | h1
        · exact Or.inr (Or.inl hblk)
        · exact Or.inr (Or.inr h1)
end Go.Proofs.YtmndmnajgfabnaaDoor
