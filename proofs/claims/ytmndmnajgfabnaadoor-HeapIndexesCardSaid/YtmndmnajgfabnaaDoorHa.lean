/- Layer 8: an object's properties: drop. Conditions: those that each theorem names. -/
import Derived.Test.YtmndmnajgfabnaaDoorH9
import Derived.Maps.OwnSet
namespace Go.Proofs.YtmndmnajgfabnaaDoor
open Go.RowKit Go.Maps
set_option linter.all false

/-- Without a key. -/
def dropL (L : List Pr) (k : List UInt8) : List Pr := L.filter fun q => decide (q.2.1 ≠ k)
theorem filter_split {k : List UInt8} {x : Nat} {v : V} {L1 L2 : List Pr} (hK : ((L1 ++ (x, k, v) :: L2).map (·.2.1)).Nodup) : dropL (L1 ++ (x, k, v) :: L2) k = L1 ++ L2 := by
  unfold dropL
  rw [List.map_append, List.map_cons, List.nodup_append] at hK
  obtain ⟨_, h2, h3⟩ := hK
  rw [List.nodup_cons] at h2
  rw [List.filter_append, List.filter_cons, if_neg (by simp)]
  congr 1
  · rw [List.filter_eq_self]
    intro q hq
    rw [decide_eq_true_eq]
    intro e
    exact h3 _ (List.mem_map_of_mem (f := fun q : Pr => q.2.1) hq) k (by simp) e
  · rw [List.filter_eq_self]
    intro q hq
    rw [decide_eq_true_eq]
    intro e
    apply h2.1
    show k ∈ L2.map (fun q : Pr => q.2.1)
    rw [← e]; exact List.mem_map_of_mem (f := fun q : Pr => q.2.1) hq
theorem drop_keysB (L : List Pr) (k : List UInt8) : (keysB L).filter (fun q => decide (q.1 ≠ k)) = keysB (dropL L k) := by
  unfold keysB dropL; rw [List.filter_map]; rfl
theorem PropsR.cut {m r x p n : Nat} {L1 L2 : List Pr} {w w' : World} {k : List UInt8} {v : V} (H : PropsR (some (m, r)) (L1 ++ (x, k, v) :: L2) w) (hA : ApartR m r (L1 ++ (x, k, v) :: L2))
    (hp : lastN r (L1.map (·.1)) = p) (hn : headN r (L2.map (·.1)) = n)
    (hM : MapP Tryd.prog 9 m (keysB (L1 ++ L2)) w') (ht : ((w.setCell ⟨p, 6, none⟩ (ptr n)).setCell ⟨n, 5, none⟩ (ptr p)).mapTurned w' m) : PropsR (some (m, r)) (L1 ++ L2) w' := by
  obtain ⟨_, hr, hL, hl⟩ := H
  unfold ApartR at hA
  rw [List.map_append, List.map_cons] at hA hl
  have hd1 := List.nodup_cons.1 hA
  have hd2 := List.nodup_cons.1 hd1.2
  have hpm : p ∈ r :: (L1.map (·.1) ++ x :: L2.map (·.1)) := by
    have := lastN_mem r (L1.map (·.1))
    rw [hp, List.mem_cons] at this
    rcases this with h | h
    · exact h ▸ List.mem_cons_self
    · exact List.mem_cons_of_mem _ (List.mem_append_left _ h)
  have hnm : n ∈ r :: (L1.map (·.1) ++ x :: L2.map (·.1)) := by
    have := headN_mem r (L2.map (·.1))
    rw [hn, List.mem_append, List.mem_singleton] at this
    rcases this with h | h
    · exact List.mem_cons_of_mem _ (List.mem_append_right _ (List.mem_cons_of_mem _ h))
    · exact h ▸ List.mem_cons_self
  have hne : ∀ y ∈ r :: (L1.map (·.1) ++ x :: L2.map (·.1)), y ≠ m := fun y hy e => hd1.1 (e ▸ hy)
  have hNd : ∀ y ∈ r :: (L1.map (·.1) ++ x :: L2.map (·.1)), Nd y w := by
    intro y hy
    rw [List.mem_cons] at hy
    rcases hy with rfl | hy
    · exact hr
    · have : (L1.map (·.1) ++ x :: L2.map (·.1)) = (L1 ++ (x, k, v) :: L2).map (·.1) := by rw [List.map_append, List.map_cons]
      rw [this, List.mem_map] at hy
      obtain ⟨q, hq, rfl⟩ := hy
      exact (hL q hq).1
  have keepN : ∀ b, b ≠ m → Nd b w → Nd b w' := fun b hb h => Nd.keep (turned_heap ht hb) ((h.set p 6 _).set n 5 _)
  have keepP : ∀ b k v, b ≠ m → Pay b k v w → Pay b k v w' := fun b k v hb h => Pay.keep (turned_heap ht hb) ((h.set p 6 (by omega) _).set n 5 (by omega) _)
  have k6 : ∀ y, y ≠ m → y ≠ p → w'.cell? ⟨y, 6, none⟩ = w.cell? ⟨y, 6, none⟩ := fun y hy hyq => (cell_keep (turned_heap ht hy) 6).trans ((cell_set_off _ n 5 y 6 _ (by omega)).trans (cell_set_blk w p 6 y 6 _ hyq))
  have k5 : ∀ y, y ≠ m → y ≠ n → w'.cell? ⟨y, 5, none⟩ = w.cell? ⟨y, 5, none⟩ := fun y hy hyr => (cell_keep (turned_heap ht hy) 5).trans ((cell_set_blk _ n 5 y 5 _ hyr).trans (cell_set_off w p 6 y 5 _ (by omega)))
  have sub : ∀ y, y ∈ L1.map (·.1) ++ L2.map (·.1) → y ∈ r :: (L1.map (·.1) ++ x :: L2.map (·.1)) := by
    intro y hy
    rw [List.mem_append] at hy
    rcases hy with h | h
    · exact List.mem_cons_of_mem _ (List.mem_append_left _ h)
    · exact List.mem_cons_of_mem _ (List.mem_append_right _ (List.mem_cons_of_mem _ h))
  refine ⟨hM, keepN r (hne r List.mem_cons_self) hr, ?_, ?_⟩
  · intro q hq
    have hq' : q ∈ L1 ++ (x, k, v) :: L2 := by
      rw [List.mem_append] at hq ⊢
      exact hq.imp id (List.mem_cons_of_mem _)
    have hm : q.1 ≠ m := hne _ (sub _ (by rw [← List.map_append]; exact List.mem_map_of_mem (f := fun q : Pr => q.1) hq))
    exact ⟨keepN _ hm (hL q hq').1, keepP _ _ _ hm (hL q hq').2⟩
  · rw [List.map_append]
    refine Links.cut (w := w) (x := x) (n := n) (p := p) hn ?_ ?_ hp hd1.2 hd2.1 ?_ ?_ hl
    · exact (cell_keep (turned_heap ht (hne p hpm)) 6).trans ((cell_set_off _ n 5 p 6 _ (by omega)).trans ((hNd p hpm).same 6 (by omega) _))
    · exact (cell_keep (turned_heap ht (hne n hnm)) 5).trans (((hNd n hnm).set p 6 _).same 5 (by omega) _)
    · intro y hy hyp
      refine k6 y (hne y ?_) hyp
      rw [List.mem_cons] at hy
      rcases hy with rfl | hy
      · exact List.mem_cons_self
      · exact sub y hy
    · intro y hy hyn
      refine k5 y (hne y ?_) hyn
      rw [List.mem_append, List.mem_singleton] at hy
      rcases hy with hy | rfl
      · exact sub y hy
      · exact List.mem_cons_self
structure Dropped (m r : Nat) (L : List Pr) (k : List UInt8) (w w' : World) : Prop where
  props : PropsR (some (m, r)) (dropL L k) w'
  fr : Fr (m :: r :: L.map (·.1)) w w'
  size : w'.heap.size = w.heap.size
set_option maxRecDepth 100000 in
set_option maxHeartbeats 2000000 in
theorem pDrop_any (b m r : Nat) (L : List Pr) (k : List UInt8) (hk : k.length ≤ maxLen) (w : World)
    (hc2 : w.cell? ⟨b, 2, none⟩ = some (.map (some m))) (H : PropsR (some (m, r)) L w) (hA : ApartR m r L) (hKn : (L.map (·.2.1)).Nodup) (hbb : b ∉ m :: r :: L.map (·.1)) (hb : ∀ b ∈ blocksR (some (m, r)) L, b < w.heap.size)
    (x : Nat) (k' : List UInt8) (v0 : V) (hf : L.find? (fun q => decide (q.2.1 = k)) = some (x, k', v0)) :
    Calls Tryd.prog 56 #[.pointer (some ⟨b, 2, none⟩), .string (bs k)] w fun e w' => e = .returned (.tuple #[]) ∧ Dropped m r L k w w' := by
  have hl := H.look k hk
  rw [hf] at hl
  have hm := List.mem_of_find?_eq_some hf
  have hkk : k' = k := by have := List.find?_some hf; simpa using this
  subst hkk
  have hany : L.any (fun q => decide (q.2.1 = k')) = true := by rw [find_any, hf]; rfl
  clear hf
  obtain ⟨L1, L2, rfl⟩ := List.append_of_mem hm
  have hl' : (Instr.lookup 81 (.map (some m)) (.string (bs k')) false).run Tryd.prog w = .ok (.pointer (some ⟨x, 0, none⟩)) w := hl
  have hsp := H.2.2.2
  rw [List.map_append, List.map_cons] at hsp
  obtain ⟨hs1, hs2⟩ := hsp.split
  have hpx := hs1.last
  have hxn := hs2.head
  obtain ⟨p, hp⟩ : ∃ p, lastN r (L1.map (·.1)) = p := ⟨_, rfl⟩
  obtain ⟨n, hn⟩ : ∃ n, headN r (L2.map (·.1)) = n := ⟨_, rfl⟩
  rw [hp] at hpx
  rw [hn] at hxn
  have x5 : w.cell? ⟨x, 5, none⟩ = some (.pointer (some ⟨p, 0, none⟩)) := hpx.2
  have p6 : w.cell? ⟨p, 6, none⟩ = some (.pointer (some ⟨x, 0, none⟩)) := hpx.1
  have x6 : w.cell? ⟨x, 6, none⟩ = some (.pointer (some ⟨n, 0, none⟩)) := hxn.1
  have n5 : w.cell? ⟨n, 5, none⟩ = some (.pointer (some ⟨x, 0, none⟩)) := hxn.2
  have hA' := hA
  unfold ApartR at hA'
  rw [List.map_append, List.map_cons] at hA' hbb
  have hd1 := List.nodup_cons.1 hA'
  have hd2 := List.nodup_cons.1 hd1.2
  have hd3 := List.nodup_append.1 hd2.2
  have hpm : p ∈ r :: (L1.map (·.1)) := by have := lastN_mem r (L1.map (·.1)); rw [hp] at this; exact this
  have hnm : n ∈ (L2.map (·.1)) ++ [r] := by have := headN_mem r (L2.map (·.1)); rw [hn] at this; exact this
  have hxr : x ≠ r := fun e => hd2.1 (by rw [← e]; simp)
  have hxp : x ≠ p := by
    rintro rfl
    rw [List.mem_cons] at hpm
    rcases hpm with h | h
    · exact hxr h
    · exact hd3.2.2 _ h _ List.mem_cons_self rfl
  have hxn' : x ≠ n := by
    rintro rfl
    rw [List.mem_append, List.mem_singleton] at hnm
    rcases hnm with h | h
    · exact (List.nodup_cons.1 hd3.2.1).1 h
    · exact hxr h
  have hpA : p ∈ r :: (L1.map (·.1) ++ x :: L2.map (·.1)) := by
    rw [List.mem_cons] at hpm
    rcases hpm with h | h
    · rw [h]; exact List.mem_cons_self
    · exact List.mem_cons_of_mem _ (List.mem_append_left _ h)
  have hnA : n ∈ r :: (L1.map (·.1) ++ x :: L2.map (·.1)) := by
    rw [List.mem_append, List.mem_singleton] at hnm
    rcases hnm with h | h
    · exact List.mem_cons_of_mem _ (List.mem_append_right _ (List.mem_cons_of_mem _ h))
    · rw [h]; exact List.mem_cons_self
  have hbp : b ≠ p := fun e => hbb (by rw [e]; exact List.mem_cons_of_mem _ hpA)
  have hbn : b ≠ n := fun e => hbb (by rw [e]; exact List.mem_cons_of_mem _ hnA)
  have hNd : ∀ y ∈ r :: (L1.map (·.1) ++ x :: L2.map (·.1)), Nd y w := by
    intro y hy
    rw [List.mem_cons] at hy
    rcases hy with rfl | hy
    · exact H.2.1
    · have e : (L1.map (·.1) ++ x :: L2.map (·.1)) = (L1 ++ (x, k', v0) :: L2).map (·.1) := by rw [List.map_append, List.map_cons]
      rw [e, List.mem_map] at hy
      obtain ⟨q, hq, rfl⟩ := hy
      exact (H.2.2.1 q hq).1
  have pf := (hNd p hpA).free 6
  have nf := (hNd n hnA).free 5
  have hmp : m ≠ p := fun e => hd1.1 (by rw [e]; exact hpA)
  have hmn : m ≠ n := fun e => hd1.1 (by rw [e]; exact hnA)
  have hdr : ∀ ty, ∃ w', (Builtin.delete_ #[81, 9] ty #[.map (some m), .string (bs k')]).run Tryd.prog ((w.setCell ⟨p, 6, none⟩ (ptr n)).setCell ⟨n, 5, none⟩ (ptr p)).drew.drew = .ok (.tuple #[]) w' ∧ Dropped m r (L1 ++ (x, k', v0) :: L2) k' w w' := by
    intro ty
    have hM3 : MapP Tryd.prog 9 m (keysB (L1 ++ (x, k', v0) :: L2)) ((w.setCell ⟨p, 6, none⟩ (ptr n)).setCell ⟨n, 5, none⟩ (ptr p)).drew.drew := H.1.keep ((heap_set_other hmn 5 _).trans (heap_set_other hmp 6 _))
    have hkl : ((keysB (L1 ++ (x, k', v0) :: L2)).filter (fun q => decide (q.1 ≠ k'))).length + (if (keysB (L1 ++ (x, k', v0) :: L2)).any (fun q => decide (q.1 = k')) then 1 else 0) = (keysB (L1 ++ (x, k', v0) :: L2)).length := by
      rw [drop_keysB, filter_split hKn, keysB_any, hany, if_pos rfl]
      unfold keysB
      simp only [List.length_map, List.length_append, List.length_cons]
      omega
    obtain ⟨w', hrun, hM4, ht4⟩ := hM3.del (T := 81) (E := 82) Tryd.underlying9 Tryd.underlying81 k' hk (bs k') rfl ty hkl
    refine ⟨w', hrun, ?_, ?_, ?_⟩
    · rw [drop_keysB, filter_split hKn] at hM4
      rw [filter_split hKn]
      have H' : PropsR (some (m, r)) (L1 ++ (x, k', v0) :: L2) w.drew.drew := PropsR.keep (w := w) (w' := w.drew.drew) (fun _ _ => rfl) H
      exact H'.cut hA hp hn hM4 ht4
    · have hsub : ∀ z, z ∈ r :: (L1.map (·.1) ++ x :: L2.map (·.1)) → z ∈ m :: r :: (L1 ++ (x, k', v0) :: L2).map (·.1) := by
        intro z hz; rw [List.map_append, List.map_cons]; exact List.mem_cons_of_mem _ hz
      have g1 : Fr (m :: r :: (L1 ++ (x, k', v0) :: L2).map (·.1)) w (w.setCell ⟨p, 6, none⟩ (ptr n)) := (Fr.set w p 6 _).mono (fun z hz => Or.inl (by simp only [List.mem_singleton] at hz; rw [hz]; exact hsub p hpA))
      exact ((g1.trans (Fr.set _ n 5 (ptr p)) (fun z hz => Or.inl (by simp only [List.mem_singleton] at hz; rw [hz]; exact hsub n hnA))).drew.drew).trans (Fr.turned ht4) (fun z hz => Or.inl (by simp only [List.mem_singleton] at hz; rw [hz]; exact List.mem_cons_self))
    · rw [turned_size ht4]
      show ((w.setCell ⟨p, 6, none⟩ (ptr n)).setCell ⟨n, 5, none⟩ (ptr p)).heap.size = _
      rw [heap_size_set, heap_size_set]
  obtain ⟨w4, hrun, hfin⟩ := hdr 0
  have HFIN := Lib.hid hfin
  clear hfin hdr hmp hmn hNd hpA hnA hpm hnm hd3 hd2 hd1 hA' hbb hs1 hs2 hsp hl hany hm hpx hxn H hA hKn hb hk hxr hp hn
  obtain ⟨S, hS⟩ : ∃ S, S = bs k' := ⟨_, rfl⟩
  rw [← hS] at hl' hrun ⊢
  clear hS
  have hrun' : (Builtin.delete_ #[81, 9] 0 #[.map (some m), .string S]).run Tryd.prog ((w.setCell ⟨p, 6, none⟩ (.pointer (some ⟨n, 0, none⟩))).setCell ⟨n, 5, none⟩ (.pointer (some ⟨p, 0, none⟩))).drew.drew = .ok (.tuple #[]) w4 := hrun
  clear hrun
  have HRUN := Lib.hid hrun'
  clear hrun'
  go_enter Tryd.func56, Tryd.ntmps56
  go_wp2
  go_region
  go_wp2
  go_region
  have hrun := HRUN.out
  go_wp2
  go_end0
  exact ⟨rfl, HFIN.out⟩
end Go.Proofs.YtmndmnajgfabnaaDoor
