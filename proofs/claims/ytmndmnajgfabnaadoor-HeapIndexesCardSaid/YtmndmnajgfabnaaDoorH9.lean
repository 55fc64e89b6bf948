/- Layer 8: an object's properties: put of a key that is there; drop. Conditions: those that each theorem names. -/
import Derived.Test.YtmndmnajgfabnaaDoorH8
namespace Go.Proofs.YtmndmnajgfabnaaDoor
open Go.RowKit Go.Maps
set_option linter.all false

/-- A key's value is another one now. -/
def setL (L : List Pr) (k : List UInt8) (v : V) : List Pr := L.map fun q => if q.2.1 = k then (q.1, q.2.1, v) else q
theorem setL_blocks (L : List Pr) (k : List UInt8) (v : V) : (setL L k v).map (·.1) = L.map (·.1) := by
  unfold setL; rw [List.map_map]; congr 1; funext q; simp only [Function.comp]; split <;> rfl
theorem setL_keysB (L : List Pr) (k : List UInt8) (v : V) : keysB (setL L k v) = keysB L := by
  unfold setL keysB; rw [List.map_map]; congr 1; funext q; simp only [Function.comp]; split <;> rfl
theorem same_key {L : List Pr} (hn : (L.map (·.2.1)).Nodup) : ∀ {p q : Pr}, p ∈ L → q ∈ L → p.2.1 = q.2.1 → p = q := by
  induction L with
  | nil => intro p q hp; cases hp
  | cons a L ih =>
    intro p q hp hq h
    rw [List.map_cons, List.nodup_cons] at hn
    rw [List.mem_cons] at hp hq
    rcases hp with rfl | hp <;> rcases hq with rfl | hq
    · rfl
    · exact absurd (by rw [h]; exact List.mem_map_of_mem (f := fun q : Pr => q.2.1) hq) hn.1
    · exact absurd (by rw [← h]; exact List.mem_map_of_mem (f := fun q : Pr => q.2.1) hp) hn.1
    · exact ih hn.2 hp hq h
theorem same_blk {L : List Pr} (hn : (L.map (·.1)).Nodup) : ∀ {p q : Pr}, p ∈ L → q ∈ L → p.1 = q.1 → p = q := by
  induction L with
  | nil => intro p q hp; cases hp
  | cons a L ih =>
    intro p q hp hq h
    rw [List.map_cons, List.nodup_cons] at hn
    rw [List.mem_cons] at hp hq
    rcases hp with rfl | hp <;> rcases hq with rfl | hq
    · rfl
    · exact absurd (by rw [h]; exact List.mem_map_of_mem (f := fun q : Pr => q.1) hq) hn.1
    · exact absurd (by rw [← h]; exact List.mem_map_of_mem (f := fun q : Pr => q.1) hp) hn.1
    · exact ih hn.2 hp hq h
/-- Four cells of a block, written. -/
def set4 (w : World) (x : Nat) (a b c d : Value) : World := (((w.setCell ⟨x, 1, none⟩ a).setCell ⟨x, 2, none⟩ b).setCell ⟨x, 3, none⟩ c).setCell ⟨x, 4, none⟩ d
theorem PropsR.set {m r x : Nat} {L : List Pr} {w : World} {k : List UInt8} {v v0 : V} (H : PropsR (some (m, r)) L w) (hA : ApartR m r L) (hK : (L.map (·.2.1)).Nodup) (hx : (x, k, v0) ∈ L) :
    PropsR (some (m, r)) (setL L k v) (set4 w x (.int .i64 v.k) (.float .f64 v.n) (.string (bs v.t)) (.int .i64 v.r)) := by
  obtain ⟨hM, hr, hL, hl⟩ := H
  unfold ApartR at hA
  have hd1 := List.nodup_cons.1 hA
  have hd2 := List.nodup_cons.1 hd1.2
  have hxm : x ∈ L.map (·.1) := List.mem_map_of_mem (f := fun q : Pr => q.1) hx
  have hmx : m ≠ x := fun e => hd1.1 (by rw [e]; exact List.mem_cons_of_mem _ hxm)
  have hN : ∀ b, Nd b w → Nd b (set4 w x (.int .i64 v.k) (.float .f64 v.n) (.string (bs v.t)) (.int .i64 v.r)) := fun b h => (((h.set x 1 _).set x 2 _).set x 3 _).set x 4 _
  have hO : ∀ b, b ≠ x → (set4 w x (.int .i64 v.k) (.float .f64 v.n) (.string (bs v.t)) (.int .i64 v.r)).heap[b]? = w.heap[b]? := fun b h => (heap_set_other h 4 _).trans ((heap_set_other h 3 _).trans ((heap_set_other h 2 _).trans (heap_set_other h 1 _)))
  have h56 : ∀ b o, 4 < o → (set4 w x (.int .i64 v.k) (.float .f64 v.n) (.string (bs v.t)) (.int .i64 v.r)).cell? ⟨b, o, none⟩ = w.cell? ⟨b, o, none⟩ := fun b o ho => (cell_set_off _ x 4 b o _ (by omega)).trans ((cell_set_off _ x 3 b o _ (by omega)).trans ((cell_set_off _ x 2 b o _ (by omega)).trans (cell_set_off w x 1 b o _ (by omega))))
  refine ⟨by rw [setL_keysB]; exact hM.keep (hO m hmx), hN r hr, ?_, ?_⟩
  · intro p hp
    unfold setL at hp
    rw [List.mem_map] at hp
    obtain ⟨q, hq, rfl⟩ := hp
    by_cases e : q.2.1 = k
    · rw [if_pos e]
      have := same_key hK hq hx e
      subst this
      have hn := (hL _ hx).1
      have hp := (hL _ hx).2
      refine ⟨hN _ hn, ?_, ?_, ?_, ?_, ?_⟩
      · exact (cell_set_off _ x 4 x 0 _ (by omega)).trans ((cell_set_off _ x 3 x 0 _ (by omega)).trans ((cell_set_off _ x 2 x 0 _ (by omega)).trans ((cell_set_off w x 1 x 0 _ (by omega)).trans hp.c0)))
      · exact (cell_set_off _ x 4 x 1 _ (by omega)).trans ((cell_set_off _ x 3 x 1 _ (by omega)).trans ((cell_set_off _ x 2 x 1 _ (by omega)).trans (hn.same 1 (by omega) _)))
      · exact (cell_set_off _ x 4 x 2 _ (by omega)).trans ((cell_set_off _ x 3 x 2 _ (by omega)).trans ((hn.set x 1 _).same 2 (by omega) _))
      · exact (cell_set_off _ x 4 x 3 _ (by omega)).trans (((hn.set x 1 _).set x 2 _).same 3 (by omega) _)
      · exact (((hn.set x 1 _).set x 2 _).set x 3 _).same 4 (by omega) _
    · rw [if_neg e]
      have hqx : q.1 ≠ x := fun h => e (by rw [same_blk hd2.2 hq hx h])
      exact ⟨hN _ (hL q hq).1, (hL q hq).2.keep (hO _ hqx)⟩
  · rw [setL_blocks]
    exact hl.keep (fun y _ => h56 y 6 (by omega)) (fun y _ => h56 y 5 (by omega))
structure PutOld (m r : Nat) (L : List Pr) (k : List UInt8) (v : V) (w w' : World) : Prop where
  props : PropsR (some (m, r)) (setL L k v) w'
  fr : Fr (L.map (·.1)) w w'
set_option maxRecDepth 100000 in
set_option maxHeartbeats 2000000 in
theorem pPut_old (b m r : Nat) (L : List Pr) (k : List UInt8) (hk : k.length ≤ maxLen) (vk : Int) (vn : Nat) (vt : List UInt8) (vr : Int) (w : World)
    (hc2 : w.cell? ⟨b, 2, none⟩ = some (.map (some m))) (H : PropsR (some (m, r)) L w) (hA : ApartR m r L) (hKn : (L.map (·.2.1)).Nodup) (hb : ∀ b ∈ blocksR (some (m, r)) L, b < w.heap.size)
    (x : Nat) (k' : List UInt8) (v0 : V) (hf : L.find? (fun q => decide (q.2.1 = k)) = some (x, k', v0)) :
    Calls Tryd.prog 70 #[.pointer (some ⟨b, 2, none⟩), .string (bs k), .agg #[.int .i64 vk, .float .f64 vn, .string (bs vt), .int .i64 vr]] w fun e w' => e = .returned (.tuple #[]) ∧ PutOld m r L k ⟨vk, vn, vt, vr⟩ w w' := by
  have hl := look_alloc H hb k hk
  rw [hf] at hl
  have hlt : b < w.heap.size := by
    rcases Nat.lt_or_ge b w.heap.size with h | h
    · exact h
    · simp [World.cell?, Array.getElem?_eq_none h] at hc2
  have hm := List.mem_of_find?_eq_some hf
  have hkk : k' = k := by have := List.find?_some hf; simpa using this
  subst hkk
  have hx : x < w.heap.size := hb x (by simp only [blocksR, List.mem_cons, List.mem_map]; exact Or.inr (Or.inr ⟨_, hm, rfl⟩))
  have hl' : ∀ o, (Instr.lookup 81 (.map (some m)) (.string (bs k')) false).run Tryd.prog (w.alloc o) = .ok (.pointer (some ⟨x, 0, none⟩)) (w.alloc o) := hl
  have hxN := (H.2.2.1 _ hm).1
  have hxP := (H.2.2.1 _ hm).2
  have h1 := hxP.c1
  have h2 := hxP.c2
  have h3 := hxP.c3
  have h4 := hxP.c4
  have f1 := hxN.free 1
  have f2 := hxN.free 2
  have f3 := hxN.free 3
  have f4 := hxN.free 4
  have hfin : ∀ o, PutOld m r L k' ⟨vk, vn, vt, vr⟩ w ((set4 w x (.int .i64 vk) (.float .f64 vn) (.string (bs vt)) (.int .i64 vr)).alloc o) := by
    intro o
    have hw := H.set (v := ⟨vk, vn, vt, vr⟩) hA hKn hm
    have hsz : (set4 w x (.int .i64 vk) (.float .f64 vn) (.string (bs vt)) (.int .i64 vr)).heap.size = w.heap.size := by unfold set4; rw [heap_size_set, heap_size_set, heap_size_set, heap_size_set]
    refine ⟨hw.keep (fun b h => Below.heap_alloc _ _ _ (by
      rw [hsz]; refine hb b ?_
      unfold blocksR at h ⊢
      rw [setL_blocks] at h
      exact h)), ?_⟩
    have hxm : x ∈ L.map (·.1) := List.mem_map_of_mem (f := fun q : Pr => q.1) hm
    have g : ∀ z ∈ [x], z ∈ L.map (·.1) ∨ w.heap.size ≤ z := fun z hz => Or.inl (by simp only [List.mem_singleton] at hz; rw [hz]; exact hxm)
    exact (((((Fr.refl (L.map (·.1)) w).trans (Fr.set _ x 1 _) g).trans (Fr.set _ x 2 _) g).trans (Fr.set _ x 3 _) g).trans (Fr.set _ x 4 _) g).trans (Fr.alloc _ o) (fun _ h => by cases h)
  have HFIN := Lib.hid hfin
  clear hfin hl hf H hA hKn hb hm hxN hxP
  have hst := store_float
  obtain ⟨S, hS⟩ : ∃ S, S = bs k' := ⟨_, rfl⟩
  rw [← hS] at hl' ⊢
  obtain ⟨T, hT⟩ : ∃ T, T = bs vt := ⟨_, rfl⟩
  rw [← hT] at HFIN ⊢
  clear hS hT
  generalize bs v0.t = T0 at h3
  go_enter Tryd.func70, Tryd.ntmps70
  go_wp2
  refine bodyPost_ret (results_none rfl _ _ _) rfl ?_
  exact ⟨rfl, HFIN.out _⟩
end Go.Proofs.YtmndmnajgfabnaaDoor
