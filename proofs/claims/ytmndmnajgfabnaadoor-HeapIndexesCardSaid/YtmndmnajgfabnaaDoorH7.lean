/- Layer 8: an object's properties: put of a new key. Conditions: those that each theorem names. -/
import Derived.Test.YtmndmnajgfabnaaDoorH6
import Derived.WalkSpells
namespace Go.Proofs.YtmndmnajgfabnaaDoor
open Go.RowKit Go.Maps
set_option linter.all false

structure PutNew (m r : Nat) (L : List Pr) (k : List UInt8) (v : V) (w w' : World) : Prop where
  props : ∃ x, w.heap.size ≤ x ∧ x < w'.heap.size ∧ PropsR (some (m, r)) (L ++ [(x, k, v)]) w'
  fr : Fr (m :: r :: L.map (·.1)) w w'
set_option maxRecDepth 100000 in
set_option maxHeartbeats 2000000 in
theorem pPut_new (b m r : Nat) (L : List Pr) (k : List UInt8) (hk : k.length ≤ maxLen) (vk : Int) (vn : Nat) (vt : List UInt8) (vr : Int) (w : World)
    (hc2 : w.cell? ⟨b, 2, none⟩ = some (.map (some m))) (hc3 : w.cell? ⟨b, 3, none⟩ = some (.pointer (some ⟨r, 0, none⟩))) (H : PropsR (some (m, r)) L w) (hA : ApartR m r L) (hbb : b ∉ m :: r :: L.map (·.1)) (hb : ∀ b ∈ blocksR (some (m, r)) L, b < w.heap.size)
    (hf : L.find? (fun q => decide (q.2.1 = k)) = none) (hn : L.length < maxLen) :
    Calls Tryd.prog 70 #[.pointer (some ⟨b, 2, none⟩), .string (bs k), .agg #[.int .i64 vk, .float .f64 vn, .string (bs vt), .int .i64 vr]] w fun e w' => e = .returned (.tuple #[]) ∧ PutNew m r L k ⟨vk, vn, vt, vr⟩ w w' := by
  have hl := look_alloc H hb k hk
  rw [hf] at hl
  have hlt : b < w.heap.size := by
    rcases Nat.lt_or_ge b w.heap.size with h | h
    · exact h
    · simp [World.cell?, Array.getElem?_eq_none h] at hc2
  have hrl : r < w.heap.size := hb r (by simp [blocksR])
  have hr5 : w.cell? ⟨r, 5, none⟩ = some (ptr (lastN r (L.map (·.1)))) := H.2.2.2.last.2
  obtain ⟨q, hq⟩ : ∃ q, lastN r (L.map (·.1)) = q := ⟨_, rfl⟩
  rw [hq] at hr5
  have hr5' : w.cell? ⟨r, 5, none⟩ = some (.pointer (some ⟨q, 0, none⟩)) := hr5
  clear hr5
  have hl' : ∀ o, (Instr.lookup 81 (.map (some m)) (.string (bs k)) false).run Tryd.prog (w.alloc o) = .ok (.pointer none) (w.alloc o) := hl
  have HH := Lib.hid H
  have HA := Lib.hid hA
  have HBB := Lib.hid hbb
  have HB := Lib.hid hb
  have HF := Lib.hid hf
  have HN := Lib.hid hn
  have HQ := Lib.hid hq
  have HK := Lib.hid hk
  clear hl H hA hbb hb hf hn hq hk
  have hst := store_float
  have qT : ∀ (w : World) (r : Nat), (binOp .eql 81 (.map (some r)) (.map none)).run Tryd.prog w = .ok (.bool false) w := fun w r => run_eql_map_nil w _ _ _ (some r) Tryd.underlying81
  obtain ⟨S, hS⟩ : ∃ S, S = bs k := ⟨_, rfl⟩
  rw [← hS] at hl' ⊢
  obtain ⟨T, hT⟩ : ∃ T, T = bs vt := ⟨_, rfl⟩
  rw [← hT]
  have HS := Lib.hid hS
  have HT := Lib.hid hT
  clear hS hT
  go_enter Tryd.func70, Tryd.ntmps70
  go_wp2
  go_region
  obtain ⟨x, hx⟩ : ∃ x, x = w.heap.size + 1 := ⟨_, rfl⟩
  rw [← hx]
  have e1 := heap_new (w.alloc (.cells #[.int .i64 vk, .float .f64 vn, .string T, .int .i64 vr] 31)) (.cells #[.string S, .int .i64 vk, .float .f64 vn, .string T, .int .i64 vr, .pointer (some ⟨q, 0, none⟩), .pointer (some ⟨r, 0, none⟩)] 114)
  have r1 : Fr [] w ((w.alloc (.cells #[.int .i64 vk, .float .f64 vn, .string T, .int .i64 vr] 31)).alloc (.cells #[.string S, .int .i64 vk, .float .f64 vn, .string T, .int .i64 vr, .pointer (some ⟨q, 0, none⟩), .pointer (some ⟨r, 0, none⟩)] 114)).drew := ((Fr.alloc _ _).trans (Fr.alloc _ _) (fun _ h => by cases h)).drew
  have s1 : ((w.alloc (.cells #[.int .i64 vk, .float .f64 vn, .string T, .int .i64 vr] 31)).alloc (.cells #[.string S, .int .i64 vk, .float .f64 vn, .string T, .int .i64 vr, .pointer (some ⟨q, 0, none⟩), .pointer (some ⟨r, 0, none⟩)] 114)).drew.heap.size = w.heap.size + 2 := by rw [heap_drew, heap_size, heap_size]
  rw [heap_size, ← hx, ← heap_drew] at e1
  generalize ((w.alloc (.cells #[.int .i64 vk, .float .f64 vn, .string T, .int .i64 vr] 31)).alloc (.cells #[.string S, .int .i64 vk, .float .f64 vn, .string T, .int .i64 vr, .pointer (some ⟨q, 0, none⟩), .pointer (some ⟨r, 0, none⟩)] 114)).drew = W1 at e1 r1 s1 ⊢
  have H1 : PropsR (some (m, r)) L W1 := HH.out.keep (fun b hb => r1.block b (HB.out b hb) List.not_mem_nil)
  have k2 : W1.cell? ⟨b, 2, none⟩ = some (.map (some m)) := (r1.cell hlt List.not_mem_nil 2).trans hc2
  have x5 : W1.cell? ⟨x, 5, none⟩ = some (.pointer (some ⟨q, 0, none⟩)) := blk_cell e1 5 _ rfl
  have x6 : W1.cell? ⟨x, 6, none⟩ = some (.pointer (some ⟨r, 0, none⟩)) := blk_cell e1 6 _ rfl
  have q6 : W1.cell? ⟨q, 6, none⟩ = some (.pointer (some ⟨r, 0, none⟩)) := by rw [← HQ.out]; exact H1.2.2.2.last.1
  have r5 : W1.cell? ⟨r, 5, none⟩ = some (.pointer (some ⟨q, 0, none⟩)) := by rw [← HQ.out]; exact H1.2.2.2.last.2
  have hqm : q ∈ r :: L.map (·.1) := by rw [← HQ.out]; exact lastN_mem _ _
  have qN : Nd q W1 := by
    rw [List.mem_cons] at hqm
    rcases hqm with h | h
    · rw [h]; exact H1.2.1
    · rw [List.mem_map] at h
      obtain ⟨p, hp, rfl⟩ := h
      exact (H1.2.2.1 p hp).1
  have hxn : x ∉ m :: r :: L.map (·.1) := by
    intro h
    have := HB.out x h
    omega
  have qf := qN.free 6
  have rf := H1.2.1.free 5
  have hbq : b ≠ q := fun e => HBB.out (by rw [e]; exact List.mem_cons_of_mem _ hqm)
  have hbr : b ≠ r := fun e => HBB.out (by rw [e]; simp)
  have hxq : x ≠ q := fun e => hxn (by rw [e]; exact List.mem_cons_of_mem _ hqm)
  have hxr : x ≠ r := fun e => hxn (by rw [e]; simp)
  have hqM : q ≠ m := by
    intro e
    have hd1 := List.nodup_cons.1 HA.out
    rw [List.mem_cons] at hqm hd1
    rcases hqm with h | h
    · exact hd1.1 (Or.inl (by rw [← e, h]))
    · exact hd1.1 (Or.inr (by rw [← e]; exact h))
  have hrM : r ≠ m := by
    intro e
    have hd1 := List.nodup_cons.1 HA.out
    rw [List.mem_cons] at hd1
    exact hd1.1 (Or.inl e.symm)
  have hM3 : MapP Tryd.prog 9 m (keysB L) ((W1.setCell ⟨q, 6, none⟩ (.pointer (some ⟨x, 0, none⟩))).setCell ⟨r, 5, none⟩ (.pointer (some ⟨x, 0, none⟩))) :=
    H1.1.keep ((heap_set_other (Ne.symm hrM) 5 _).trans (heap_set_other (Ne.symm hqM) 6 _))
  have hlen : (keysB L).length = L.length := by unfold keysB; rw [List.length_map]
  have hany : (keysB L).any (fun q => decide (q.1 = k)) = false := by rw [keysB_any, find_any, HF.out]; rfl
  obtain ⟨w4, hrun, hM4, ht4⟩ := hM3.put (T := 81) (E := 82) Tryd.underlying9 Tryd.underlying81 (by rw [hlen]; exact HN.out) k HK.out S (by rw [HS.out]; rfl) x hany
  have hfin : PutNew m r L k ⟨vk, vn, vt, vr⟩ w w4 := by
    have hxN : Nd x W1 := ⟨_, e1, rfl⟩
    have e1' := e1
    rw [HS.out, HT.out] at e1'
    have hxP : Pay x k ⟨vk, vn, vt, vr⟩ W1 := ⟨blk_cell e1' 0 _ rfl, blk_cell e1' 1 _ rfl, blk_cell e1' 2 _ rfl, blk_cell e1' 3 _ rfl, blk_cell e1' 4 _ rfl⟩
    have hs4 : w4.heap.size = w.heap.size + 2 := by rw [turned_size ht4, heap_size_set, heap_size_set, s1]
    refine ⟨⟨x, by omega, by omega, H1.snoc HA.out hxN hxP x5 x6 HQ.out hxn hM4 ht4⟩, ?_⟩
    have f1 : Fr (m :: r :: L.map (·.1)) w (W1.setCell ⟨q, 6, none⟩ (.pointer (some ⟨x, 0, none⟩))) := (r1.mono (fun _ h => by cases h)).trans (Fr.set W1 q 6 _) (fun b hb => Or.inl (by simp only [List.mem_singleton] at hb; rw [hb]; exact List.mem_cons_of_mem _ hqm))
    exact (f1.trans (Fr.set _ r 5 _) (fun b hb => Or.inl (by simp only [List.mem_singleton] at hb; rw [hb]; simp))).trans (Fr.turned ht4) (fun b hb => Or.inl (by simp only [List.mem_singleton] at hb; rw [hb]; simp))
  have HFIN := Lib.hid hfin
  clear hfin e1 r1 s1 H1 qN hqm hxn hx hlt hrl hl' hc2 hc3 hr5' hqM hrM hM3 hlen hany hM4 ht4 HH HA HBB HB HF HN HQ HK HS HT
  go_wp2
  go_end0
  exact ⟨rfl, HFIN.out⟩
end Go.Proofs.YtmndmnajgfabnaaDoor
