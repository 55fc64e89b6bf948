/- Layer 8: the calls of a heap, one behind the other, with blocks beside it that stay. Conditions: those that each theorem names. -/
import Derived.Test.YtmndmnajgfabnaaDoorHx
namespace Go.Proofs.YtmndmnajgfabnaaDoor
open Go.RowKit Go.Maps
set_option linter.all false

/-- A heap lies at h, in blocks from N on; the blocks L are none of its; below N all is as it was in w0. -/
def Hv (N h : Nat) (A : Hp) (L : List Nat) (w0 w : World) : Prop := ∃ sv gs, HeapG h A sv gs w ∧ A.Few ∧ (∀ b ∈ allBlocks h sv gs, N ≤ b) ∧ (∀ M ∈ L, M < w.heap.size ∧ M ∉ allBlocks h sv gs) ∧ Below N w0 w ∧ N ≤ w.heap.size
structure Nx (N h : Nat) (A : Hp) (L : List Nat) (w0 w w' : World) : Prop where
  hv : Hv N h A L w0 w'
  keep : ∀ M ∈ L, w'.heap[M]? = w.heap[M]?
  size : w.heap.size ≤ w'.heap.size
theorem Hv.fr {N h : Nat} {A : Hp} {L : List Nat} {w0 w w' : World} (H : Hv N h A L w0 w) (hf : Fr [] w w') : Nx N h A L w0 w w' := by
  obtain ⟨sv, gs, hG, hF, h1, h2, h3, h4⟩ := H
  have hs := hf.size
  exact ⟨⟨sv, gs, hG.fr hf, hF, h1, fun M hM => ⟨Nat.lt_of_lt_of_le (h2 M hM).1 hs, (h2 M hM).2⟩, h3.trans (hf.below h4 (fun b hb => by cases hb)), Nat.le_trans h4 hs⟩, fun M hM => hf.block M (h2 M hM).1 List.not_mem_nil, hs⟩
theorem Hv.alloc {N h : Nat} {A : Hp} {L : List Nat} {w0 w : World} (H : Hv N h A L w0 w) (o : Obj) : Hv N h A (w.heap.size :: L) w0 (w.alloc o) := by
  obtain ⟨sv, gs, hG, hF, h1, h2, h3, h4⟩ := H
  refine ⟨sv, gs, hG.fr (Fr.alloc w o), hF, h1, ?_, h3.alloc h4 o, by rw [heap_size]; omega⟩
  intro M hM
  rw [heap_size]
  rcases List.mem_cons.1 hM with rfl | hM
  · exact ⟨by omega, fun hm => Nat.lt_irrefl _ (hG.lt _ hm)⟩
  · exact ⟨by have := (h2 M hM).1; omega, (h2 M hM).2⟩
theorem Hv.step {N h : Nat} {A' : Hp} {L : List Nat} {w0 w w' : World} {sv : Value} {gs : List Gx} (hF : A'.Few) (h1 : ∀ b ∈ allBlocks h sv gs, N ≤ b) (h2 : ∀ M ∈ L, M < w.heap.size ∧ M ∉ allBlocks h sv gs) (h3 : Below N w0 w) (h4 : N ≤ w.heap.size)
    (S : Step h A' (allBlocks h sv gs) w w') : Nx N h A' L w0 w w' := by
  obtain ⟨⟨O', ⟨sv', gs', hG', rfl⟩, hsub⟩, hfr⟩ := S
  have hs := hfr.size
  refine ⟨⟨sv', gs', hG', hF, ?_, ?_, h3.trans (hfr.below h4 h1), Nat.le_trans h4 hs⟩, fun M hM => hfr.block M (h2 M hM).1 (h2 M hM).2, hs⟩
  · intro b hb
    rcases hsub b hb with h | h
    · exact h1 b h
    · omega
  · intro M hM
    refine ⟨Nat.lt_of_lt_of_le (h2 M hM).1 hs, fun hm => ?_⟩
    rcases hsub M hm with h | h
    · exact (h2 M hM).2 h
    · have := (h2 M hM).1; omega
theorem new_h (c : Int) (w0 w : World) (N : Nat) (h3 : Below N w0 w) (h4 : N ≤ w.heap.size) (L : List Nat) (hL : ∀ M ∈ L, M < w.heap.size) : Calls Tryd.prog 14 #[.int .i64 c] w fun e w' => e = .returned (.pointer (some ⟨w.heap.size, 0, none⟩)) ∧ Nx N w.heap.size ⟨[], clampC c⟩ L w0 w w' := by
  refine (new_heap c w).mono ?_
  rintro e w' ⟨rfl, hG, hf⟩
  have hs := hf.size
  have hcl : clampC c ≤ 10000 := by unfold clampC; omega
  refine ⟨rfl, ⟨_, _, hG, ⟨hcl, Nat.zero_le _, fun i o ho => by simp at ho, fun i o ho => by simp at ho, fun i o ho => by simp at ho⟩, ?_, ?_, h3.trans (hf.below h4 (fun b hb => by cases hb)), by omega⟩, fun M hM => hf.block M (hL M hM) List.not_mem_nil, hs⟩
  · intro b hb
    simp [allBlocks, Value.ownBlock] at hb
    omega
  · intro M hM
    have := hL M hM
    refine ⟨by omega, ?_⟩
    simp [allBlocks, Value.ownBlock]
    omega
theorem plain_h {N h : Nat} {A : Hp} {L : List Nat} {w0 w : World} (H : Hv N h A L w0 w) (p : Int) (hF' : (A.make p (plainO p)).2.Few) :
    Calls Tryd.prog 16 #[.pointer (some ⟨h, 0, none⟩), .int .i64 p] w fun e w' => e = .returned (.tuple #[.int .i64 (A.make p (plainO p)).1.1, .int .i64 (A.make p (plainO p)).1.2]) ∧ Nx N h (A.make p (plainO p)).2 L w0 w w' := by
  obtain ⟨sv, gs, hG, hF, h1, h2, h3, h4⟩ := H
  refine (plain_any h A sv gs p w hG hF.left hF.objs).mono ?_
  rintro e w' ⟨rfl, hS⟩
  exact ⟨rfl, Hv.step hF' h1 h2 h3 h4 hS⟩
theorem array_h {N h : Nat} {A : Hp} {L : List Nat} {w0 w : World} (H : Hv N h A L w0 w) (l : List V) (v : Value) (hl : l.length ≤ 10000) (hR : RowAt w v l.length (itemCells l)) (hv : ∀ x ∈ v.ownBlock.toList, x ∈ L ∨ x < N) (hts : ∀ u ∈ l, u.t.length ≤ maxLen) (hF' : (A.array l).2.Few) :
    Calls Tryd.prog 28 #[.pointer (some ⟨h, 0, none⟩), v] w fun e w' => e = .returned (.tuple #[.int .i64 (A.array l).1.1, .int .i64 (A.array l).1.2]) ∧ Nx N h (A.array l).2 L w0 w w' := by
  obtain ⟨sv, gs, hG, hF, h1, h2, h3, h4⟩ := H
  have hhm : h ∈ allBlocks h sv gs := by simp [allBlocks]
  refine (array_any h A sv gs l v w hG hF hl hR ?_ hts).mono ?_
  · intro x hx e
    subst e
    rcases hv x hx with h | h
    · exact (h2 x h).2 hhm
    · have := h1 x hhm; omega
  · rintro e w' ⟨rfl, hS⟩
    exact ⟨rfl, Hv.step hF' h1 h2 h3 h4 hS⟩
theorem lt_of_getElem {α : Type} {l : List α} {i : Nat} {x : α} (h : l[i]? = some x) : i < l.length := by
  rcases Nat.lt_or_ge i l.length with h' | h'
  · exact h'
  · rw [List.getElem?_eq_none h'] at h; cases h
theorem put_h {N h : Nat} {A : Hp} {L : List Nat} {w0 w : World} (H : Hv N h A L w0 w) (i : Nat) (o : Ob) (ho : A.objs[i]? = some o) (k : List UInt8) (hk : k.length ≤ 140737488355328) (vk : Int) (vn : Nat) (vt : List UInt8) (ht : vt.length ≤ maxLen) (vr : Int) (hkind : o.kind ≠ 2) (hv : rightV A.objs.length ⟨vk, vn, vt, vr⟩ = true) (hF' : (A.putOwn i o k ⟨vk, vn, vt, vr⟩).2.Few) :
    Calls Tryd.prog 18 #[.pointer (some ⟨h, 0, none⟩), .int .i64 (i : Int), .string (bs k), .agg #[.int .i64 vk, .float .f64 vn, .string (bs vt), .int .i64 vr]] w fun e w' =>
      e = .returned (.int .i64 (A.putOwn i o k ⟨vk, vn, vt, vr⟩).1) ∧ Nx N h (A.putOwn i o k ⟨vk, vn, vt, vr⟩).2 L w0 w w' := by
  obtain ⟨sv, gs, hG, hF, h1, h2, h3, h4⟩ := H
  have hg : gs[i]? = some (gs[i]'(by rw [← hG.len]; exact lt_of_getElem ho)) := List.getElem?_eq_getElem _
  refine (put_plain h A sv gs i o _ k hk vk vn vt ht vr w hG ho hg hF.left hF.objs (Nat.lt_of_le_of_lt (hF.props i o ho) (by decide)) hkind hv).mono ?_
  rintro e w' ⟨rfl, hS⟩
  exact ⟨rfl, Hv.step hF' h1 h2 h3 h4 hS⟩
theorem get_h {N h : Nat} {A : Hp} {L : List Nat} {w0 w : World} (H : Hv N h A L w0 w) (i : Int) (k : List UInt8) (hk : k.length ≤ 140737488355328) :
    Calls Tryd.prog 24 #[.pointer (some ⟨h, 0, none⟩), .int .i64 i, .string (bs k)] w fun e w' => e = .returned (ansV ((A.find k i).map (·.2))) ∧ Nx N h A L w0 w w' := by
  have H' := H
  obtain ⟨sv, gs, hG, hF, h1, h2, h3, h4⟩ := H
  refine (get_any h A sv gs i k hk w hG hF).mono ?_
  rintro e w' ⟨rfl, hf⟩
  exact ⟨rfl, H'.fr hf⟩
theorem own_h {N h : Nat} {A : Hp} {L : List Nat} {w0 w : World} (H : Hv N h A L w0 w) (i : Nat) (o : Ob) (ho : A.objs[i]? = some o) (k : List UInt8) (hk : k.length ≤ 140737488355328) :
    Calls Tryd.prog 23 #[.pointer (some ⟨h, 0, none⟩), .int .i64 (i : Int), .string (bs k)] w fun e w' => e = .returned (ansV (o.own k)) ∧ Nx N h A L w0 w w' := by
  have H' := H
  obtain ⟨sv, gs, hG, hF, h1, h2, h3, h4⟩ := H
  refine (own_any h A sv gs i o k hk w hG ho hF.objs (hF.items i o ho)).mono ?_
  rintro e w' ⟨rfl, hf⟩
  exact ⟨rfl, H'.fr hf⟩
theorem drop_h {N h : Nat} {A : Hp} {L : List Nat} {w0 w : World} (H : Hv N h A L w0 w) (i : Nat) (o : Ob) (ho : A.objs[i]? = some o) (k : List UInt8) (hk : k.length ≤ 140737488355328) (hkind : o.kind ≠ 2) (v : V) (hv : lookP o.props k = some v) (hF' : Hp.Few ⟨A.objs.set i { o with props := dropP o.props k }, A.left + 1⟩) :
    Calls Tryd.prog 26 #[.pointer (some ⟨h, 0, none⟩), .int .i64 (i : Int), .string (bs k)] w fun e w' => e = .returned (.bool true) ∧ Nx N h ⟨A.objs.set i { o with props := dropP o.props k }, A.left + 1⟩ L w0 w w' := by
  obtain ⟨sv, gs, hG, hF, h1, h2, h3, h4⟩ := H
  refine (drop_props h A sv gs i o k hk w hG hF ho (fun e => hkind e.1) (by unfold oIdx; rw [if_neg hkind]) v hv).mono ?_
  rintro e w' ⟨rfl, hS⟩
  exact ⟨rfl, Hv.step hF' h1 h2 h3 h4 hS⟩
theorem keys_h {N h : Nat} {A : Hp} {L : List Nat} {w0 w : World} (H : Hv N h A L w0 w) (N' : Nat) (hT : Tb N' w) (i : Nat) (o : Ob) (ho : A.objs[i]? = some o) :
    Calls Tryd.prog 17 #[.pointer (some ⟨h, 0, none⟩), .int .i64 (i : Int)] w fun e w' => ∃ p cap, e = .returned (.slice p (o.items.length + o.props.length) cap) ∧ w'.ownsRow w.heap.size 9 1 (.slice p (o.items.length + o.props.length) cap) (o.items.length + o.props.length) o.keyVs ∧ Nx N h A L w0 w w' ∧ Fr [] w w' := by
  have H' := H
  obtain ⟨sv, gs, hG, hF, h1, h2, h3, h4⟩ := H
  refine (keys_any N' h A sv gs i o w hG hF ho hT).mono ?_
  rintro e w' ⟨v', rfl, ho', hf⟩
  obtain ⟨p, cap, hv⟩ := row_slice ho'
  subst hv
  exact ⟨p, cap, rfl, ho', H'.fr hf, hf⟩
end Go.Proofs.YtmndmnajgfabnaaDoor
