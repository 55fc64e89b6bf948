/- Layer 8: an object's properties: has, get, open. Conditions: those that each theorem names. -/
import Derived.Test.YtmndmnajgfabnaaDoorH3
namespace Go.Proofs.YtmndmnajgfabnaaDoor
open Go.RowKit Go.Maps
set_option linter.all false

theorem PropsR.look {op : Option (Nat × Nat)} {L : List Pr} {w : World} (H : PropsR op L w) (k : List UInt8) (hk : k.length ≤ maxLen) :
    (Instr.lookup 81 (mapV op) (.string (bs k)) false).run Tryd.prog w = .ok (ptrOf ((L.find? (fun q => decide (q.2.1 = k))).map (·.1))) w := by
  have hz : (zeroValue 82).run Tryd.prog w = .ok (.pointer none) w := Tryd.zeroValue82 w
  rcases op with _ | ⟨m, r⟩
  · have hL : L = [] := H
    subst hL
    have hkey : keyOf Tryd.prog 9 (.string (bs k)) = some (.string k) := WideMaps.keyOf_string_mk Tryd.underlying9 (s := bs k) (by rw [bs_size]; exact hk)
    exact Maps.look_nil (P := Tryd.prog) false (string_keyed Tryd.underlying9) Tryd.underlying81 hz hkey
  · have := H.1.look Tryd.underlying9 Tryd.underlying81 hz k hk (bs k) rfl
    rw [keysB_look] at this
    exact this
theorem find_any (L : List Pr) (k : List UInt8) : L.any (fun q => decide (q.2.1 = k)) = (L.find? (fun q => decide (q.2.1 = k))).isSome := by
  rw [List.isSome_find?]
theorem pHas_any (b : Nat) (op : Option (Nat × Nat)) (L : List Pr) (k : List UInt8) (hk : k.length ≤ maxLen) (w : World) (hc : w.cell? ⟨b, 2, none⟩ = some (mapV op)) (H : PropsR op L w) :
    Calls Tryd.prog 69 #[.pointer (some ⟨b, 2, none⟩), .string (bs k)] w fun e w' => e = .returned (.bool (L.any (fun q => decide (q.2.1 = k)))) ∧ w = w' := by
  have hl := H.look k hk
  rw [find_any]
  generalize L.find? (fun q => decide (q.2.1 = k)) = f at hl
  generalize bs k = K at hl
  generalize mapV op = M at hl hc
  clear H hk
  cases f with
  | none =>
    have hl' : (Instr.lookup 81 M (.string K) false).run Tryd.prog w = .ok (.pointer none) w := hl
    clear hl
    go_enter Tryd.func69, Tryd.ntmps69
    go_wp2
    go_ret
    exact ⟨rfl, rfl⟩
  | some q =>
    have hl' : (Instr.lookup 81 M (.string K) false).run Tryd.prog w = .ok (.pointer (some ⟨q.1, 0, none⟩)) w := hl
    clear hl
    go_enter Tryd.func69, Tryd.ntmps69
    go_wp2
    go_ret
    exact ⟨rfl, rfl⟩
theorem look_alloc {op : Option (Nat × Nat)} {L : List Pr} {w : World} (H : PropsR op L w) (hb : ∀ b ∈ blocksR op L, b < w.heap.size) (k : List UInt8) (hk : k.length ≤ maxLen) (o : Obj) :
    (Instr.lookup 81 (mapV op) (.string (bs k)) false).run Tryd.prog (w.alloc o) = .ok (ptrOf ((L.find? (fun q => decide (q.2.1 = k))).map (·.1))) (w.alloc o) :=
  (H.keep (w' := w.alloc o) (fun b h => Below.heap_alloc _ _ _ (hb b h))).look k hk
theorem pGet_none (b : Nat) (op : Option (Nat × Nat)) (L : List Pr) (k : List UInt8) (hk : k.length ≤ maxLen) (w : World) (hc : w.cell? ⟨b, 2, none⟩ = some (mapV op)) (H : PropsR op L w) (hb : ∀ b ∈ blocksR op L, b < w.heap.size) (hf : L.find? (fun q => decide (q.2.1 = k)) = none) :
    Calls Tryd.prog 54 #[.pointer (some ⟨b, 2, none⟩), .string (bs k)] w fun e w' => e = .returned (.tuple #[.agg #[.int .i64 0, .float .f64 0, .string ⟨#[]⟩, .int .i64 0], .bool false]) ∧ Below w.heap.size w w' := by
  have hl := look_alloc H hb k hk
  rw [hf] at hl
  have hlt : b < w.heap.size := by
    rcases Nat.lt_or_ge b w.heap.size with h | h
    · exact h
    · simp [World.cell?, Array.getElem?_eq_none h] at hc
  generalize bs k = K at hl
  generalize mapV op = M at hl hc
  have hl' : ∀ o, (Instr.lookup 81 M (.string K) false).run Tryd.prog (w.alloc o) = .ok (.pointer none) (w.alloc o) := hl
  clear hl H hb hf hk
  have hst := store_float
  go_enter Tryd.func54, Tryd.ntmps54
  go_wp2
  exact bodyPost_ret (v := .tuple #[.agg #[.int .i64 0, .float .f64 0, .string ⟨#[]⟩, .int .i64 0], .bool false]) (by simp [results, Tryd.results54, go_sem]) rfl ⟨rfl, (Below.refl _ _).alloc (Nat.le_refl _) _⟩
theorem pGet_some (b : Nat) (op : Option (Nat × Nat)) (L : List Pr) (k : List UInt8) (hk : k.length ≤ maxLen) (w : World) (hc : w.cell? ⟨b, 2, none⟩ = some (mapV op)) (H : PropsR op L w) (hb : ∀ b ∈ blocksR op L, b < w.heap.size) (x : Nat) (k' : List UInt8) (v : V) (hf : L.find? (fun q => decide (q.2.1 = k)) = some (x, k', v)) :
    Calls Tryd.prog 54 #[.pointer (some ⟨b, 2, none⟩), .string (bs k)] w fun e w' => e = .returned (.tuple #[.agg #[.int .i64 v.k, .float .f64 v.n, .string (bs v.t), .int .i64 v.r], .bool true]) ∧ Below w.heap.size w w' := by
  have hl := look_alloc H hb k hk
  rw [hf] at hl
  have hlt : b < w.heap.size := by
    rcases Nat.lt_or_ge b w.heap.size with h | h
    · exact h
    · simp [World.cell?, Array.getElem?_eq_none h] at hc
  have hm := List.mem_of_find?_eq_some hf
  obtain ⟨m, r, rfl⟩ : ∃ m r, op = some (m, r) := by
    rcases op with _ | ⟨m, r⟩
    · have : L = [] := H
      subst this
      cases hm
    · exact ⟨m, r, rfl⟩
  have hP := (H.2.2.1 _ hm).2
  have hx : x < w.heap.size := hb x (by simp only [blocksR, List.mem_cons, List.mem_map]; exact Or.inr (Or.inr ⟨_, hm, rfl⟩))
  have h1 : ∀ o, (w.alloc o).cell? ⟨x, 1, none⟩ = some (.int .i64 v.k) := fun o => (cell_keep (Below.heap_alloc _ _ _ hx) 1).trans hP.c1
  have h2 : ∀ o, (w.alloc o).cell? ⟨x, 2, none⟩ = some (.float .f64 v.n) := fun o => (cell_keep (Below.heap_alloc _ _ _ hx) 2).trans hP.c2
  have h3 : ∀ o, (w.alloc o).cell? ⟨x, 3, none⟩ = some (.string (bs v.t)) := fun o => (cell_keep (Below.heap_alloc _ _ _ hx) 3).trans hP.c3
  have h4 : ∀ o, (w.alloc o).cell? ⟨x, 4, none⟩ = some (.int .i64 v.r) := fun o => (cell_keep (Below.heap_alloc _ _ _ hx) 4).trans hP.c4
  generalize bs k = K at hl
  generalize mapV (some (m, r)) = M at hl hc
  generalize bs v.t = T at h3 ⊢
  generalize v.k = vk at h1 ⊢
  generalize v.n = vn at h2 ⊢
  generalize v.r = vr at h4 ⊢
  have hl' : ∀ o, (Instr.lookup 81 M (.string K) false).run Tryd.prog (w.alloc o) = .ok (.pointer (some ⟨x, 0, none⟩)) (w.alloc o) := hl
  clear hl H hb hf hk hm hP
  have hst := store_float
  go_enter Tryd.func54, Tryd.ntmps54
  go_wp2
  exact bodyPost_ret (v := .tuple #[.agg #[.int .i64 vk, .float .f64 vn, .string T, .int .i64 vr], .bool true]) (by simp [results, Tryd.results54, go_sem]) rfl ⟨rfl, (Below.refl _ _).alloc (Nat.le_refl _) _⟩
end Go.Proofs.YtmndmnajgfabnaaDoor
