/- Layer 8: a map of keys to blocks, as a list; what a piece of code may touch; a ring of blocks. Conditions: those that each theorem names. -/
import Derived.Test.YtmndmnajgfabnaaDoorL2
import Derived.Maps.OwnSet
import Derived.Maps.StringElems
import Derived.StringKeys
import Derived.WalkKit
import Derived.Laws.AppendOwn
import Derived.OneCell
namespace Go.Proofs.YtmndmnajgfabnaaDoor
open Go.RowKit Go.Maps
set_option linter.all false

/-- How a pointer to a block's head reads, as an element of a map. -/
def ptrElem : Value → Option (DataW Unit × List MemPlace)
  | .pointer none => some (.lit (.int .i64 (-1)), [])
  | .pointer (some ⟨b, 0, none⟩) => some (.lit (.int .i64 (b : Int)), [])
  | _ => none
def ptrOf : Option Nat → Value
  | none => .pointer none
  | some b => .pointer (some ⟨b, 0, none⟩)
theorem ptrElem_inv {v : Value} {o : Option Nat} {ps : List MemPlace} (h : ptrElem v = some (match o with | some b => (.lit (.int .i64 (b : Int))) | none => .lit (.int .i64 (-1)), ps)) : v = ptrOf o := by
  unfold ptrElem at h
  split at h
  · cases o with
    | none => rfl
    | some b =>
      simp only [Option.some.injEq, Prod.mk.injEq, DataW.lit.injEq, Lit.int.injEq] at h
      omega
  · cases o with
    | none =>
      simp only [Option.some.injEq, Prod.mk.injEq, DataW.lit.injEq, Lit.int.injEq] at h
      omega
    | some b =>
      simp only [Option.some.injEq, Prod.mk.injEq, DataW.lit.injEq, Lit.int.injEq] at h
      obtain ⟨⟨_, h⟩, _⟩ := h
      have : _ = b := Int.ofNat.inj h
      subst this
      rfl
  · cases h

/-- The block that a key stands for. -/
def lookB (l : List (List UInt8 × Nat)) (k : List UInt8) : Option Nat := (l.find? (fun q => decide (q.1 = k))).map (·.2)
def litOf (o : Option Nat) : DataW Unit := match o with | some b => .lit (.int .i64 (b : Int)) | none => .lit (.int .i64 (-1))

theorem keyLit (k : List UInt8) : WideAt.IsKeyLit (.string k) := trivial
/-- Block m is a map of these keys to these blocks. -/
def MapP (P : Program) (K : TypeId) (m : Nat) (l : List (List UInt8 × Nat)) (w : World) : Prop :=
  ∃ D, w.ownsMap P K ptrElem m l.length D ∧ Tidy D ∧ Maps.size D = l.length ∧ (∀ k, Maps.has D (.string k) = l.any (fun q => decide (q.1 = k))) ∧ ∀ k, D.atKey (.string k) (.lit (.int .i64 (-1))) = litOf (lookB l k)

section
variable {P : Program} {K T E : TypeId} {m : Nat} {l : List (List UInt8 × Nat)} {w : World}

theorem MapP.lt (h : MapP P K m l w) : m < w.heap.size := by
  obtain ⟨D, h, _⟩ := h; exact h.lt
theorem MapP.keep {w' : World} (h : MapP P K m l w) (hb : w'.heap[m]? = w.heap[m]?) : MapP P K m l w' := by
  obtain ⟨D, ⟨es, clock, hm, r⟩, h⟩ := h
  exact ⟨D, ⟨es, clock, by rw [hb]; exact hm, r⟩, h⟩
theorem MapP.made (w : World) : MapP P K w.heap.size [] (w.alloc (.map #[] 0)) :=
  ⟨.map [], World.ownsMap_made _ _ _ _, tidy_empty, rfl, fun _ => rfl, fun _ => rfl⟩
theorem tight {R : Value → Option (DataW Unit × List MemPlace)} {n : Nat} {D : DataW Unit} (h : w.ownsMap P K R m n D) : w.ownsMap P K R m (Maps.size D) D := by
  obtain ⟨es, clock, hb, F, hs, rfl⟩ := h
  refine ⟨es, clock, hb, F, ?_, rfl⟩
  simp [Maps.size, length_sorted]
theorem lookB_any (l : List (List UInt8 × Nat)) (k : List UInt8) : (lookB l k).isSome = l.any (fun q => decide (q.1 = k)) := by
  unfold lookB
  rw [Option.isSome_map, List.isSome_find?]

/-- The look into the map. -/
theorem MapP.look (h : MapP P K m l w) (hk : P.underlying K = some .string) (hT : P.underlying T = some (.map K E)) (hz : (zeroValue E).run P w = .ok (.pointer none) w) (k : List UInt8) (hl : k.length ≤ maxLen) (s : ByteArray) (hs : s.data.toList = k) :
    (Instr.lookup T (.map (some m)) (.string s) false).run P w = .ok (ptrOf (lookB l k)) w := by
  obtain ⟨D, ho, _, _, _, hat⟩ := h
  have hkey : keyOf P K (.string s) = some (.string k) := by
    rw [← hs]; exact WideMaps.keyOf_string_mk hk (by have h1 : s.size = s.data.toList.length := (Array.length_toList).symm; rw [h1, hs]; exact hl)
  obtain ⟨v, ps, hrun, hv⟩ := ho.lookup (string_keyed hk) hT hz (zd := .lit (.int .i64 (-1))) (zp := []) rfl hkey
  rw [hat k] at hv
  have := ptrElem_inv (v := v) (o := lookB l k) (ps := ps) hv
  rw [hrun, this]

theorem find_snoc (l : List (List UInt8 × Nat)) (k k' : List UInt8) (b : Nat) (h : l.any (fun q => decide (q.1 = k)) = false) : lookB (l ++ [(k, b)]) k' = if k' = k then some b else lookB l k' := by
  unfold lookB
  rw [List.find?_append]
  by_cases e : k' = k
  · subst e
    have : l.find? (fun q => decide (q.1 = k')) = none := by
      cases hf : l.find? (fun q => decide (q.1 = k')) with
      | none => rfl
      | some q =>
        have h1 := List.mem_of_find?_eq_some hf
        have h2 := List.find?_some hf
        rw [List.any_eq_false] at h
        exact absurd h2 (h q h1)
    rw [this, if_pos rfl]
    simp
  · rw [if_neg e]
    have : List.find? (fun q => decide (q.1 = k')) [(k, b)] = none := by
      rw [List.find?_cons, decide_eq_false (fun h => e (Eq.symm h))]; rfl
    rw [this, Option.or_none]
/-- A new key comes in. -/
theorem MapP.put (h : MapP P K m l w) (hk : P.underlying K = some .string) (hT : P.underlying T = some (.map K E)) (hn : l.length < maxLen) (k : List UInt8) (hl : k.length ≤ maxLen) (s : ByteArray) (hs : s.data.toList = k) (b : Nat) (hnew : l.any (fun q => decide (q.1 = k)) = false) :
    ∃ w', (Instr.mapUpdate T (.map (some m)) (.string s) (.pointer (some ⟨b, 0, none⟩))).run P w = .ok () w' ∧ MapP P K m (l ++ [(k, b)]) w' ∧ w.mapTurned w' m := by
  obtain ⟨D, ho, ht, hsz, hh, hat⟩ := h
  have hkey : keyOf P K (.string s) = some (.string k) := by
    rw [← hs]; exact WideMaps.keyOf_string_mk hk (by have h1 : s.size = s.data.toList.length := (Array.length_toList).symm; rw [h1, hs]; exact hl)
  obtain ⟨w', hrun, ho', hturn⟩ := ho.store (string_keyed hk) hT hn hkey (val := .pointer (some ⟨b, 0, none⟩)) (d := .lit (.int .i64 (b : Int))) (ps := []) rfl
  refine ⟨w', hrun, ⟨_, by rw [List.length_append]; exact ho', ht.put (keyLit k) _, ?_, ?_, ?_⟩, hturn⟩
  · rw [size_put ht, hh k, hnew, hsz, List.length_append]; rfl
  · intro k'
    rw [List.any_append, ← hh k']
    by_cases e : k' = k
    · subst e
      rw [has_put_same ht.isMap (keyLit _)]
      simp
    · rw [has_put_other (fun h => e (by cases h; rfl))]
      have : ([(k, b)] : List (List UInt8 × Nat)).any (fun q => decide (q.1 = k')) = false := by
        rw [List.any_cons, decide_eq_false (fun h => e (Eq.symm h))]; rfl
      rw [this, Bool.or_false]
  · intro k'
    rw [find_snoc l k k' b hnew]
    by_cases e : k' = k
    · subst e
      rw [if_pos rfl]
      exact atKey_put_same ht.isMap (keyLit _) _ _
    · rw [if_neg e, ← hat k']
      exact atKey_put_other (fun h => e (by cases h; rfl)) _ _
theorem look_strike (l : List (List UInt8 × Nat)) (k k' : List UInt8) : lookB (l.filter (fun q => decide (q.1 ≠ k))) k' = if k' = k then none else lookB l k' := by
  unfold lookB
  by_cases e : k' = k
  · subst e
    rw [if_pos rfl]
    have : (l.filter (fun q => decide (q.1 ≠ k'))).find? (fun q => decide (q.1 = k')) = none := by
      rw [List.find?_eq_none]
      intro x hx
      simp only [List.mem_filter, decide_eq_true_eq] at hx ⊢
      exact hx.2
    rw [this]; rfl
  · rw [if_neg e, find_filter_keep (fun p hp => by simp only [decide_eq_true_eq] at hp ⊢; rw [hp]; exact e)]
/-- A key goes. -/
theorem MapP.del (h : MapP P K m l w) (hk : P.underlying K = some .string) (hT : P.underlying T = some (.map K E)) (k : List UInt8) (hl : k.length ≤ maxLen) (s : ByteArray) (hs : s.data.toList = k) (ty : TypeId)
    (hlen : (l.filter (fun q => decide (q.1 ≠ k))).length + (if l.any (fun q => decide (q.1 = k)) then 1 else 0) = l.length) :
    ∃ w', (Builtin.delete_ #[T, K] ty #[.map (some m), .string s]).run P w = .ok (.tuple #[]) w' ∧ MapP P K m (l.filter (fun q => decide (q.1 ≠ k))) w' ∧ w.mapTurned w' m := by
  obtain ⟨D, ho, ht, hsz, hh, hat⟩ := h
  have hkey : keyOf P K (.string s) = some (.string k) := by
    rw [← hs]; exact WideMaps.keyOf_string_mk hk (by have h1 : s.size = s.data.toList.length := (Array.length_toList).symm; rw [h1, hs]; exact hl)
  obtain ⟨w', hrun, ho', hturn⟩ := ho.drop (string_keyed hk) hT hkey ty
  have hs' : Maps.size (D.del (.string k)) = (l.filter (fun q => decide (q.1 ≠ k))).length := by
    have := size_del (k := .string k) ht
    rw [hh k, hsz] at this
    omega
  refine ⟨w', hrun, ⟨_, by rw [← hs']; exact tight ho', ht.del _, hs', ?_, ?_⟩, hturn⟩
  · intro k'
    by_cases e : k' = k
    · subst e
      rw [has_del_same]
      symm
      rw [List.any_eq_false]
      intro x hx
      simp only [List.mem_filter, decide_eq_true_eq] at hx ⊢
      exact hx.2
    · rw [has_del_other (fun h => e (by cases h; rfl)), hh k', any_filter_keep (fun p hp => by simp only [decide_eq_true_eq] at hp ⊢; rw [hp]; exact e)]
  · intro k'
    rw [look_strike]
    by_cases e : k' = k
    · subst e
      rw [if_pos rfl]
      exact atKey_del_same _
    · rw [if_neg e, ← hat k']
      exact atKey_del_other (fun h => e (by cases h; rfl)) _
end

/-- All blocks that there were, but those of O, are as they were. -/
structure Fr (O : List Nat) (w w' : World) : Prop where
  os : w'.os = w.os
  tape : w'.tape = w.tape
  output : w'.output = w.output
  size : w.heap.size ≤ w'.heap.size
  block : ∀ k, k < w.heap.size → k ∉ O → w'.heap[k]? = w.heap[k]?
theorem Fr.refl (O : List Nat) (w : World) : Fr O w w := ⟨rfl, rfl, rfl, Nat.le_refl _, fun _ _ _ => rfl⟩
theorem Fr.trans {O O' : List Nat} {w w1 w2 : World} (h : Fr O w w1) (k : Fr O' w1 w2) (hO : ∀ b ∈ O', b ∈ O ∨ w.heap.size ≤ b) : Fr O w w2 :=
  ⟨k.os.trans h.os, k.tape.trans h.tape, k.output.trans h.output, Nat.le_trans h.size k.size, fun i hi hb => (k.block i (Nat.lt_of_lt_of_le hi h.size) (fun hm => by rcases hO i hm with h1 | h1; exact hb h1; omega)).trans (h.block i hi hb)⟩
theorem Fr.of_below {w w' : World} (h : Below w.heap.size w w') : Fr [] w w' := ⟨h.os, h.tape, h.output, h.size, fun k hk _ => h.block k hk⟩
theorem Fr.mono {O O' : List Nat} {w w' : World} (h : Fr O w w') (hO : ∀ b ∈ O, b ∈ O' ∨ w.heap.size ≤ b) : Fr O' w w' :=
  ⟨h.os, h.tape, h.output, h.size, fun k hk hb => h.block k hk (fun hm => by rcases hO k hm with h1 | h1; exact hb h1; omega)⟩
theorem Fr.below {O : List Nat} {w w' : World} (h : Fr O w w') {B : Nat} (hB : B ≤ w.heap.size) (hO : ∀ b ∈ O, B ≤ b) : Below B w w' := ⟨h.os, h.tape, h.output, h.size, fun k hk => h.block k (by omega) (fun hm => by have := hO k hm; omega)⟩
theorem Fr.set (w : World) (b o : Nat) (v : Value) : Fr [b] w (w.setCell ⟨b, o, none⟩ v) := ⟨rfl, rfl, rfl, by simp [World.setCell], fun k _ hk => Below.heap_setCell _ _ _ _ (fun e => hk (by simp [e]))⟩
theorem Fr.alloc (w : World) (o : Obj) : Fr [] w (w.alloc o) := .of_below ((Below.refl _ _).alloc (Nat.le_refl _) _)
theorem Fr.turned {w w' : World} {m : Nat} (h : w.mapTurned w' m) : Fr [m] w w' := by
  have g := h.grown
  obtain ⟨es, clock, es', clock', hb, rfl⟩ := h
  exact ⟨rfl, rfl, rfl, by simp [ChangeMaps.setBlock], fun k hk hm => by
    unfold ChangeMaps.setBlock
    simp only
    rw [Array.getElem?_setIfInBounds_ne]
    exact fun e => hm (by simp [e])⟩
theorem Fr.grown {w w' : World} {row : Option Nat} (h : w.grownBy w' row) : Fr row.toList w w' :=
  Fr.mono (O := row.toList) ⟨h.os, h.tape, h.output, h.size, fun k hk hm => h.block k hk (fun e => hm (by rw [← e]; simp))⟩ (fun b hb => Or.inl hb)
end Go.Proofs.YtmndmnajgfabnaaDoor
