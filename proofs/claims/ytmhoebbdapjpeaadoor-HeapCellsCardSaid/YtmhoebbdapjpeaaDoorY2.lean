/- Layer 8: a map of keys to blocks, as a list; what a piece of code may touch; a ring of blocks. Conditions: those that each theorem names. Layer 8: how a heap lies in memory, and its smallest functions. Conditions: those that each theorem names. Layer 8: an object's properties: a map and a ring. Conditions: those that each theorem names. Layer 8: an object's properties: has, get, open. Conditions: those that each theorem names. -/
import Derived.Test.YtmhoebbdapjpeaaDoorY1
import Derived.Maps.OwnSet
import Derived.Maps.StringElems
import Derived.StringKeys
import Derived.WalkKit
import Derived.Laws.AppendOwn
import Derived.OneCell
import Derived.RegionTactic
import Derived.StillTailTactics
import Derived.Deep.RegionHeld3
import Derived.Deep.RegionLaw
import Derived.Deep.QuietTactic
import Derived.BigQuiet
import Derived.IntWalk
import Derived.Deep.Slices
namespace Go.Proofs.YtmhoebbdapjpeaaDoor
open Go.RowKit Go.Maps
set_option linter.all false

/-- How a pointer to a block's head reads, as an element of a map. -/
def ptrElem : Value → Option (DataW Unit × List MemPlace)
  | .pointer none => some (.lit (.int .i64 (-1)), [])
  | .pointer (some ⟨b, 0, none⟩) => some (.lit (.int .i64 (b : Int)), [])
  | _ => none
def ptrOf : Option Nat → Value
  | none => .pointer none
  | some b => .pointer (some ⟨b, 0, none⟩)
theorem ptrElem_inv {v : Value} {o : Option Nat} {ps : List MemPlace} (h : ptrElem v = some (match o with | some b => (.lit (.int .i64 (b : Int))) | none => .lit (.int .i64 (-1)), ps)) : v = ptrOf o := by
  unfold ptrElem at h
  split at h
  · cases o with
    | none => rfl
    | some b =>
      simp only [Option.some.injEq, Prod.mk.injEq, DataW.lit.injEq, Lit.int.injEq] at h
      omega
  · cases o with
    | none =>
      simp only [Option.some.injEq, Prod.mk.injEq, DataW.lit.injEq, Lit.int.injEq] at h
      omega
    | some b =>
      simp only [Option.some.injEq, Prod.mk.injEq, DataW.lit.injEq, Lit.int.injEq] at h
      obtain ⟨⟨_, h⟩, _⟩ := h
      have : _ = b := Int.ofNat.inj h
      subst this
      rfl
  · cases h

/-- The block that a key stands for. -/
def lookB (l : List (List UInt8 × Nat)) (k : List UInt8) : Option Nat := (l.find? (fun q => decide (q.1 = k))).map (·.2)
def litOf (o : Option Nat) : DataW Unit := match o with | some b => .lit (.int .i64 (b : Int)) | none => .lit (.int .i64 (-1))

theorem keyLit (k : List UInt8) : WideAt.IsKeyLit (.string k) := trivial
/-- Block m is a map of these keys to these blocks. -/
def MapP (P : Program) (K : TypeId) (m : Nat) (l : List (List UInt8 × Nat)) (w : World) : Prop :=
  ∃ D, w.ownsMap P K ptrElem m l.length D ∧ Tidy D ∧ Maps.size D = l.length ∧ (∀ k, Maps.has D (.string k) = l.any (fun q => decide (q.1 = k))) ∧ ∀ k, D.atKey (.string k) (.lit (.int .i64 (-1))) = litOf (lookB l k)

section
variable {P : Program} {K T E : TypeId} {m : Nat} {l : List (List UInt8 × Nat)} {w : World}

theorem MapP.lt (h : MapP P K m l w) : m < w.heap.size := by
  obtain ⟨D, h, _⟩ := h; exact h.lt
theorem MapP.keep {w' : World} (h : MapP P K m l w) (hb : w'.heap[m]? = w.heap[m]?) : MapP P K m l w' := by
  obtain ⟨D, ⟨es, clock, hm, r⟩, h⟩ := h
  exact ⟨D, ⟨es, clock, by rw [hb]; exact hm, r⟩, h⟩
theorem MapP.made (w : World) : MapP P K w.heap.size [] (w.alloc (.map #[] 0)) :=
  ⟨.map [], World.ownsMap_made _ _ _ _, tidy_empty, rfl, fun _ => rfl, fun _ => rfl⟩
theorem tight {R : Value → Option (DataW Unit × List MemPlace)} {n : Nat} {D : DataW Unit} (h : w.ownsMap P K R m n D) : w.ownsMap P K R m (Maps.size D) D := by
  obtain ⟨es, clock, hb, F, hs, rfl⟩ := h
  refine ⟨es, clock, hb, F, ?_, rfl⟩
  simp [Maps.size, length_sorted]
theorem lookB_any (l : List (List UInt8 × Nat)) (k : List UInt8) : (lookB l k).isSome = l.any (fun q => decide (q.1 = k)) := by
  unfold lookB
  rw [Option.isSome_map, List.isSome_find?]

/-- The look into the map. -/
theorem MapP.look (h : MapP P K m l w) (hk : P.underlying K = some .string) (hT : P.underlying T = some (.map K E)) (hz : (zeroValue E).run P w = .ok (.pointer none) w) (k : List UInt8) (hl : k.length ≤ maxLen) (s : ByteArray) (hs : s.data.toList = k) :
    (Instr.lookup T (.map (some m)) (.string s) false).run P w = .ok (ptrOf (lookB l k)) w := by
  obtain ⟨D, ho, _, _, _, hat⟩ := h
  have hkey : keyOf P K (.string s) = some (.string k) := by
    rw [← hs]; exact WideMaps.keyOf_string_mk hk (by have h1 : s.size = s.data.toList.length := (Array.length_toList).symm; rw [h1, hs]; exact hl)
  obtain ⟨v, ps, hrun, hv⟩ := ho.lookup (string_keyed hk) hT hz (zd := .lit (.int .i64 (-1))) (zp := []) rfl hkey
  rw [hat k] at hv
  have := ptrElem_inv (v := v) (o := lookB l k) (ps := ps) hv
  rw [hrun, this]

theorem find_snoc (l : List (List UInt8 × Nat)) (k k' : List UInt8) (b : Nat) (h : l.any (fun q => decide (q.1 = k)) = false) : lookB (l ++ [(k, b)]) k' = if k' = k then some b else lookB l k' := by
  unfold lookB
  rw [List.find?_append]
  by_cases e : k' = k
  · subst e
    have : l.find? (fun q => decide (q.1 = k')) = none := by
      cases hf : l.find? (fun q => decide (q.1 = k')) with
      | none => rfl
      | some q =>
        have h1 := List.mem_of_find?_eq_some hf
        have h2 := List.find?_some hf
        rw [List.any_eq_false] at h
        exact absurd h2 (h q h1)
    rw [this, if_pos rfl]
    simp
  · rw [if_neg e]
    have : List.find? (fun q => decide (q.1 = k')) [(k, b)] = none := by
      rw [List.find?_cons, decide_eq_false (fun h => e (Eq.symm h))]; rfl
    rw [this, Option.or_none]
/-- A new key comes in. -/
theorem MapP.put (h : MapP P K m l w) (hk : P.underlying K = some .string) (hT : P.underlying T = some (.map K E)) (hn : l.length < maxLen) (k : List UInt8) (hl : k.length ≤ maxLen) (s : ByteArray) (hs : s.data.toList = k) (b : Nat) (hnew : l.any (fun q => decide (q.1 = k)) = false) :
    ∃ w', (Instr.mapUpdate T (.map (some m)) (.string s) (.pointer (some ⟨b, 0, none⟩))).run P w = .ok () w' ∧ MapP P K m (l ++ [(k, b)]) w' ∧ w.mapTurned w' m := by
  obtain ⟨D, ho, ht, hsz, hh, hat⟩ := h
  have hkey : keyOf P K (.string s) = some (.string k) := by
    rw [← hs]; exact WideMaps.keyOf_string_mk hk (by have h1 : s.size = s.data.toList.length := (Array.length_toList).symm; rw [h1, hs]; exact hl)
  obtain ⟨w', hrun, ho', hturn⟩ := ho.store (string_keyed hk) hT hn hkey (val := .pointer (some ⟨b, 0, none⟩)) (d := .lit (.int .i64 (b : Int))) (ps := []) rfl
  refine ⟨w', hrun, ⟨_, by rw [List.length_append]; exact ho', ht.put (keyLit k) _, ?_, ?_, ?_⟩, hturn⟩
  · rw [size_put ht, hh k, hnew, hsz, List.length_append]; rfl
  · intro k'
    rw [List.any_append, ← hh k']
    by_cases e : k' = k
    · subst e
      rw [has_put_same ht.isMap (keyLit _)]
      simp
    · rw [has_put_other (fun h => e (by cases h; rfl))]
      have : ([(k, b)] : List (List UInt8 × Nat)).any (fun q => decide (q.1 = k')) = false := by
        rw [List.any_cons, decide_eq_false (fun h => e (Eq.symm h))]; rfl
      rw [this, Bool.or_false]
  · intro k'
    rw [find_snoc l k k' b hnew]
    by_cases e : k' = k
    · subst e
      rw [if_pos rfl]
      exact atKey_put_same ht.isMap (keyLit _) _ _
    · rw [if_neg e, ← hat k']
      exact atKey_put_other (fun h => e (by cases h; rfl)) _ _
theorem look_strike (l : List (List UInt8 × Nat)) (k k' : List UInt8) : lookB (l.filter (fun q => decide (q.1 ≠ k))) k' = if k' = k then none else lookB l k' := by
  unfold lookB
  by_cases e : k' = k
  · subst e
    rw [if_pos rfl]
    have : (l.filter (fun q => decide (q.1 ≠ k'))).find? (fun q => decide (q.1 = k')) = none := by
      rw [List.find?_eq_none]
      intro x hx
      simp only [List.mem_filter, decide_eq_true_eq] at hx ⊢
      exact hx.2
    rw [this]; rfl
  · rw [if_neg e, find_filter_keep (fun p hp => by simp only [decide_eq_true_eq] at hp ⊢; rw [hp]; exact e)]
/-- A key goes. -/
theorem MapP.del (h : MapP P K m l w) (hk : P.underlying K = some .string) (hT : P.underlying T = some (.map K E)) (k : List UInt8) (hl : k.length ≤ maxLen) (s : ByteArray) (hs : s.data.toList = k) (ty : TypeId)
    (hlen : (l.filter (fun q => decide (q.1 ≠ k))).length + (if l.any (fun q => decide (q.1 = k)) then 1 else 0) = l.length) :
    ∃ w', (Builtin.delete_ #[T, K] ty #[.map (some m), .string s]).run P w = .ok (.tuple #[]) w' ∧ MapP P K m (l.filter (fun q => decide (q.1 ≠ k))) w' ∧ w.mapTurned w' m := by
  obtain ⟨D, ho, ht, hsz, hh, hat⟩ := h
  have hkey : keyOf P K (.string s) = some (.string k) := by
    rw [← hs]; exact WideMaps.keyOf_string_mk hk (by have h1 : s.size = s.data.toList.length := (Array.length_toList).symm; rw [h1, hs]; exact hl)
  obtain ⟨w', hrun, ho', hturn⟩ := ho.drop (string_keyed hk) hT hkey ty
  have hs' : Maps.size (D.del (.string k)) = (l.filter (fun q => decide (q.1 ≠ k))).length := by
    have := size_del (k := .string k) ht
    rw [hh k, hsz] at this
    omega
  refine ⟨w', hrun, ⟨_, by rw [← hs']; exact tight ho', ht.del _, hs', ?_, ?_⟩, hturn⟩
  · intro k'
    by_cases e : k' = k
    · subst e
      rw [has_del_same]
      symm
      rw [List.any_eq_false]
      intro x hx
      simp only [List.mem_filter, decide_eq_true_eq] at hx ⊢
      exact hx.2
    · rw [has_del_other (fun h => e (by cases h; rfl)), hh k', any_filter_keep (fun p hp => by simp only [decide_eq_true_eq] at hp ⊢; rw [hp]; exact e)]
  · intro k'
    rw [look_strike]
    by_cases e : k' = k
    · subst e
      rw [if_pos rfl]
      exact atKey_del_same _
    · rw [if_neg e, ← hat k']
      exact atKey_del_other (fun h => e (by cases h; rfl)) _
end

/-- All blocks that there were, but those of O, are as they were. -/
structure Fr (O : List Nat) (w w' : World) : Prop where
  os : w'.os = w.os
  tape : w'.tape = w.tape
  output : w'.output = w.output
  size : w.heap.size ≤ w'.heap.size
  block : ∀ k, k < w.heap.size → k ∉ O → w'.heap[k]? = w.heap[k]?
theorem Fr.refl (O : List Nat) (w : World) : Fr O w w := ⟨rfl, rfl, rfl, Nat.le_refl _, fun _ _ _ => rfl⟩
theorem Fr.trans {O O' : List Nat} {w w1 w2 : World} (h : Fr O w w1) (k : Fr O' w1 w2) (hO : ∀ b ∈ O', b ∈ O ∨ w.heap.size ≤ b) : Fr O w w2 :=
  ⟨k.os.trans h.os, k.tape.trans h.tape, k.output.trans h.output, Nat.le_trans h.size k.size, fun i hi hb => (k.block i (Nat.lt_of_lt_of_le hi h.size) (fun hm => by rcases hO i hm with h1 | h1; exact hb h1; omega)).trans (h.block i hi hb)⟩
theorem Fr.of_below {w w' : World} (h : Below w.heap.size w w') : Fr [] w w' := ⟨h.os, h.tape, h.output, h.size, fun k hk _ => h.block k hk⟩
theorem Fr.mono {O O' : List Nat} {w w' : World} (h : Fr O w w') (hO : ∀ b ∈ O, b ∈ O' ∨ w.heap.size ≤ b) : Fr O' w w' :=
  ⟨h.os, h.tape, h.output, h.size, fun k hk hb => h.block k hk (fun hm => by rcases hO k hm with h1 | h1; exact hb h1; omega)⟩
theorem Fr.below {O : List Nat} {w w' : World} (h : Fr O w w') {B : Nat} (hB : B ≤ w.heap.size) (hO : ∀ b ∈ O, B ≤ b) : Below B w w' := ⟨h.os, h.tape, h.output, h.size, fun k hk => h.block k (by omega) (fun hm => by have := hO k hm; omega)⟩
theorem Fr.set (w : World) (b o : Nat) (v : Value) : Fr [b] w (w.setCell ⟨b, o, none⟩ v) := ⟨rfl, rfl, rfl, by simp [World.setCell], fun k _ hk => Below.heap_setCell _ _ _ _ (fun e => hk (by simp [e]))⟩
theorem Fr.alloc (w : World) (o : Obj) : Fr [] w (w.alloc o) := .of_below ((Below.refl _ _).alloc (Nat.le_refl _) _)
theorem Fr.turned {w w' : World} {m : Nat} (h : w.mapTurned w' m) : Fr [m] w w' := by
  have g := h.grown
  obtain ⟨es, clock, es', clock', hb, rfl⟩ := h
  exact ⟨rfl, rfl, rfl, by simp [ChangeMaps.setBlock], fun k hk hm => by
    unfold ChangeMaps.setBlock
    simp only
    rw [Array.getElem?_setIfInBounds_ne]
    exact fun e => hm (by simp [e])⟩
theorem Fr.grown {w w' : World} {row : Option Nat} (h : w.grownBy w' row) : Fr row.toList w w' :=
  Fr.mono (O := row.toList) ⟨h.os, h.tape, h.output, h.size, fun k hk hm => h.block k hk (fun e => hm (by rw [← e]; simp))⟩ (fun b hb => Or.inl hb)
end Go.Proofs.YtmhoebbdapjpeaaDoor
namespace Go.Proofs.YtmhoebbdapjpeaaDoor
open Go.RowKit Go.Maps
set_option linter.all false

/-- A value of scripts. -/
structure V where
  k : Int
  n : Nat
  t : List UInt8
  r : Int
def V.cells (v : V) : List Value := [.int .i64 v.k, .float .f64 v.n, .string (bs v.t), .int .i64 v.r]
def V.val (v : V) : Value := .agg #[.int .i64 v.k, .float .f64 v.n, .string (bs v.t), .int .i64 v.r]
def V.zero : V := ⟨0, 0, [], 0⟩
/-- An object. -/
structure Ob where
  kind : Int
  proto : Int
  a : Int
  b : Int
  s : Int
  props : List (List UInt8 × V)
  items : List V
/-- Where an object lies: its block, its map and its ring (if it has been opened), the blocks of its properties, its row of items. -/
structure Gh where
  blk : Nat
  op : Option (Nat × Nat)
  ps : List Nat
  it : Value

/-- The heap's own block. -/
def HpC (h : Nat) (sv : Value) (left : Int) (w : World) : Prop := w.heap[h]? = some (.cells #[sv, .int .i64 left] 72 (0, 0))
theorem blk_cell {w : World} {b : Nat} {c : Array Value} {T : TypeId} (h : w.heap[b]? = some (.cells c T (0, 0))) (o : Nat) (v : Value) (hv : c[o]? = some v) : w.cell? ⟨b, o, none⟩ = some v := by
  simp [World.cell?, h, hv]
theorem blk_free {w : World} {b : Nat} {c : Array Value} {T : TypeId} (h : w.heap[b]? = some (.cells c T (0, 0))) (o : Nat) : w.frozen? ⟨b, o, none⟩ = false := by
  simp [World.frozen?, h]
theorem HpC.c0 {h : Nat} {sv : Value} {left : Int} {w : World} (H : HpC h sv left w) : w.cell? ⟨h, 0, none⟩ = some sv := blk_cell H 0 _ rfl
theorem HpC.c1 {h : Nat} {sv : Value} {left : Int} {w : World} (H : HpC h sv left w) : w.cell? ⟨h, 1, none⟩ = some (.int .i64 left) := blk_cell H 1 _ rfl
theorem HpC.lt {h : Nat} {sv : Value} {left : Int} {w : World} (H : HpC h sv left w) : h < w.heap.size := lt_of_heap H

theorem store_float (a : Addr) (b : Nat) (m : Mode) (w : World) : (store a (.float .f64 b) m).run Tryd.prog w = stored Tryd.prog w a (.float .f64 b) m := run_store Tryd.prog w a _ m rfl
theorem has_any (h : Nat) (p : Option Addr) (n cap : Nat) (left i : Int) (w : World) (H : HpC h (.slice p n cap) left w) :
    Calls Tryd.prog 44 #[.pointer (some ⟨h, 0, none⟩), .int .i64 i] w fun e w' => e = .returned (.bool (decide (0 ≤ i) && decide (i < (n : Int)))) ∧ w = w' := by
  have h0 := H.c0
  by_cases hi : 0 ≤ i
  · go_enter Tryd.func44, Tryd.ntmps44
    go_wp2
    go_ret
    exact ⟨ret_bool (by rw [decide_eq_true hi, Bool.true_and]), rfl⟩
  · have hi' : i < 0 := by omega
    go_enter Tryd.func44, Tryd.ntmps44
    go_wp2
    go_ret
    exact ⟨ret_bool (by rw [decide_eq_false (show ¬ 0 ≤ i by omega), Bool.false_and]), rfl⟩
theorem hasOrNone_any (h : Nat) (p : Option Addr) (n cap : Nat) (left i : Int) (w : World) (H : HpC h (.slice p n cap) left w) :
    Calls Tryd.prog 42 #[.pointer (some ⟨h, 0, none⟩), .int .i64 i] w fun e w' => e = .returned (.bool (decide (i = -1) || (decide (0 ≤ i) && decide (i < (n : Int))))) ∧ w = w' := by
  by_cases hi : i = -1
  · subst hi
    go_enter Tryd.func42, Tryd.ntmps42
    go_wp2
    go_ret
    exact ⟨ret_bool rfl, rfl⟩
  · have hb : (i == -1) = false := by simpa using hi
    rw [decide_eq_false hi, Bool.false_or]
    clear hi
    go_enter Tryd.func42, Tryd.ntmps42
    go_wp2_with (go_at_call 44; refine (has_any h p n cap left i _ H).mono ?_; rintro e w' ⟨rfl, rfl⟩)
    go_ret
    exact ⟨rfl, rfl⟩
theorem size_any (h : Nat) (p : Option Addr) (n cap : Nat) (left : Int) (w : World) (H : HpC h (.slice p n cap) left w) :
    Calls Tryd.prog 19 #[.pointer (some ⟨h, 0, none⟩)] w fun e w' => e = .returned (.tuple #[.int .i64 n, .int .i64 left]) ∧ ∃ m, w' = w.drewN m := by
  have h0 := H.c0
  have h1 := H.c1
  go_enter Tryd.func19, Tryd.ntmps19
  go_wp2
  go_quiet (fail)
  go_wp2
  go_ret2
  exact ⟨rfl, _, rfl⟩
theorem alloc_left {w : World} {a b : Int} (h : a = b) : w.alloc (.cells #[.slice none 0 0, .int .i64 a] 72 (0, 0)) = w.alloc (.cells #[.slice none 0 0, .int .i64 b] 72 (0, 0)) := by rw [h]
def clampC (c : Int) : Nat := (min (max c 0) 10000).toNat
theorem new_any (c : Int) (w : World) :
    Calls Tryd.prog 14 #[.int .i64 c] w fun e w' => e = .returned (.pointer (some ⟨w.heap.size, 0, none⟩)) ∧ w' = w.alloc (.cells #[.slice none 0 0, .int .i64 (clampC c)] 72 (0, 0)) := by
  have hc : ((clampC c : Nat) : Int) = min (max c 0) 10000 := by unfold clampC; omega
  rw [hc]
  go_enter Tryd.func14, Tryd.ntmps14
  go_wp2
  all_goals (go_ret; exact ⟨rfl, alloc_left (by omega)⟩)
end Go.Proofs.YtmhoebbdapjpeaaDoor
namespace Go.Proofs.YtmhoebbdapjpeaaDoor
open Go.RowKit Go.Maps
set_option linter.all false

/-- A pointer to a block's head. -/
abbrev ptr (b : Nat) : Value := .pointer (some ⟨b, 0, none⟩)
/-- A ring's node: a block of seven cells. -/
def Nd (b : Nat) (w : World) : Prop := ∃ cs : Array Value, w.heap[b]? = some (.cells cs 114 (0, 0)) ∧ cs.size = 7
/-- What a node says. -/
structure Pay (b : Nat) (k : List UInt8) (v : V) (w : World) : Prop where
  c0 : w.cell? ⟨b, 0, none⟩ = some (.string (bs k))
  c1 : w.cell? ⟨b, 1, none⟩ = some (.int .i64 v.k)
  c2 : w.cell? ⟨b, 2, none⟩ = some (.float .f64 v.n)
  c3 : w.cell? ⟨b, 3, none⟩ = some (.string (bs v.t))
  c4 : w.cell? ⟨b, 4, none⟩ = some (.int .i64 v.r)
/-- x is ahead of y. -/
def Lk (x y : Nat) (w : World) : Prop := w.cell? ⟨x, 6, none⟩ = some (ptr y) ∧ w.cell? ⟨y, 5, none⟩ = some (ptr x)
def Links : Nat → List Nat → Nat → World → Prop
  | a, [], b, w => Lk a b w
  | a, x :: l, b, w => Lk a x w ∧ Links x l b w
def lastN (a : Nat) : List Nat → Nat
  | [] => a
  | x :: l => lastN x l
def headN (b : Nat) : List Nat → Nat
  | [] => b
  | x :: _ => x
theorem lastN_mem : ∀ (a : Nat) (l : List Nat), lastN a l ∈ a :: l
  | a, [] => by simp [lastN]
  | a, x :: l => List.mem_cons_of_mem _ (lastN_mem x l)
theorem lastN_snoc : ∀ (a : Nat) (l : List Nat) (x : Nat), lastN a (l ++ [x]) = x
  | a, [], x => rfl
  | a, y :: l, x => lastN_snoc y l x
theorem headN_mem (b : Nat) : ∀ l : List Nat, headN b l ∈ l ++ [b]
  | [] => by simp [headN]
  | x :: l => by simp [headN]
theorem Links.keep {b : Nat} {w w' : World} : ∀ {l : List Nat} {a : Nat}, (∀ x ∈ a :: l, w'.cell? ⟨x, 6, none⟩ = w.cell? ⟨x, 6, none⟩) → (∀ y ∈ l ++ [b], w'.cell? ⟨y, 5, none⟩ = w.cell? ⟨y, 5, none⟩) → Links a l b w → Links a l b w'
  | [], a, h6, h5, h => ⟨(h6 a (by simp)).trans h.1, (h5 b (by simp)).trans h.2⟩
  | x :: l, a, h6, h5, h => ⟨⟨(h6 a (by simp)).trans h.1.1, (h5 x (by simp)).trans h.1.2⟩, Links.keep (fun y hy => h6 y (List.mem_cons_of_mem _ hy)) (fun y hy => h5 y (List.mem_cons_of_mem _ hy)) h.2⟩
theorem Links.split {b x : Nat} {w : World} {l2 : List Nat} : ∀ {l1 : List Nat} {a : Nat}, Links a (l1 ++ x :: l2) b w → Links a l1 x w ∧ Links x l2 b w
  | [], a, h => ⟨h.1, h.2⟩
  | c :: l1, a, h => ⟨⟨h.1, (Links.split (l1 := l1) h.2).1⟩, (Links.split (l1 := l1) h.2).2⟩
theorem Links.last {b : Nat} {w : World} : ∀ {l : List Nat} {a : Nat}, Links a l b w → Lk (lastN a l) b w
  | [], a, h => h
  | _ :: l, a, h => Links.last (l := l) h.2
theorem Links.head {b : Nat} {w : World} : ∀ {l : List Nat} {a : Nat}, Links a l b w → Lk a (headN b l) w
  | [], a, h => h
  | _ :: l, a, h => h.1
theorem Links.snoc {b x q : Nat} {w w' : World} (h6q : w'.cell? ⟨q, 6, none⟩ = some (ptr x)) (h5x : w'.cell? ⟨x, 5, none⟩ = some (ptr q)) (h6x : w'.cell? ⟨x, 6, none⟩ = some (ptr b)) (h5b : w'.cell? ⟨b, 5, none⟩ = some (ptr x)) :
    ∀ {l : List Nat} {a : Nat}, lastN a l = q → (a :: l).Nodup → (∀ y ∈ a :: l, y ≠ q → w'.cell? ⟨y, 6, none⟩ = w.cell? ⟨y, 6, none⟩) → (∀ y ∈ l, w'.cell? ⟨y, 5, none⟩ = w.cell? ⟨y, 5, none⟩) → Links a l b w → Links a (l ++ [x]) b w'
  | [], a, hq, hn, h6, h5, h => by
    have : a = q := hq
    subst this
    exact ⟨⟨h6q, h5x⟩, ⟨h6x, h5b⟩⟩
  | y :: l, a, hq, hn, h6, h5, h => by
    have hne : a ≠ q := by
      intro e
      have := lastN_mem y l
      rw [show lastN y l = q from hq, ← e] at this
      exact (List.nodup_cons.1 hn).1 this
    exact ⟨⟨(h6 a (by simp) hne).trans h.1.1, (h5 y (by simp)).trans h.1.2⟩, Links.snoc h6q h5x h6x h5b hq (List.nodup_cons.1 hn).2 (fun z hz hzq => h6 z (List.mem_cons_of_mem _ hz) hzq) (fun z hz => h5 z (List.mem_cons_of_mem _ hz)) h.2⟩
theorem Links.cut {b x p n : Nat} {w w' : World} {l2 : List Nat} (hn : headN b l2 = n) (h6p : w'.cell? ⟨p, 6, none⟩ = some (ptr n)) (h5n : w'.cell? ⟨n, 5, none⟩ = some (ptr p)) :
    ∀ {l1 : List Nat} {a : Nat}, lastN a l1 = p → (a :: (l1 ++ x :: l2)).Nodup → b ∉ l1 ++ x :: l2 → (∀ y ∈ a :: (l1 ++ l2), y ≠ p → w'.cell? ⟨y, 6, none⟩ = w.cell? ⟨y, 6, none⟩) → (∀ y ∈ l1 ++ l2 ++ [b], y ≠ n → w'.cell? ⟨y, 5, none⟩ = w.cell? ⟨y, 5, none⟩) → Links a (l1 ++ x :: l2) b w → Links a (l1 ++ l2) b w'
  | [], a, hp, hd, hb, h6, h5, h => by
    have e : a = p := hp
    subst e
    cases l2 with
    | nil =>
      have e : b = n := hn
      subst e
      exact ⟨h6p, h5n⟩
    | cons y l2 =>
      have e : y = n := hn
      subst e
      simp only [List.nil_append, List.nodup_cons, List.mem_cons, not_or] at hd hb
      refine ⟨⟨h6p, h5n⟩, Links.keep (fun z hz => h6 z ?_ ?_) (fun z hz => h5 z ?_ ?_) h.2.2⟩
      · exact List.mem_cons_of_mem _ hz
      · rintro rfl
        simp only [List.mem_cons] at hz
        rcases hz with hz | hz
        · exact hd.1.2.1 hz
        · exact hd.1.2.2 hz
      · simp only [List.nil_append, List.cons_append, List.mem_cons]
        exact Or.inr hz
      · rintro rfl
        rw [List.mem_append, List.mem_singleton] at hz
        rcases hz with hz | hz
        · exact hd.2.2.1 hz
        · exact hb.2.1 hz.symm
  | c :: l1, a, hp, hd, hb, h6, h5, h => by
    have hap : a ≠ p := by
      intro e
      have := lastN_mem c l1
      rw [show lastN c l1 = p from hp, ← e] at this
      apply (List.nodup_cons.1 hd).1
      simp only [List.cons_append, List.mem_cons, List.mem_append] at this ⊢
      rcases this with h | h
      · exact Or.inl h
      · exact Or.inr (Or.inl h)
    have hcn : c ≠ n := by
      intro e
      have := headN_mem b l2
      rw [hn, ← e, List.mem_append, List.mem_singleton] at this
      have hd2 := (List.nodup_cons.1 (List.nodup_cons.1 hd).2).1
      rcases this with h | h
      · apply hd2
        show c ∈ l1 ++ x :: l2
        rw [List.mem_append, List.mem_cons]
        exact Or.inr (Or.inr h)
      · apply hb
        rw [← h]
        simp
    exact ⟨⟨(h6 a (by simp) hap).trans h.1.1, (h5 c (by simp) hcn).trans h.1.2⟩,
      Links.cut hn h6p h5n hp (List.nodup_cons.1 hd).2 (fun hm => hb (List.mem_cons_of_mem _ hm)) (fun z hz hzp => h6 z (List.mem_cons_of_mem _ hz) hzp) (fun z hz hzn => h5 z (List.mem_cons_of_mem _ hz) hzn) h.2⟩

/-- A property: its block, its key, its value. -/
abbrev Pr := Nat × List UInt8 × V
def mapV : Option (Nat × Nat) → Value
  | none => .map none
  | some (m, _) => .map (some m)
def ringV : Option (Nat × Nat) → Value
  | none => .pointer none
  | some (_, r) => ptr r
def keysB (L : List Pr) : List (List UInt8 × Nat) := L.map fun q => (q.2.1, q.1)
/-- The properties L, of an object that has these, lie as they should. -/
def PropsR (op : Option (Nat × Nat)) (L : List Pr) (w : World) : Prop :=
  match op with
  | none => L = []
  | some (m, r) => MapP Tryd.prog 9 m (keysB L) w ∧ Nd r w ∧ (∀ q ∈ L, Nd q.1 w ∧ Pay q.1 q.2.1 q.2.2 w) ∧ Links r (L.map (·.1)) r w
def blocksR (op : Option (Nat × Nat)) (L : List Pr) : List Nat :=
  match op with
  | none => []
  | some (m, r) => m :: r :: L.map (·.1)
theorem cell_keep {w w' : World} {b : Nat} (h : w'.heap[b]? = w.heap[b]?) (o : Nat) : w'.cell? ⟨b, o, none⟩ = w.cell? ⟨b, o, none⟩ := by simp [World.cell?, h]
theorem Nd.keep {w w' : World} {b : Nat} (h : w'.heap[b]? = w.heap[b]?) (H : Nd b w) : Nd b w' := by obtain ⟨cs, h1, h2⟩ := H; exact ⟨cs, by rw [h]; exact h1, h2⟩
theorem Pay.keep {w w' : World} {b : Nat} {k : List UInt8} {v : V} (h : w'.heap[b]? = w.heap[b]?) (H : Pay b k v w) : Pay b k v w' :=
  ⟨(cell_keep h 0).trans H.c0, (cell_keep h 1).trans H.c1, (cell_keep h 2).trans H.c2, (cell_keep h 3).trans H.c3, (cell_keep h 4).trans H.c4⟩
theorem PropsR.keep {op : Option (Nat × Nat)} {L : List Pr} {w w' : World} (h : ∀ b ∈ blocksR op L, w'.heap[b]? = w.heap[b]?) (H : PropsR op L w) : PropsR op L w' := by
  rcases op with _ | ⟨m, r⟩
  · exact H
  · obtain ⟨h1, h2, h3, h4⟩ := H
    have hL : ∀ q ∈ L, w'.heap[q.1]? = w.heap[q.1]? := fun q hq => h q.1 (by simp only [blocksR, List.mem_cons, List.mem_map]; exact Or.inr (Or.inr ⟨q, hq, rfl⟩))
    have hr : w'.heap[r]? = w.heap[r]? := h r (by simp [blocksR])
    have hl : ∀ x ∈ L.map (·.1), w'.heap[x]? = w.heap[x]? := by
      intro x hx; rw [List.mem_map] at hx; obtain ⟨q, hq, rfl⟩ := hx; exact hL q hq
    refine ⟨h1.keep (h m (by simp [blocksR])), h2.keep hr, fun q hq => ⟨(h3 q hq).1.keep (hL q hq), (h3 q hq).2.keep (hL q hq)⟩, h4.keep ?_ ?_⟩
    · intro x hx
      rw [List.mem_cons] at hx
      rcases hx with rfl | hx
      · exact cell_keep hr 6
      · exact cell_keep (hl x hx) 6
    · intro x hx
      rw [List.mem_append, List.mem_singleton] at hx
      rcases hx with hx | rfl
      · exact cell_keep (hl x hx) 5
      · exact cell_keep hr 5
theorem keysB_any (L : List Pr) (k : List UInt8) : (keysB L).any (fun q => decide (q.1 = k)) = L.any (fun q => decide (q.2.1 = k)) := by
  unfold keysB; rw [List.any_map]; rfl
theorem keysB_look (L : List Pr) (k : List UInt8) : lookB (keysB L) k = (L.find? (fun q => decide (q.2.1 = k))).map (·.1) := by
  unfold lookB keysB
  rw [List.find?_map, Option.map_map]
  rfl
end Go.Proofs.YtmhoebbdapjpeaaDoor
namespace Go.Proofs.YtmhoebbdapjpeaaDoor
open Go.RowKit Go.Maps
set_option linter.all false

theorem PropsR.look {op : Option (Nat × Nat)} {L : List Pr} {w : World} (H : PropsR op L w) (k : List UInt8) (hk : k.length ≤ maxLen) :
    (Instr.lookup 81 (mapV op) (.string (bs k)) false).run Tryd.prog w = .ok (ptrOf ((L.find? (fun q => decide (q.2.1 = k))).map (·.1))) w := by
  have hz : (zeroValue 82).run Tryd.prog w = .ok (.pointer none) w := Tryd.zeroValue82 w
  rcases op with _ | ⟨m, r⟩
  · have hL : L = [] := H
    subst hL
    have hkey : keyOf Tryd.prog 9 (.string (bs k)) = some (.string k) := WideMaps.keyOf_string_mk Tryd.underlying9 (s := bs k) (by rw [bs_size]; exact hk)
    exact Maps.look_nil (P := Tryd.prog) false (string_keyed Tryd.underlying9) Tryd.underlying81 hz hkey
  · have := H.1.look Tryd.underlying9 Tryd.underlying81 hz k hk (bs k) rfl
    rw [keysB_look] at this
    exact this
theorem find_any (L : List Pr) (k : List UInt8) : L.any (fun q => decide (q.2.1 = k)) = (L.find? (fun q => decide (q.2.1 = k))).isSome := by
  rw [List.isSome_find?]
theorem pHas_any (b : Nat) (op : Option (Nat × Nat)) (L : List Pr) (k : List UInt8) (hk : k.length ≤ maxLen) (w : World) (hc : w.cell? ⟨b, 2, none⟩ = some (mapV op)) (H : PropsR op L w) :
    Calls Tryd.prog 69 #[.pointer (some ⟨b, 2, none⟩), .string (bs k)] w fun e w' => e = .returned (.bool (L.any (fun q => decide (q.2.1 = k)))) ∧ w = w' := by
  have hl := H.look k hk
  rw [find_any]
  generalize L.find? (fun q => decide (q.2.1 = k)) = f at hl
  generalize bs k = K at hl
  generalize mapV op = M at hl hc
  clear H hk
  cases f with
  | none =>
    have hl' : (Instr.lookup 81 M (.string K) false).run Tryd.prog w = .ok (.pointer none) w := hl
    clear hl
    go_enter Tryd.func69, Tryd.ntmps69
    go_wp2
    go_ret
    exact ⟨rfl, rfl⟩
  | some q =>
    have hl' : (Instr.lookup 81 M (.string K) false).run Tryd.prog w = .ok (.pointer (some ⟨q.1, 0, none⟩)) w := hl
    clear hl
    go_enter Tryd.func69, Tryd.ntmps69
    go_wp2
    go_ret
    exact ⟨rfl, rfl⟩
theorem look_alloc {op : Option (Nat × Nat)} {L : List Pr} {w : World} (H : PropsR op L w) (hb : ∀ b ∈ blocksR op L, b < w.heap.size) (k : List UInt8) (hk : k.length ≤ maxLen) (o : Obj) :
    (Instr.lookup 81 (mapV op) (.string (bs k)) false).run Tryd.prog (w.alloc o) = .ok (ptrOf ((L.find? (fun q => decide (q.2.1 = k))).map (·.1))) (w.alloc o) :=
  (H.keep (w' := w.alloc o) (fun b h => Below.heap_alloc _ _ _ (hb b h))).look k hk
theorem pGet_none (b : Nat) (op : Option (Nat × Nat)) (L : List Pr) (k : List UInt8) (hk : k.length ≤ maxLen) (w : World) (hc : w.cell? ⟨b, 2, none⟩ = some (mapV op)) (H : PropsR op L w) (hb : ∀ b ∈ blocksR op L, b < w.heap.size) (hf : L.find? (fun q => decide (q.2.1 = k)) = none) :
    Calls Tryd.prog 54 #[.pointer (some ⟨b, 2, none⟩), .string (bs k)] w fun e w' => e = .returned (.tuple #[.agg #[.int .i64 0, .float .f64 0, .string ⟨#[]⟩, .int .i64 0], .bool false]) ∧ Below w.heap.size w w' := by
  have hl := look_alloc H hb k hk
  rw [hf] at hl
  have hlt : b < w.heap.size := by
    rcases Nat.lt_or_ge b w.heap.size with h | h
    · exact h
    · simp [World.cell?, Array.getElem?_eq_none h] at hc
  generalize bs k = K at hl
  generalize mapV op = M at hl hc
  have hl' : ∀ o, (Instr.lookup 81 M (.string K) false).run Tryd.prog (w.alloc o) = .ok (.pointer none) (w.alloc o) := hl
  clear hl H hb hf hk
  have hst := store_float
  go_enter Tryd.func54, Tryd.ntmps54
  go_wp2
  exact bodyPost_ret (v := .tuple #[.agg #[.int .i64 0, .float .f64 0, .string ⟨#[]⟩, .int .i64 0], .bool false]) (by simp [results, Tryd.results54, go_sem]) rfl ⟨rfl, (Below.refl _ _).alloc (Nat.le_refl _) _⟩
theorem pGet_some (b : Nat) (op : Option (Nat × Nat)) (L : List Pr) (k : List UInt8) (hk : k.length ≤ maxLen) (w : World) (hc : w.cell? ⟨b, 2, none⟩ = some (mapV op)) (H : PropsR op L w) (hb : ∀ b ∈ blocksR op L, b < w.heap.size) (x : Nat) (k' : List UInt8) (v : V) (hf : L.find? (fun q => decide (q.2.1 = k)) = some (x, k', v)) :
    Calls Tryd.prog 54 #[.pointer (some ⟨b, 2, none⟩), .string (bs k)] w fun e w' => e = .returned (.tuple #[.agg #[.int .i64 v.k, .float .f64 v.n, .string (bs v.t), .int .i64 v.r], .bool true]) ∧ Below w.heap.size w w' := by
  have hl := look_alloc H hb k hk
  rw [hf] at hl
  have hlt : b < w.heap.size := by
    rcases Nat.lt_or_ge b w.heap.size with h | h
    · exact h
    · simp [World.cell?, Array.getElem?_eq_none h] at hc
  have hm := List.mem_of_find?_eq_some hf
  obtain ⟨m, r, rfl⟩ : ∃ m r, op = some (m, r) := by
    rcases op with _ | ⟨m, r⟩
    · have : L = [] := H
      subst this
      cases hm
    · exact ⟨m, r, rfl⟩
  have hP := (H.2.2.1 _ hm).2
  have hx : x < w.heap.size := hb x (by simp only [blocksR, List.mem_cons, List.mem_map]; exact Or.inr (Or.inr ⟨_, hm, rfl⟩))
  have h1 : ∀ o, (w.alloc o).cell? ⟨x, 1, none⟩ = some (.int .i64 v.k) := fun o => (cell_keep (Below.heap_alloc _ _ _ hx) 1).trans hP.c1
  have h2 : ∀ o, (w.alloc o).cell? ⟨x, 2, none⟩ = some (.float .f64 v.n) := fun o => (cell_keep (Below.heap_alloc _ _ _ hx) 2).trans hP.c2
  have h3 : ∀ o, (w.alloc o).cell? ⟨x, 3, none⟩ = some (.string (bs v.t)) := fun o => (cell_keep (Below.heap_alloc _ _ _ hx) 3).trans hP.c3
  have h4 : ∀ o, (w.alloc o).cell? ⟨x, 4, none⟩ = some (.int .i64 v.r) := fun o => (cell_keep (Below.heap_alloc _ _ _ hx) 4).trans hP.c4
  generalize bs k = K at hl
  generalize mapV (some (m, r)) = M at hl hc
  generalize bs v.t = T at h3 ⊢
  generalize v.k = vk at h1 ⊢
  generalize v.n = vn at h2 ⊢
  generalize v.r = vr at h4 ⊢
  have hl' : ∀ o, (Instr.lookup 81 M (.string K) false).run Tryd.prog (w.alloc o) = .ok (.pointer (some ⟨x, 0, none⟩)) (w.alloc o) := hl
  clear hl H hb hf hk hm hP
  have hst := store_float
  go_enter Tryd.func54, Tryd.ntmps54
  go_wp2
  exact bodyPost_ret (v := .tuple #[.agg #[.int .i64 vk, .float .f64 vn, .string T, .int .i64 vr], .bool true]) (by simp [results, Tryd.results54, go_sem]) rfl ⟨rfl, (Below.refl _ _).alloc (Nat.le_refl _) _⟩
end Go.Proofs.YtmhoebbdapjpeaaDoor
