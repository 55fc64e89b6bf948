/- Layer 8: how a heap lies in memory, and its smallest functions. Conditions: those that each theorem names. -/
import Derived.Test.YtmndmnajgfabnaaDoorH1
import Derived.RegionTactic
import Derived.StillTailTactics
import Derived.Deep.RegionHeld3
import Derived.Deep.RegionLaw
import Derived.Deep.QuietTactic
import Derived.BigQuiet
import Derived.IntWalk
import Derived.Deep.Slices
namespace Go.Proofs.YtmndmnajgfabnaaDoor
open Go.RowKit Go.Maps
set_option linter.all false

/-- A value of scripts. -/
structure V where
  k : Int
  n : Nat
  t : List UInt8
  r : Int
def V.cells (v : V) : List Value := [.int .i64 v.k, .float .f64 v.n, .string (bs v.t), .int .i64 v.r]
def V.val (v : V) : Value := .agg #[.int .i64 v.k, .float .f64 v.n, .string (bs v.t), .int .i64 v.r]
def V.zero : V := ⟨0, 0, [], 0⟩
/-- An object. -/
structure Ob where
  kind : Int
  proto : Int
  a : Int
  b : Int
  s : Int
  props : List (List UInt8 × V)
  items : List V
/-- Where an object lies: its block, its map and its ring (if it has been opened), the blocks of its properties, its row of items. -/
structure Gh where
  blk : Nat
  op : Option (Nat × Nat)
  ps : List Nat
  it : Value

/-- The heap's own block. -/
def HpC (h : Nat) (sv : Value) (left : Int) (w : World) : Prop := w.heap[h]? = some (.cells #[sv, .int .i64 left] 72 (0, 0))
theorem blk_cell {w : World} {b : Nat} {c : Array Value} {T : TypeId} (h : w.heap[b]? = some (.cells c T (0, 0))) (o : Nat) (v : Value) (hv : c[o]? = some v) : w.cell? ⟨b, o, none⟩ = some v := by
  simp [World.cell?, h, hv]
theorem blk_free {w : World} {b : Nat} {c : Array Value} {T : TypeId} (h : w.heap[b]? = some (.cells c T (0, 0))) (o : Nat) : w.frozen? ⟨b, o, none⟩ = false := by
  simp [World.frozen?, h]
theorem HpC.c0 {h : Nat} {sv : Value} {left : Int} {w : World} (H : HpC h sv left w) : w.cell? ⟨h, 0, none⟩ = some sv := blk_cell H 0 _ rfl
theorem HpC.c1 {h : Nat} {sv : Value} {left : Int} {w : World} (H : HpC h sv left w) : w.cell? ⟨h, 1, none⟩ = some (.int .i64 left) := blk_cell H 1 _ rfl
theorem HpC.lt {h : Nat} {sv : Value} {left : Int} {w : World} (H : HpC h sv left w) : h < w.heap.size := lt_of_heap H

theorem store_float (a : Addr) (b : Nat) (m : Mode) (w : World) : (store a (.float .f64 b) m).run Tryd.prog w = stored Tryd.prog w a (.float .f64 b) m := run_store Tryd.prog w a _ m rfl
theorem has_any (h : Nat) (p : Option Addr) (n cap : Nat) (left i : Int) (w : World) (H : HpC h (.slice p n cap) left w) :
    Calls Tryd.prog 44 #[.pointer (some ⟨h, 0, none⟩), .int .i64 i] w fun e w' => e = .returned (.bool (decide (0 ≤ i) && decide (i < (n : Int)))) ∧ w = w' := by
  have h0 := H.c0
  by_cases hi : 0 ≤ i
  · go_enter Tryd.func44, Tryd.ntmps44
    go_wp2
    go_ret
    exact ⟨ret_bool (by rw [decide_eq_true hi, Bool.true_and]), rfl⟩
  · have hi' : i < 0 := by omega
    go_enter Tryd.func44, Tryd.ntmps44
    go_wp2
    go_ret
    exact ⟨ret_bool (by rw [decide_eq_false (show ¬ 0 ≤ i by omega), Bool.false_and]), rfl⟩
theorem hasOrNone_any (h : Nat) (p : Option Addr) (n cap : Nat) (left i : Int) (w : World) (H : HpC h (.slice p n cap) left w) :
    Calls Tryd.prog 42 #[.pointer (some ⟨h, 0, none⟩), .int .i64 i] w fun e w' => e = .returned (.bool (decide (i = -1) || (decide (0 ≤ i) && decide (i < (n : Int))))) ∧ w = w' := by
  by_cases hi : i = -1
  · subst hi
    go_enter Tryd.func42, Tryd.ntmps42
    go_wp2
    go_ret
    exact ⟨ret_bool rfl, rfl⟩
  · have hb : (i == -1) = false := by simpa using hi
    rw [decide_eq_false hi, Bool.false_or]
    clear hi
    go_enter Tryd.func42, Tryd.ntmps42
    go_wp2_with (go_at_call 44; refine (has_any h p n cap left i _ H).mono ?_; rintro e w' ⟨rfl, rfl⟩)
    go_ret
    exact ⟨rfl, rfl⟩
theorem size_any (h : Nat) (p : Option Addr) (n cap : Nat) (left : Int) (w : World) (H : HpC h (.slice p n cap) left w) :
    Calls Tryd.prog 19 #[.pointer (some ⟨h, 0, none⟩)] w fun e w' => e = .returned (.tuple #[.int .i64 n, .int .i64 left]) ∧ ∃ m, w' = w.drewN m := by
  have h0 := H.c0
  have h1 := H.c1
  go_enter Tryd.func19, Tryd.ntmps19
  go_wp2
  go_quiet (fail)
  go_wp2
  go_ret2
  exact ⟨rfl, _, rfl⟩
theorem alloc_left {w : World} {a b : Int} (h : a = b) : w.alloc (.cells #[.slice none 0 0, .int .i64 a] 72 (0, 0)) = w.alloc (.cells #[.slice none 0 0, .int .i64 b] 72 (0, 0)) := by rw [h]
def clampC (c : Int) : Nat := (min (max c 0) 10000).toNat
theorem new_any (c : Int) (w : World) :
    Calls Tryd.prog 14 #[.int .i64 c] w fun e w' => e = .returned (.pointer (some ⟨w.heap.size, 0, none⟩)) ∧ w' = w.alloc (.cells #[.slice none 0 0, .int .i64 (clampC c)] 72 (0, 0)) := by
  have hc : ((clampC c : Nat) : Int) = min (max c 0) 10000 := by unfold clampC; omega
  rw [hc]
  go_enter Tryd.func14, Tryd.ntmps14
  go_wp2
  all_goals (go_ret; exact ⟨rfl, alloc_left (by omega)⟩)
end Go.Proofs.YtmndmnajgfabnaaDoor
