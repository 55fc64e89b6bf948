/- Bytes as a Go string; what keeps all blocks but one; the small looks of package eslex at a byte and at a character; how many bytes are such. Conditions: those that each theorem names. -/
import Derived.Test.YthakjbmheoojeaaGreatDoorL1
import Derived.Test.YthakjbmheoojeaaGreatDoorChecked
import Derived.WalkKit
import Derived.WalkLawsBesides
import Derived.Outline
import Derived.LoopTactic
import Derived.Lib.Builder
import Derived.Lib.Hide
import Derived.Lib.Strings
namespace Go.Proofs.YthakjbmheoojeaaGreatDoor
open Go.RowKit
set_option linter.all false
theorem ret_bool {a b : Bool} (h : a = b) : Ending.returned (.bool a) = .returned (.bool b) := by rw [h]
theorem ret_int {k : IntKind} {a b : Int} (h : a = b) : Ending.returned (.int k a) = .returned (.int k b) := by rw [h]

/-- Bytes as a Go string. -/
def bs (l : List UInt8) : ByteArray := ⟨l.toArray⟩
theorem bs_list (l : List UInt8) : (bs l).data.toList = l := rfl
theorem bs_size (l : List UInt8) : (bs l).size = l.length := by show l.toArray.size = _; simp
theorem bs_data (s : ByteArray) : bs s.data.toList = s := Lib.mk_data s
theorem bs_get (l : List UInt8) (i : Nat) (h : i < (bs l).size) (h2 : i < l.length) : (bs l)[i] = l[i] := by
  show (bs l).data[i] = _
  simp [bs]
theorem bs_g (l : List UInt8) (i : Nat) (h : i < (bs l).size) : ((bs l)[i]).toNat = U.g l i := by
  have h2 : i < l.length := by rw [← bs_size]; exact h
  refine (congrArg UInt8.toNat (bs_get l i h h2)).trans ?_
  unfold U.g
  rw [List.getD_eq_getElem?_getD, List.getElem?_eq_getElem h2]
  rfl
theorem g_out (l : List UInt8) (i : Nat) (h : l.length ≤ i) : U.g l i = 0 := by
  unfold U.g
  rw [List.getD_eq_getElem?_getD, List.getElem?_eq_none h]
  rfl
theorem g_drop (l : List UInt8) (i k : Nat) : U.g (l.drop i) k = U.g l (i + k) := by
  unfold U.g
  simp [List.getD_eq_getElem?_getD, List.getElem?_drop]
theorem bs_extract (l : List UInt8) (a b : Nat) : (bs l).extract a b = bs ((l.drop a).take (b - a)) := Lib.extract_eq (bs l) a b
theorem bs_drop (l : List UInt8) (a : Nat) : (bs l).extract a (bs l).size = bs (l.drop a) := by
  rw [bs_extract, bs_size, List.take_of_length_le (by rw [List.length_drop]; exact Nat.le_refl _)]
theorem bs_take (l : List UInt8) (a : Nat) : (bs l).extract 0 a = bs (l.take a) := by rw [bs_extract]; rfl

/-- All blocks that there were, but block b, are as they were. -/
structure Bar (b : Nat) (w w' : World) : Prop where
  os : w'.os = w.os
  tape : w'.tape = w.tape
  output : w'.output = w.output
  size : w.heap.size ≤ w'.heap.size
  block : ∀ k, k < w.heap.size → k ≠ b → w'.heap[k]? = w.heap[k]?
theorem Bar.refl (b : Nat) (w : World) : Bar b w w := ⟨rfl, rfl, rfl, Nat.le_refl _, fun _ _ _ => rfl⟩
theorem Bar.trans {b : Nat} {w w1 w2 : World} (h : Bar b w w1) (k : Bar b w1 w2) : Bar b w w2 :=
  ⟨k.os.trans h.os, k.tape.trans h.tape, k.output.trans h.output, Nat.le_trans h.size k.size, fun i hi hb => (k.block i (Nat.lt_of_lt_of_le hi h.size) hb).trans (h.block i hi hb)⟩
theorem Bar.of_below {b : Nat} {w w' : World} (h : Below w.heap.size w w') : Bar b w w' := ⟨h.os, h.tape, h.output, h.size, fun k hk _ => h.block k hk⟩
theorem Bar.below {b B : Nat} {w w' : World} (h : Bar b w w') (hb : B ≤ b) (hB : B ≤ w.heap.size) : Below B w w' := ⟨h.os, h.tape, h.output, h.size, fun k hk => h.block k (by omega) (by omega)⟩
theorem Bar.set {b : Nat} (w : World) (o : Nat) (v : Value) : Bar b w (w.setCell ⟨b, o, none⟩ v) := ⟨rfl, rfl, rfl, by simp [World.setCell], fun k _ hk => Below.heap_setCell _ _ _ _ hk⟩
theorem Bar.bel {b : Nat} {w w1 w2 : World} (h : Bar b w w1) (k : Below w1.heap.size w1 w2) : Bar b w w2 := h.trans (.of_below k)
theorem Bar.keep {b : Nat} {w w' : World} (h : Bar b w w') {k : Nat} (hk : k ≠ b) {o : Obj} (ho : w.heap[k]? = some o) : w'.heap[k]? = some o := by
  have hlt : k < w.heap.size := by
    rcases Nat.lt_or_ge k w.heap.size with h' | h'
    · exact h'
    · rw [Array.getElem?_eq_none h'] at ho; cases ho
  rw [h.block k hlt hk]; exact ho
theorem lt_of_heap {w : World} {k : Nat} {o : Obj} (ho : w.heap[k]? = some o) : k < w.heap.size := by
  rcases Nat.lt_or_ge k w.heap.size with h' | h'
  · exact h'
  · rw [Array.getElem?_eq_none h'] at ho; cases ho
theorem Below.keep {w w' : World} (h : Below w.heap.size w w') {k : Nat} {o : Obj} (ho : w.heap[k]? = some o) : w'.heap[k]? = some o := by
  rw [h.block k (lt_of_heap ho)]; exact ho
theorem heap_set {w : World} {b : Nat} {c : Array Value} {T : TypeId} {f : Nat × Nat} (h : w.heap[b]? = some (.cells c T f)) (i : Nat) (v : Value) : (w.setCell ⟨b, i, none⟩ v).heap[b]? = some (.cells (c.setIfInBounds i v) T f) := by
  simp [World.setCell, Array.getElem?_modify, h]
theorem heap_new (w : World) (o : Obj) : (w.alloc o).heap[w.heap.size]? = some o := by show (w.heap.push o)[w.heap.size]? = _; simp
theorem heap_size (w : World) (o : Obj) : (w.alloc o).heap.size = w.heap.size + 1 := by show (w.heap.push o).size = _; simp

set_option maxRecDepth 100000 in
theorem isBlank_any (n : Nat) (h : n < 2147483648) (w : World) : Calls Tryz.prog 41 #[.int .i64 (n : Int)] w fun e w' => e = .returned (.bool (X.blank n)) ∧ w = w' := by
  go_enter Tryz.func41, Tryz.ntmps41
  go_wp2
  all_goals (go_ret; refine ⟨ret_bool ?_, rfl⟩; (try simp only [beq_iff_eq, beq_eq_false_iff_ne, ne_eq, decide_eq_true_eq, decide_eq_false_iff_not, Bool.or_eq_true, Bool.and_eq_true] at *); rw [Bool.eq_iff_iff]; simp only [Bool.false_eq_true, false_iff, X.blank, Bool.or_eq_true, Bool.and_eq_true, decide_eq_true_eq, beq_iff_eq, true_iff]; omega)
set_option maxRecDepth 100000 in
theorem isLineEnd_any (n : Nat) (h : n < 2147483648) (w : World) : Calls Tryz.prog 42 #[.int .i64 (n : Int)] w fun e w' => e = .returned (.bool (X.ends n)) ∧ w = w' := by
  go_enter Tryz.func42, Tryz.ntmps42
  go_wp2
  all_goals (go_ret; refine ⟨ret_bool ?_, rfl⟩; (try simp only [beq_iff_eq, beq_eq_false_iff_ne, ne_eq, decide_eq_true_eq, decide_eq_false_iff_not, Bool.or_eq_true, Bool.and_eq_true] at *); rw [Bool.eq_iff_iff]; simp only [Bool.false_eq_true, false_iff, X.ends, Bool.or_eq_true, Bool.and_eq_true, decide_eq_true_eq, beq_iff_eq, true_iff]; omega)
theorem opens_any (n : Nat) (h : n < 256) (w : World) : Calls Tryz.prog 32 #[.int .u8 (n : Int)] w fun e w' => e = .returned (.bool (X.opens n)) ∧ w = w' := by
  go_enter Tryz.func32, Tryz.ntmps32
  go_wp2
  all_goals (go_ret; refine ⟨ret_bool ?_, rfl⟩; (try simp only [beq_iff_eq, beq_eq_false_iff_ne, ne_eq, decide_eq_true_eq, decide_eq_false_iff_not, Bool.or_eq_true, Bool.and_eq_true] at *); rw [Bool.eq_iff_iff]; simp only [Bool.false_eq_true, false_iff, X.opens, Bool.or_eq_true, Bool.and_eq_true, decide_eq_true_eq, beq_iff_eq, true_iff]; omega)
theorem isDigit_any (n : Nat) (h : n < 256) (w : World) : Calls Tryz.prog 57 #[.int .u8 (n : Int)] w fun e w' => e = .returned (.bool (X.digit n)) ∧ w = w' := by
  go_enter Tryz.func57, Tryz.ntmps57
  go_wp2
  all_goals (go_ret; refine ⟨ret_bool ?_, rfl⟩; (try simp only [beq_iff_eq, beq_eq_false_iff_ne, ne_eq, decide_eq_true_eq, decide_eq_false_iff_not, Bool.or_eq_true, Bool.and_eq_true] at *); rw [Bool.eq_iff_iff]; simp only [Bool.false_eq_true, false_iff, X.digit, Bool.or_eq_true, Bool.and_eq_true, decide_eq_true_eq, beq_iff_eq, true_iff]; omega)
theorem goes_any (n : Nat) (h : n < 256) (w : World) : Calls Tryz.prog 35 #[.int .u8 (n : Int)] w fun e w' => e = .returned (.bool (X.goes n)) ∧ w = w' := by
  have hb : X.goes n = (X.opens n || X.digit n) := rfl
  rw [hb]
  have ho := opens_any n h w
  have hd := isDigit_any n h w
  generalize X.opens n = k at ho ⊢
  generalize X.digit n = d at hd ⊢
  go_enter Tryz.func35, Tryz.ntmps35
  cases k
  · go_wp2_with (first | (go_at_call 32; refine ho.mono ?_; rintro e w' ⟨rfl, rfl⟩) | (go_at_call 57; refine hd.mono ?_; rintro e w' ⟨rfl, rfl⟩))
    go_ret; exact ⟨rfl, rfl⟩
  · go_wp2_with (go_at_call 32; refine ho.mono ?_; rintro e w' ⟨rfl, rfl⟩)
    go_ret; exact ⟨rfl, rfl⟩
theorem six_any (n : Nat) (h : n < 256) (w : World) : Calls Tryz.prog 107 #[.int .u8 (n : Int)] w fun e w' => e = .returned (.bool (X.six n)) ∧ w = w' := by
  have hb : X.six n = (X.digit n || (decide (97 ≤ n) && decide (n ≤ 102)) || (decide (65 ≤ n) && decide (n ≤ 70))) := rfl
  rw [hb]
  have hd := isDigit_any n h w
  generalize X.digit n = d at hd ⊢
  clear hb
  go_enter Tryz.func107, Tryz.ntmps107
  cases d
  · go_wp2_with (go_at_call 57; refine hd.mono ?_; rintro e w' ⟨rfl, rfl⟩)
    all_goals (go_ret; refine ⟨ret_bool ?_, rfl⟩; (try simp only [beq_iff_eq, beq_eq_false_iff_ne, ne_eq, decide_eq_true_eq, decide_eq_false_iff_not, Bool.or_eq_true, Bool.and_eq_true] at *); rw [Bool.eq_iff_iff]; simp only [Bool.false_eq_true, false_iff, Bool.false_or, Bool.or_eq_true, Bool.and_eq_true, decide_eq_true_eq, beq_iff_eq, true_iff]; omega)
  · go_wp2_with (go_at_call 57; refine hd.mono ?_; rintro e w' ⟨rfl, rfl⟩)
    go_ret; exact ⟨rfl, rfl⟩

theorem byteAt_any (l : List UInt8) (hl : l.length ≤ 140737488355328) (i : Nat) (hi : i ≤ 140737488355329) (w : World) : Calls Tryz.prog 33 #[.string (bs l), .int .i64 (i : Int)] w fun e w' => e = .returned (.int .u8 (U.g l i : Int)) ∧ w = w' := by
  have hsz := bs_size l
  by_cases h : i < l.length
  · have h2 : i < (bs l).size := by omega
    have hg := bs_g l i h2
    generalize U.g l i = n at hg ⊢
    subst hg
    have h3 : ¬ ((bs l).size : Int) ≤ (i : Int) := by omega
    generalize bs l = R at h2 hsz h3 ⊢
    go_enter Tryz.func33, Tryz.ntmps33
    go_wp2
    go_ret
    exact ⟨rfl, rfl⟩
  · rw [g_out l i (by omega)]
    have h3 : ((bs l).size : Int) ≤ (i : Int) := by omega
    generalize bs l = R at hsz h3 ⊢
    go_enter Tryz.func33, Tryz.ntmps33
    go_wp2
    go_ret
    exact ⟨rfl, rfl⟩

/-- A stretch from place a up to place m, which a look ends. -/
structure Run (R : ByteArray) (a : Nat) (p : Nat → Bool) (m : Nat) : Prop where
  ge : a ≤ m
  le : m ≤ R.size
  yes : ∀ (k : Nat) (h : k < R.size), a ≤ k → k < m → p (R[k]).toNat = true
  no : ∀ (h : m < R.size), p (R[m]).toNat = false
theorem takeWhile_run {α : Type} (p : α → Bool) : ∀ (l : List α), (l.takeWhile p).length ≤ l.length ∧ (∀ (k : Nat) (h : k < l.length), k < (l.takeWhile p).length → p l[k] = true) ∧ (∀ (h : (l.takeWhile p).length < l.length), p l[(l.takeWhile p).length] = false)
  | [] => ⟨Nat.le_refl _, fun k h => by simp at h, fun h => by simp at h⟩
  | x :: l => by
    obtain ⟨h1, h2, h3⟩ := takeWhile_run p l
    by_cases hp : p x = true
    · have e : (x :: l).takeWhile p = x :: l.takeWhile p := by rw [List.takeWhile_cons, if_pos hp]
      rw [e]
      refine ⟨by simp only [List.length_cons]; omega, ?_, ?_⟩
      · intro k h hk
        cases k with
        | zero => exact hp
        | succ k => exact h2 k (by simp at h; omega) (by simp at hk; omega)
      · intro h
        simp only [List.length_cons, List.getElem_cons_succ]
        exact h3 (by simp at h; omega)
    · have e : (x :: l).takeWhile p = [] := by rw [List.takeWhile_cons, if_neg hp]
      rw [e]
      refine ⟨Nat.zero_le _, fun k _ hk => by simp at hk, fun _ => by simpa using hp⟩
theorem run_of (l : List UInt8) (a : Nat) (ha : a ≤ l.length) (p : Nat → Bool) (m : Nat) (hm : a + X.past p (l.drop a) = m) : Run (bs l) a p m := by
  obtain ⟨h1, h2, h3⟩ := takeWhile_run (fun b : UInt8 => p b.toNat) (l.drop a)
  have hs := bs_size l
  have hd : (l.drop a).length = l.length - a := List.length_drop
  subst hm
  refine ⟨by omega, by unfold X.past; omega, ?_, ?_⟩
  · intro k h hak hk
    have := h2 (k - a) (by omega) (by unfold X.past at hk; omega)
    rw [List.getElem_drop] at this
    have e : a + (k - a) = k := by omega
    simp only [e] at this
    exact (congrArg (fun b : UInt8 => p b.toNat) (bs_get l k h (by omega))).trans this
  · intro h
    have := h3 (by unfold X.past at h; omega)
    rw [List.getElem_drop] at this
    exact (congrArg (fun b : UInt8 => p b.toNat) (bs_get l _ h (by omega))).trans this
end Go.Proofs.YthakjbmheoojeaaGreatDoor
