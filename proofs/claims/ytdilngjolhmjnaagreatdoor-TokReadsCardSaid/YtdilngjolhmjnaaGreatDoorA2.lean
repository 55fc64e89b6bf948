/- What the small looks at a character answer: the program's and the document's own. No conditions but the number's range. The reader's block, what keeps all blocks but it, and what a panic with a fault is; xmltok.fail and xmltok.behind. Conditions: those that each theorem names. -/
import Derived.Test.YtdilngjolhmjnaaGreatDoorA1
import Derived.Test.YtdilngjolhmjnaaGreatDoorChecked
import Derived.WalkKit
import Derived.WalkLawsBesides
import Derived.Outline
import Derived.Lib.Builder
import Derived.Lib.Hide
import Derived.Lib.Strings
namespace Go.Proofs.YtdilngjolhmjnaaGreatDoor
open Go.RowKit
set_option linter.all false
theorem ret_bool {a b : Bool} (h : a = b) : Ending.returned (.bool a) = .returned (.bool b) := by rw [h]

theorem opens_any (n : Nat) (h : n < 256) (w : World) : Calls Tryz.prog 99 #[.int .u8 (n : Int)] w fun e w' => e = .returned (.bool (K.begins n)) ∧ w = w' := by
  go_enter Tryz.func99, Tryz.ntmps99
  go_wp2
  all_goals (go_ret; refine ⟨ret_bool ?_, rfl⟩; rw [Bool.eq_iff_iff]; simp only [K.begins, Bool.or_eq_true, Bool.and_eq_true, decide_eq_true_eq, beq_iff_eq, true_iff]; omega)
theorem goesOn_any (n : Nat) (h : n < 256) (w : World) : Calls Tryz.prog 102 #[.int .u8 (n : Int)] w fun e w' => e = .returned (.bool (K.goes n)) ∧ w = w' := by
  have hb : K.goes n = (K.begins n || (decide (48 ≤ n) && decide (n ≤ 57)) || decide (n = 45) || decide (n = 46)) := rfl
  rw [hb]
  generalize hk : K.begins n = k
  have ho := opens_any n h w
  rw [hk] at ho
  clear hk hb
  go_enter Tryz.func102, Tryz.ntmps102
  cases k
  · go_wp2_with (go_at_call 99; refine ho.mono ?_; rintro e w' ⟨rfl, rfl⟩)
    all_goals (go_ret; refine ⟨ret_bool ?_, rfl⟩; rw [Bool.eq_iff_iff]; simp only [Bool.false_or, Bool.or_eq_true, Bool.and_eq_true, decide_eq_true_eq, beq_iff_eq, true_iff]; omega)
  · go_wp2_with (go_at_call 99; refine ho.mono ?_; rintro e w' ⟨rfl, rfl⟩)
    go_ret; exact ⟨rfl, rfl⟩
theorem isBlank_any (n : Nat) (h : n < 2147483648) (w : World) : Calls Tryz.prog 60 #[.int .i32 (n : Int)] w fun e w' => e = .returned (.bool (K.blank n)) ∧ w = w' := by
  go_enter Tryz.func60, Tryz.ntmps60
  go_wp2
  all_goals (go_ret; refine ⟨ret_bool ?_, rfl⟩; rw [Bool.eq_iff_iff]; simp only [K.blank, Bool.or_eq_true, Bool.and_eq_true, decide_eq_true_eq, beq_iff_eq, true_iff]; omega)
theorem starts_any (n : Nat) (h : n < 256) (w : World) : Calls Tryz.prog 58 #[.int .u8 (n : Int)] w fun e w' => e = .returned (.bool (!(decide (128 ≤ n) && decide (n < 192)))) ∧ w = w' := by
  have hd : ∀ m : Nat, m < 256 → (bits BinOp.and IntKind.u8 (m : Int) 192 != (128 : Int)) = !(decide (128 ≤ m) && decide (m < 192)) := by decide +kernel
  go_enter Tryz.func58, Tryz.ntmps58
  go_wp2
  go_ret
  exact ⟨ret_bool (by rw [Bool.not_and]), rfl⟩
set_option maxRecDepth 100000 in
theorem allowed_any (n : Nat) (h : n < 2147483648) (w : World) : Calls Tryz.prog 56 #[.int .i32 (n : Int)] w fun e w' => e = .returned (.bool (K.allowed n)) ∧ w = w' := by
  go_enter Tryz.func56, Tryz.ntmps56
  go_wp2
  all_goals (go_ret; refine ⟨ret_bool ?_, rfl⟩; rw [Bool.eq_iff_iff]; unfold K.allowed; (try rw [if_pos (by omega)]); (try rw [if_neg (by omega)]); simp only [Bool.or_eq_true, Bool.and_eq_true, decide_eq_true_eq, beq_iff_eq, true_iff]; omega)

theorem refAllowed_any (n : Nat) (h : n < 2147483648) (w : World) : Calls Tryz.prog 32 #[.int .i64 (n : Int)] w fun e w' => e = .returned (.bool (K.allowed n)) ∧ w = w' := by
  go_enter Tryz.func32, Tryz.ntmps32
  go_wp2
  all_goals (go_ret; refine ⟨ret_bool ?_, rfl⟩; rw [Bool.eq_iff_iff]; unfold K.allowed; (try rw [if_pos (by omega)]); (try rw [if_neg (by omega)]); simp only [Bool.or_eq_true, Bool.and_eq_true, decide_eq_true_eq, beq_iff_eq, true_iff]; omega)
/-- A character's number as the document's own text has it: -1 at the end. -/
def num (l : List Nat) : Int := match l with
  | [] => -1
  | c :: _ => (c : Int)
theorem refBlank_any (l : List Nat) (w : World) : Calls Tryz.prog 41 #[.int .i64 (num l)] w fun e w' => e = .returned (.bool (match l with | [] => false | c :: _ => K.blank c)) ∧ w = w' := by
  cases l with
  | nil =>
    show Calls Tryz.prog 41 #[.int .i64 (-1)] w _
    go_enter Tryz.func41, Tryz.ntmps41
    go_wp2
    all_goals (go_ret; exact ⟨rfl, rfl⟩)
  | cons n r =>
    show Calls Tryz.prog 41 #[.int .i64 (n : Int)] w _
    go_enter Tryz.func41, Tryz.ntmps41
    go_wp2
    all_goals (go_ret; refine ⟨ret_bool ?_, rfl⟩; rw [Bool.eq_iff_iff]; simp only [K.blank, Bool.or_eq_true, Bool.and_eq_true, decide_eq_true_eq, beq_iff_eq, true_iff]; omega)
theorem refBegins_any (l : List Nat) (w : World) : Calls Tryz.prog 72 #[.int .i64 (num l)] w fun e w' => e = .returned (.bool (match l with | [] => false | c :: _ => K.begins c)) ∧ w = w' := by
  cases l with
  | nil =>
    show Calls Tryz.prog 72 #[.int .i64 (-1)] w _
    go_enter Tryz.func72, Tryz.ntmps72
    go_wp2
    all_goals (go_ret; exact ⟨rfl, rfl⟩)
  | cons n r =>
    show Calls Tryz.prog 72 #[.int .i64 (n : Int)] w _
    go_enter Tryz.func72, Tryz.ntmps72
    go_wp2
    all_goals (go_ret; refine ⟨ret_bool ?_, rfl⟩; rw [Bool.eq_iff_iff]; simp only [K.begins, Bool.or_eq_true, Bool.and_eq_true, decide_eq_true_eq, beq_iff_eq, true_iff]; omega)
theorem refGoes_any (l : List Nat) (w : World) : Calls Tryz.prog 74 #[.int .i64 (num l)] w fun e w' => e = .returned (.bool (match l with | [] => false | c :: _ => K.goes c)) ∧ w = w' := by
  have ho := refBegins_any l w
  cases l with
  | nil =>
    have ho' : Calls Tryz.prog 72 #[.int .i64 (-1)] w fun e w' => e = .returned (.bool false) ∧ w = w' := ho
    show Calls Tryz.prog 74 #[.int .i64 (-1)] w _
    clear ho
    go_enter Tryz.func74, Tryz.ntmps74
    go_wp2_with (go_at_call 72; refine ho'.mono ?_; rintro e w' ⟨rfl, rfl⟩)
    all_goals (go_ret; exact ⟨rfl, rfl⟩)
  | cons n r =>
    show Calls Tryz.prog 74 #[.int .i64 (n : Int)] w fun e w' => e = .returned (.bool (K.goes n)) ∧ w = w'
    have hb : K.goes n = (K.begins n || (decide (48 ≤ n) && decide (n ≤ 57)) || decide (n = 45) || decide (n = 46)) := rfl
    rw [hb]
    have ho' : Calls Tryz.prog 72 #[.int .i64 (n : Int)] w fun e w' => e = .returned (.bool (K.begins n)) ∧ w = w' := ho
    generalize hk : K.begins n = k at ho'
    clear hk hb ho
    go_enter Tryz.func74, Tryz.ntmps74
    cases k
    · go_wp2_with (go_at_call 72; refine ho'.mono ?_; rintro e w' ⟨rfl, rfl⟩)
      all_goals (go_ret; refine ⟨ret_bool ?_, rfl⟩; rw [Bool.eq_iff_iff]; simp only [Bool.false_or, Bool.or_eq_true, Bool.and_eq_true, decide_eq_true_eq, beq_iff_eq, true_iff]; omega)
    · go_wp2_with (go_at_call 72; refine ho'.mono ?_; rintro e w' ⟨rfl, rfl⟩)
      go_ret; exact ⟨rfl, rfl⟩
end Go.Proofs.YtdilngjolhmjnaaGreatDoor
namespace Go.Proofs.YtdilngjolhmjnaaGreatDoor
open Go.RowKit
set_option linter.all false

/-- Bytes as a Go string. -/
def bs (l : List UInt8) : ByteArray := ⟨l.toArray⟩
theorem bs_list (l : List UInt8) : (bs l).data.toList = l := rfl
theorem bs_size (l : List UInt8) : (bs l).size = l.length := by show l.toArray.size = _; simp
theorem bs_data (s : ByteArray) : bs s.data.toList = s := Lib.mk_data s
theorem bs_get (l : List UInt8) (i : Nat) (h : i < (bs l).size) (h2 : i < l.length) : (bs l)[i] = l[i] := by
  show (bs l).data[i] = _
  simp [bs]
theorem bs_extract (l : List UInt8) (a b : Nat) : (bs l).extract a b = bs ((l.drop a).take (b - a)) := Lib.extract_eq (bs l) a b
theorem bs_drop (l : List UInt8) (a : Nat) : (bs l).extract a (bs l).size = bs (l.drop a) := by
  rw [bs_extract, bs_size, List.take_of_length_le (by rw [List.length_drop]; exact Nat.le_refl _)]
theorem bs_take (l : List UInt8) (a : Nat) : (bs l).extract 0 a = bs (l.take a) := by rw [bs_extract]; rfl

/-- All blocks that there were, but block b, are as they were. -/
structure Bar (b : Nat) (w w' : World) : Prop where
  os : w'.os = w.os
  tape : w'.tape = w.tape
  output : w'.output = w.output
  size : w.heap.size ≤ w'.heap.size
  block : ∀ k, k < w.heap.size → k ≠ b → w'.heap[k]? = w.heap[k]?
theorem Bar.refl (b : Nat) (w : World) : Bar b w w := ⟨rfl, rfl, rfl, Nat.le_refl _, fun _ _ _ => rfl⟩
theorem Bar.trans {b : Nat} {w w1 w2 : World} (h : Bar b w w1) (k : Bar b w1 w2) : Bar b w w2 :=
  ⟨k.os.trans h.os, k.tape.trans h.tape, k.output.trans h.output, Nat.le_trans h.size k.size, fun i hi hb => (k.block i (Nat.lt_of_lt_of_le hi h.size) hb).trans (h.block i hi hb)⟩
theorem Bar.of_below {b : Nat} {w w' : World} (h : Below w.heap.size w w') : Bar b w w' := ⟨h.os, h.tape, h.output, h.size, fun k hk _ => h.block k hk⟩
theorem Bar.below {b B : Nat} {w w' : World} (h : Bar b w w') (hb : B ≤ b) (hB : B ≤ w.heap.size) : Below B w w' := ⟨h.os, h.tape, h.output, h.size, fun k hk => h.block k (by omega) (by omega)⟩
theorem Bar.set {b : Nat} (w : World) (o : Nat) (v : Value) : Bar b w (w.setCell ⟨b, o, none⟩ v) := ⟨rfl, rfl, rfl, by simp [World.setCell], fun k _ hk => Below.heap_setCell _ _ _ _ hk⟩
theorem Bar.bel {b : Nat} {w w1 w2 : World} (h : Bar b w w1) (k : Below w1.heap.size w1 w2) : Bar b w w2 := h.trans (.of_below k)
/-- What stands in a block that is not b stands there still. -/
theorem Bar.keep {b : Nat} {w w' : World} (h : Bar b w w') {k : Nat} (hk : k ≠ b) {o : Obj} (ho : w.heap[k]? = some o) : w'.heap[k]? = some o := by
  have hlt : k < w.heap.size := by
    rcases Nat.lt_or_ge k w.heap.size with h' | h'
    · exact h'
    · rw [Array.getElem?_eq_none h'] at ho; cases ho
  rw [h.block k hlt hk]; exact ho
theorem lt_of_heap {w : World} {k : Nat} {o : Obj} (ho : w.heap[k]? = some o) : k < w.heap.size := by
  rcases Nat.lt_or_ge k w.heap.size with h' | h'
  · exact h'
  · rw [Array.getElem?_eq_none h'] at ho; cases ho
theorem Below.keep {w w' : World} (h : Below w.heap.size w w') {k : Nat} {o : Obj} (ho : w.heap[k]? = some o) : w'.heap[k]? = some o := by
  rw [h.block k (lt_of_heap ho)]; exact ho
theorem heap_set {w : World} {b : Nat} {c : Array Value} {T : TypeId} {f : Nat × Nat} (h : w.heap[b]? = some (.cells c T f)) (i : Nat) (v : Value) : (w.setCell ⟨b, i, none⟩ v).heap[b]? = some (.cells (c.setIfInBounds i v) T f) := by
  simp [World.setCell, Array.getElem?_modify, h]

/-- The reader's six other cells: the names, the list, the text's two, its place's two. -/
abbrev X6 := Value × Value × Value × Value × Value × Value
/-- What is before the reader is not too long, its place not too far. -/
structure Fit (s : K.St) : Prop where
  sc : K.Sc s.1
  len : (U.n8 s.1).length ≤ 65536
  line : s.2.1 + (U.n8 s.1).length ≤ 65537
  col : s.2.2 + (U.n8 s.1).length ≤ 65537
theorem Fit.one {c : Nat} {r : List Nat} {p : K.Pl} (h : Fit (c :: r, p)) : Fit (r, K.adv p c) := by
  obtain ⟨h1, h2, h3, h4⟩ := h
  simp only [U.n8_cons, List.length_append] at h2 h3 h4
  have hp := U.enc_pos c
  refine ⟨h1.tail, by show (U.n8 r).length ≤ _; omega, ?_, ?_⟩
  · unfold K.adv; split <;> simp only <;> omega
  · unfold K.adv; split <;> simp only <;> omega
theorem Fit.skip : ∀ (n : Nat) {s : K.St}, Fit s → Fit (K.skip s n)
  | 0, _, h => h
  | n + 1, ([], p), h => by simpa [K.skip, K.advs] using h
  | n + 1, (c :: r, p), h => Fit.skip n (s := (r, K.adv p c)) h.one
/-- The reader lies in block b, with these characters before it. -/
def Rd (b : Nat) (s : K.St) (x : X6) (w : World) : Prop :=
  Fit s ∧ w.heap[b]? = some (.cells #[.string (bs (U.n8 s.1)), .int .i64 (s.2.1 : Int), .int .i64 (s.2.2 : Int), x.1, x.2.1, x.2.2.1, x.2.2.2.1, x.2.2.2.2.1, x.2.2.2.2.2] 57 (0, 0))
theorem Rd.below {b : Nat} {s : K.St} {x : X6} {w w' : World} (h : Rd b s x w) (k : Below w.heap.size w w') : Rd b s x w' :=
  ⟨h.1, Below.keep k h.2⟩
theorem heap_new (w : World) (o : Obj) : (w.alloc o).heap[w.heap.size]? = some o := by show (w.heap.push o)[w.heap.size]? = _; simp
theorem heap_size (w : World) (o : Obj) : (w.alloc o).heap.size = w.heap.size + 1 := by show (w.heap.push o).size = _; simp
theorem Rd.drew {b : Nat} {s : K.St} {x : X6} {w : World} (h : Rd b s x w) : Rd b s x w.drew := h

/-- A panic with a fault, its place and its number. -/
def Fell (er : K.Er) (e : Ending) (w' : World) : Prop :=
  ∃ b, e = .panicked [{ v := .iface 45 (.pointer (some ⟨b, 0, none⟩)), recovered := false }] ∧ w'.heap[b]? = some (.cells #[.int .i64 (er.2.1 : Int), .int .i64 (er.2.2 : Int), .iface 32 (.int .i64 (er.1 : Int))] 71 (0, 0))

theorem fail_any (n a c : Nat) (w : World) : Calls Tryz.prog 17 #[.int .i64 (n : Int), .agg #[.int .i64 (a : Int), .int .i64 (c : Int)]] w fun e w' => Fell (n, (a, c)) e w' ∧ Below w.heap.size w w' := by
  go_enter Tryz.func17, Tryz.ntmps17
  go_wp2
  refine ⟨rfl, ⟨_, rfl, ?_⟩, ?_⟩
  · have := heap_new (w.alloc (Obj.cells #[Value.int IntKind.i64 a, Value.int IntKind.i64 c] 29)) (Obj.cells #[Value.int IntKind.i64 a, Value.int IntKind.i64 c, Value.iface 32 (Value.int IntKind.i64 n)] 71)
    rw [heap_size] at this
    exact this
  · exact ((Below.refl _ _).alloc (Nat.le_refl _) _).alloc (by simp) _

theorem advB_small (p : K.Pl) (b : UInt8) (h : b.toNat = 10) : K.advB p b = (p.1 + 1, 1) := if_pos h
/-- What xmltok.behind has come to behind k bytes. -/
def BehRel (l : List UInt8) (p : K.Pl) (B : Nat) (w : World) (iv : Value) (wr : World) : Prop :=
  ∃ k : Nat, k ≤ l.length ∧ iv = .int .i64 (k : Int) ∧ Below B w wr ∧ ∃ q : K.Pl, Hid ((l.take k).foldl K.advB p = q) ∧ q.1 ≤ p.1 + k ∧ q.2 ≤ p.2 + 1 + k ∧
    wr.heap[B]? = some (.cells #[.int .i64 (q.1 : Int), .int .i64 (q.2 : Int)] 29 (0, 0)) ∧ wr.heap[B + 1]? = some (.cells #[.int .i64 0, .int .i64 0] 29 (0, 0))
theorem foldl_next {l : List UInt8} {p q : K.Pl} {k : Nat} (h : Hid ((l.take k).foldl K.advB p = q)) (hk : k < l.length) (b0 : UInt8) (hb : l[k] = b0) : (l.take (k + 1)).foldl K.advB p = K.advB q b0 := by
  rw [List.take_succ_eq_append_getElem hk, List.foldl_append, h.out, hb]
  rfl

theorem beh_next {l : List UInt8} {p q q2 : K.Pl} {B k : Nat} {w w2 : World} {b0 : UInt8} (hk : k < l.length) (hq : Hid ((l.take k).foldl K.advB p = q)) (hl : Hid (l[k] = b0)) (he : K.advB q b0 = q2) (hb : Below B w w2)
    (h1 : q2.1 ≤ p.1 + (k + 1)) (h2 : q2.2 ≤ p.2 + 1 + (k + 1)) (hc : w2.heap[B]? = some (.cells #[.int .i64 (q2.1 : Int), .int .i64 (q2.2 : Int)] 29 (0, 0))) (hd : w2.heap[B + 1]? = some (.cells #[.int .i64 0, .int .i64 0] 29 (0, 0))) :
    BehRel l p B w (.int .i64 ((k : Int) + 1)) w2 :=
  ⟨k + 1, hk, by go_num, hb, q2, by show _ = _; rw [foldl_next hq hk b0 hl.out, he], h1, h2, hc, hd⟩

set_option maxHeartbeats 1000000 in
theorem behind_any (l : List UInt8) (hl : l.length ≤ 65536) (p : K.Pl) (h1 : p.1 ≤ 65537) (h2 : p.2 ≤ 65537) (w : World) : Calls Tryz.prog 35 #[.agg #[.int .i64 (p.1 : Int), .int .i64 (p.2 : Int)], .string (bs l)] w fun e w' =>
    e = .returned (.agg #[.int .i64 ((l.foldl K.advB p).1 : Int), .int .i64 ((l.foldl K.advB p).2 : Int)]) ∧ Below w.heap.size w w' := by
  obtain ⟨B, hB⟩ : ∃ B, w.heap.size = B := ⟨_, rfl⟩
  have hsz := bs_size l
  have Hst : BehRel l p B w (.int .i64 0) ((w.alloc (Obj.cells #[Value.int IntKind.i64 ↑p.1, Value.int IntKind.i64 ↑p.2] 29)).alloc (Obj.cells #[Value.int IntKind.i64 0, Value.int IntKind.i64 0] 29)) := by
    refine ⟨0, Nat.zero_le _, rfl, ((Below.refl _ _).alloc (by omega) _).alloc (by rw [heap_size]; omega) _, p, rfl, by omega, by omega, ?_, ?_⟩
    · rw [Below.heap_alloc _ _ _ (by rw [heap_size]; omega), ← hB]; exact heap_new _ _
    · have := heap_new (w.alloc (Obj.cells #[Value.int IntKind.i64 ↑p.1, Value.int IntKind.i64 ↑p.2] 29)) (Obj.cells #[Value.int IntKind.i64 0, Value.int IntKind.i64 0] 29)
      rw [heap_size, hB] at this
      exact this
  go_enter Tryz.func35, Tryz.ntmps35
  go_wp2

  have HB := Lib.hid hB
  clear hB
  go_loopw [5] (fun iv wr => BehRel l p B w iv wr) (fun iv wr => l.length - (intOf iv).toNat)
  case atStart => exact Hst
  case round =>
    obtain ⟨k, hk, rfl, hb, q, hq, hq1, hq2, hcell, hcell2⟩ := hrel
    have c0 : wr.cell? ⟨B, 0, none⟩ = some (.int .i64 (q.1 : Int)) := by rw [Lib.cell_of_heap hcell]; rfl
    have c1 : wr.cell? ⟨B, 1, none⟩ = some (.int .i64 (q.2 : Int)) := by rw [Lib.cell_of_heap hcell]; rfl
    have f0 : wr.frozen? ⟨B, 0, none⟩ = false := Lib.frozen_of_heap hcell 0
    have f1 : wr.frozen? ⟨B, 1, none⟩ = false := Lib.frozen_of_heap hcell 1
    have d0 : wr.cell? ⟨B + 1, 0, none⟩ = some (.int .i64 0) := by rw [Lib.cell_of_heap hcell2]; rfl
    have d1 : wr.cell? ⟨B + 1, 1, none⟩ = some (.int .i64 0) := by rw [Lib.cell_of_heap hcell2]; rfl
    have g0 : wr.frozen? ⟨B + 1, 0, none⟩ = false := Lib.frozen_of_heap hcell2 0
    have g1 : wr.frozen? ⟨B + 1, 1, none⟩ = false := Lib.frozen_of_heap hcell2 1
    have HC := Lib.hid hcell
    have HC2 := Lib.hid hcell2
    clear hcell hcell2
    by_cases hlt : k < l.length
    · have hlt2 : k < (bs l).size := by omega
      obtain ⟨b0, hb0⟩ : ∃ b0, (bs l)[k] = b0 := ⟨_, rfl⟩
      have hl0 : l[k] = b0 := by rw [← hb0]; exact (bs_get l k hlt2 hlt).symm
      have hv : b0.toNat < 256 := UInt8.toNat_lt _
      have HL := Lib.hid hl0
      clear hl0
      go_wp2_with (go_at_call 58; refine (starts_any b0.toNat hv _).mono ?_; rintro e w' ⟨rfl, rfl⟩)
      · rename_i ht
        have ht' : b0.toNat = 10 := by simp only [beq_iff_eq] at ht; omega
        refine ⟨beh_next (q2 := (q.1 + 1, 1)) hlt hq HL (if_pos ht') ((hb.setCell (p := ⟨B, 0, none⟩) (Nat.le_refl _) _).setCell (p := ⟨B, 1, none⟩) (Nat.le_refl _) _) (by simp only; omega) (by simp only; omega) ?_ ?_, by simp [intOf]; omega⟩
        · rw [heap_set (heap_set HC.out 0 _) 1 _]
          simp
        · rw [Below.heap_setCell _ _ _ _ (by simp), Below.heap_setCell _ _ _ _ (by simp)]
          exact HC2.out
      · rename_i ht hs
        have ht' : ¬ b0.toNat = 10 := by simp only [beq_eq_false_iff_ne] at ht; omega
        have hs' : ¬ (128 ≤ b0.toNat ∧ b0.toNat < 192) := by simp at hs; omega
        refine ⟨beh_next (q2 := (q.1, q.2 + 1)) hlt hq HL (by unfold K.advB; rw [if_neg ht', if_neg hs']) (hb.setCell (p := ⟨B, 1, none⟩) (Nat.le_refl _) _) (by simp only; omega) (by simp only; omega) ?_ ?_, by simp [intOf]; omega⟩
        · rw [heap_set HC.out 1 _]
          simp
        · rw [Below.heap_setCell _ _ _ _ (by simp)]
          exact HC2.out
      · rename_i ht hs
        have ht' : ¬ b0.toNat = 10 := by simp only [beq_eq_false_iff_ne] at ht; omega
        have hs' : 128 ≤ b0.toNat ∧ b0.toNat < 192 := by simp at hs; omega
        exact ⟨beh_next (q2 := q) hlt hq HL (by unfold K.advB; rw [if_neg ht', if_pos hs']) hb (by omega) (by omega) HC.out HC2.out, by simp [intOf]; omega⟩
    · have hge : (l.length : Int) ≤ (k : Int) := by omega
      have hqq : l.foldl K.advB p = q := by have := hq.out; rwa [List.take_of_length_le (by omega)] at this
      have HQ := Lib.hid hqq
      clear hq hqq hk hq1 hq2 hlt
      go_wp2
      have hw0 : ((wr.setCell ⟨B + 1, 0, none⟩ (.int .i64 (q.1 : Int))).setCell ⟨B + 1, 1, none⟩ (.int .i64 (q.2 : Int))).cell? ⟨B + 1, 0, none⟩ = some (.int .i64 (q.1 : Int)) := by
        rw [Lib.cell_of_heap (heap_set (heap_set HC2.out 0 _) 1 _)]; simp
      have hw1 : ((wr.setCell ⟨B + 1, 0, none⟩ (.int .i64 (q.1 : Int))).setCell ⟨B + 1, 1, none⟩ (.int .i64 (q.2 : Int))).cell? ⟨B + 1, 1, none⟩ = some (.int .i64 (q.2 : Int)) := by
        rw [Lib.cell_of_heap (heap_set (heap_set HC2.out 0 _) 1 _)]; simp
      have hbb := (hb.setCell (p := ⟨B + 1, 0, none⟩) (by simp) (.int .i64 (q.1 : Int))).setCell (p := ⟨B + 1, 1, none⟩) (by simp) (.int .i64 (q.2 : Int))
      generalize ((wr.setCell ⟨B + 1, 0, none⟩ (.int .i64 (q.1 : Int))).setCell ⟨B + 1, 1, none⟩ (.int .i64 (q.2 : Int))) = wz at hw0 hw1 hbb
      refine bodyPost_ret (v := .agg #[.int .i64 (q.1 : Int), .int .i64 (q.2 : Int)]) ?_ rfl ?_
      · simp [results, Tryz.results35, go_sem, hw0, hw1]
      · exact ⟨by rw [HQ.out], by rw [HB.out]; exact hbb⟩
end Go.Proofs.YtdilngjolhmjnaaGreatDoor
