/- What chapter 5 says of a script, on lists of bytes: no program. Blanks, remarks, names, numbers, texts, marks, the lexemes in a row; what a numeral says is a parameter. No conditions. Bytes as a Go string; what keeps all blocks but one; the small looks of package eslex at a byte and at a character; how many bytes are such. Conditions: those that each theorem names. -/
import Derived.Test.YtelphbcdjfdjpaaGreatDoorP1
import Derived.KernelRfl
import Derived.Test.YtelphbcdjfdjpaaGreatDoorChecked
import Derived.WalkKit
import Derived.WalkLawsBesides
import Derived.Outline
import Derived.LoopTactic
import Derived.Lib.Builder
import Derived.Lib.Hide
import Derived.Lib.Strings
namespace Go.Proofs.YtelphbcdjfdjpaaGreatDoor
set_option linter.all false
namespace X
open U (dec g)

def blank (c : Nat) : Bool := c == 9 || c == 11 || c == 12 || c == 32 || c == 160 || c == 65279
def ends (c : Nat) : Bool := c == 10 || c == 13 || c == 8232 || c == 8233
def opens (b : Nat) : Bool := (decide (97 ≤ b) && decide (b ≤ 122)) || (decide (65 ≤ b) && decide (b ≤ 90)) || b == 95 || b == 36
def digit (b : Nat) : Bool := decide (48 ≤ b) && decide (b ≤ 57)
def goes (b : Nat) : Bool := opens b || digit b
def six (b : Nat) : Bool := digit b || (decide (97 ≤ b) && decide (b ≤ 102)) || (decide (65 ≤ b) && decide (b ≤ 70))
def b8 (s : String) : List UInt8 := s.toUTF8.data.toList

/-- How many bytes at a list's head are such. -/
def past (p : Nat → Bool) (l : List UInt8) : Nat := (l.takeWhile fun b => p b.toNat).length

def words : List (List UInt8) :=
  [[98, 114, 101, 97, 107], [99, 97, 115, 101], [99, 97, 116, 99, 104], [99, 108, 97, 115, 115], [99, 111, 110, 115, 116], [99, 111, 110, 116, 105, 110, 117, 101], [100, 101, 98, 117, 103, 103, 101, 114], [100, 101, 102, 97, 117, 108, 116], [100, 101, 108, 101, 116, 101], [100, 111],
   [101, 108, 115, 101], [101, 110, 117, 109], [101, 120, 112, 111, 114, 116], [101, 120, 116, 101, 110, 100, 115], [102, 97, 108, 115, 101], [102, 105, 110, 97, 108, 108, 121], [102, 111, 114], [102, 117, 110, 99, 116, 105, 111, 110], [105, 102], [105, 109, 112, 111, 114, 116],
   [105, 110], [105, 110, 115, 116, 97, 110, 99, 101, 111, 102], [108, 101, 116], [110, 101, 119], [110, 117, 108, 108], [114, 101, 116, 117, 114, 110], [115, 117, 112, 101, 114], [115, 119, 105, 116, 99, 104], [116, 104, 105, 115], [116, 104, 114, 111, 119],
   [116, 114, 117, 101], [116, 114, 121], [116, 121, 112, 101, 111, 102], [118, 97, 114], [118, 111, 105, 100], [119, 104, 105, 108, 101], [119, 105, 116, 104], [121, 105, 101, 108, 100]]
def marks : List (List UInt8) :=
  [[123], [125], [40], [41], [91], [93], [59], [44], [46], [60], [62], [60, 61], [62, 61], [61, 61], [33, 61], [61, 61, 61], [33, 61, 61], [43], [45], [42], [47], [37], [43, 43], [45, 45], [60, 60], [62, 62], [62, 62, 62],
   [38], [124], [94], [33], [126], [38, 38], [124, 124], [63], [58], [61], [43, 61], [45, 61], [42, 61], [47, 61], [37, 61]]
def word (l : List UInt8) : Bool := words.contains l
def name (l : List UInt8) : Bool := opens (g l 0) && (past goes l == l.length) && !word l

/-- A remark of the first sort: the bytes up to its end, or up to what is no character; is it right? -/
def shortF : Nat → List UInt8 → Nat × Bool
  | 0, _ => (0, true)
  | f + 1, l => if l = [] then (0, true) else if (dec l).2 = 0 then (0, false) else if ends (dec l).1 then (0, true)
    else ((dec l).2 + (shortF f (l.drop (dec l).2)).1, (shortF f (l.drop (dec l).2)).2)
def short (l : List UInt8) : Nat × Bool := shortF l.length l
/-- Is a line end among the characters of the first k bytes; none: one of them is no character. -/
def linesF : Nat → Nat → List UInt8 → Option Bool
  | 0, _, _ => some false
  | f + 1, k, l => if k = 0 then some false else if (dec l).2 = 0 then none else (linesF f (k - (dec l).2) (l.drop (dec l).2)).map (fun b => ends (dec l).1 || b)
/-- A remark of the second sort: its bytes, and whether a line ends in it. -/
def long (l : List UInt8) : Option (Nat × Bool) := match Lib.index (l.drop 2) [42, 47] with
  | .negSucc _ => none
  | .ofNat k => (linesF k k (l.drop 2)).map fun b => (k + 4, b)
/-- What stands ahead of a lexeme: its bytes, is a line end in it, is it right? -/
def gapF : Nat → List UInt8 → Bool → Nat × Bool × Bool
  | 0, _, ln => (0, ln, true)
  | f + 1, l, ln =>
    if [47, 47].isPrefixOf l then (if (short l).2 then ((short l).1 + (gapF f (l.drop (short l).1) ln).1, (gapF f (l.drop (short l).1) ln).2) else ((short l).1, ln, false))
    else if [47, 42].isPrefixOf l then (match long l with
      | none => (0, ln, false)
      | some (n, b) => (n + (gapF f (l.drop n) (ln || b)).1, (gapF f (l.drop n) (ln || b)).2))
    else if (dec l).2 ≠ 0 ∧ (blank (dec l).1 = true ∨ ends (dec l).1 = true) then ((dec l).2 + (gapF f (l.drop (dec l).2) (ln || ends (dec l).1)).1, (gapF f (l.drop (dec l).2) (ln || ends (dec l).1)).2)
    else (0, ln, true)
def gap (l : List UInt8) : Nat × Bool × Bool := gapF (l.length + 1) l false

/-- A lexeme at a list's head, and its bytes: not known (a numeral of which nothing is known), none, or its kind, text, number and bytes. -/
inductive Ans where
  | unknown
  | no
  | yes (k : Nat) (t : List UInt8) (v n : Nat)

def sixteensSize (l : List UInt8) : Nat := if g l 0 = 48 ∧ (g l 1 = 120 ∨ g l 1 = 88) then (if past six (l.drop 2) = 0 then 0 else 2 + past six (l.drop 2)) else 0
def wholeSize (l : List UInt8) : Nat := if g l 0 = 48 then 1 else past digit l
def powerDigits (l : List UInt8) : Nat := if g l 1 = 43 ∨ g l 1 = 45 then 2 else 1
def powerSize (l : List UInt8) : Nat := if g l 0 = 101 ∨ g l 0 = 69 then (if past digit (l.drop (powerDigits l)) = 0 then 0 else powerDigits l + past digit (l.drop (powerDigits l))) else 0
def pointSize (l : List UInt8) : Nat := if g l (wholeSize l) = 46 then wholeSize l + 1 + past digit (l.drop (wholeSize l + 1)) else wholeSize l
def numberSize (l : List UInt8) : Nat := if 0 < sixteensSize l then sixteensSize l else pointSize l + powerSize (l.drop (pointSize l))
def number (num : List UInt8 → Option Nat) (l : List UInt8) : Ans :=
  if goes (g l (numberSize l)) then .no else match num (l.take (numberSize l)) with
    | none => .unknown
    | some v => .yes 3 [] v (numberSize l)

def char8 (l : List UInt8) : List UInt8 := (U.units (dec l).1).flatMap U.be
/-- What a digit of sixteen says. -/
def hexd (b : Nat) : Option Nat := if digit b then some (b - 48) else if decide (97 ≤ b) && decide (b ≤ 102) then some (b - 87) else if decide (65 ≤ b) && decide (b ≤ 70) then some (b - 55) else none
def hexv : List UInt8 → Nat → Option Nat
  | [], a => some a
  | b :: l, a => match hexd b.toNat with
    | none => none
    | some d => hexv l (a * 16 + d)
def coded (l : List UInt8) (d : Nat) : Option (List UInt8 × Nat) := if l.length < 1 + d then none else (hexv ((l.drop 1).take d) 0).map fun u => (U.be u, 1 + d)
def lettered : List UInt8 := [98, 116, 110, 118, 102, 114]
def letterOf : List UInt8 → Nat → Option Nat
  | [], _ => none
  | x :: r, b => if x.toNat = b then some 0 else (letterOf r b).map (· + 1)
def escaped (l : List UInt8) : Option (List UInt8 × Nat) :=
  if (dec l).2 = 0 then none
  else if [13, 10].isPrefixOf l then some ([], 2)
  else if ends (dec l).1 then some ([], (dec l).2)
  else if (dec l).1 = 48 ∧ digit (g l 1) = false then some (U.be 0, (dec l).2)
  else if digit (g l 0) then none
  else if (dec l).1 = 120 then coded l 2
  else if (dec l).1 = 117 then coded l 4
  else match letterOf lettered (g l 0) with
    | some i => some (U.be (8 + i), (dec l).2)
    | none => some (char8 l, (dec l).2)
def said (l : List UInt8) : Option (List UInt8 × Nat) :=
  if (dec l).2 = 0 ∨ (dec l).1 = 10 ∨ (dec l).1 = 13 then none
  else if (dec l).1 = 92 then (escaped (l.drop (dec l).2)).map fun r => (r.1, (dec l).2 + r.2)
  else some (char8 l, (dec l).2)
def textF : Nat → Nat → List UInt8 → Option (List UInt8 × Nat)
  | 0, _, _ => none
  | f + 1, q, l => if g l 0 = q then some ([], 1) else match said l with
    | none => none
    | some (u, n) => (textF f q (l.drop n)).map fun r => (u ++ r.1, n + r.2)
def text (l : List UInt8) : Ans := match textF l.length (g l 0) (l.drop 1) with
  | none => .no
  | some (u, n) => .yes 4 u 0 (1 + n)
def nameAns (l : List UInt8) : Ans := .yes (if word (l.take (past goes l)) then 2 else 1) (l.take (past goes l)) 0 (past goes l)
def longest (l : List UInt8) : List (List UInt8) → List UInt8 → List UInt8
  | [], b => b
  | m :: r, b => longest l r (if b.length < m.length ∧ m.isPrefixOf l = true then m else b)
def mark (l : List UInt8) : Ans := if longest l marks [] = [] then .no else .yes 5 (longest l marks []) 0 (longest l marks []).length
def first (num : List UInt8 → Option Nat) (l : List UInt8) : Ans :=
  if opens (g l 0) then nameAns l
  else if g l 0 = 34 ∨ g l 0 = 39 then text l
  else if g l 0 = 46 ∧ digit (g l 1) = false then mark l
  else if g l 0 = 46 ∨ digit (g l 0) = true then number num l
  else mark l

structure Lx where
  kind : Nat
  text : List UInt8
  num : Nat
  place : Nat
  line : Bool
inductive Out where
  | unknown
  | fault (p : Nat)
  | ok (l : List Lx)
def lexF (num : List UInt8 → Option Nat) : Nat → List UInt8 → Nat → Out
  | 0, _, _ => .unknown
  | f + 1, l, p =>
    if (gap l).2.2 = false then .fault (p + (gap l).1)
    else if l.drop (gap l).1 = [] then .ok []
    else match first num (l.drop (gap l).1) with
      | .unknown => .unknown
      | .no => .fault (p + (gap l).1)
      | .yes k t v n => match lexF num f (l.drop ((gap l).1 + n)) (p + (gap l).1 + n) with
        | .ok r => .ok (⟨k, t, v, p + (gap l).1, (gap l).2.1⟩ :: r)
        | o => o
def lex (num : List UInt8 → Option Nat) (l : List UInt8) : Out := lexF num (l.length + 1) l 0
def hexNum (t : List UInt8) : Option Nat := if t = [48, 120, 49, 70] then some 4629418941960159232 else none
end X
theorem try1 : X.lex X.hexNum [97, 49, 43, 61, 48, 120, 49, 70, 32, 47, 42, 10, 42, 47, 32, 34, 92, 120, 52, 49, 34] = .ok [⟨1, [97, 49], 0, 0, false⟩, ⟨5, [43, 61], 0, 2, false⟩, ⟨3, [], 4629418941960159232, 4, false⟩, ⟨4, [0, 65], 0, 15, true⟩] := by kernel_rfl
theorem try2 : X.lex X.hexNum [120, 32, 48, 49] = .fault 2 := by kernel_rfl
end Go.Proofs.YtelphbcdjfdjpaaGreatDoor
namespace Go.Proofs.YtelphbcdjfdjpaaGreatDoor
open Go.RowKit
set_option linter.all false
theorem ret_bool {a b : Bool} (h : a = b) : Ending.returned (.bool a) = .returned (.bool b) := by rw [h]
theorem ret_int {k : IntKind} {a b : Int} (h : a = b) : Ending.returned (.int k a) = .returned (.int k b) := by rw [h]

/-- Bytes as a Go string. -/
def bs (l : List UInt8) : ByteArray := ⟨l.toArray⟩
theorem bs_list (l : List UInt8) : (bs l).data.toList = l := rfl
theorem bs_size (l : List UInt8) : (bs l).size = l.length := by show l.toArray.size = _; simp
theorem bs_data (s : ByteArray) : bs s.data.toList = s := Lib.mk_data s
theorem bs_get (l : List UInt8) (i : Nat) (h : i < (bs l).size) (h2 : i < l.length) : (bs l)[i] = l[i] := by
  show (bs l).data[i] = _
  simp [bs]
theorem bs_g (l : List UInt8) (i : Nat) (h : i < (bs l).size) : ((bs l)[i]).toNat = U.g l i := by
  have h2 : i < l.length := by rw [← bs_size]; exact h
  refine (congrArg UInt8.toNat (bs_get l i h h2)).trans ?_
  unfold U.g
  rw [List.getD_eq_getElem?_getD, List.getElem?_eq_getElem h2]
  rfl
theorem g_out (l : List UInt8) (i : Nat) (h : l.length ≤ i) : U.g l i = 0 := by
  unfold U.g
  rw [List.getD_eq_getElem?_getD, List.getElem?_eq_none h]
  rfl
theorem g_drop (l : List UInt8) (i k : Nat) : U.g (l.drop i) k = U.g l (i + k) := by
  unfold U.g
  simp [List.getD_eq_getElem?_getD, List.getElem?_drop]
theorem bs_extract (l : List UInt8) (a b : Nat) : (bs l).extract a b = bs ((l.drop a).take (b - a)) := Lib.extract_eq (bs l) a b
theorem bs_drop (l : List UInt8) (a : Nat) : (bs l).extract a (bs l).size = bs (l.drop a) := by
  rw [bs_extract, bs_size, List.take_of_length_le (by rw [List.length_drop]; exact Nat.le_refl _)]
theorem bs_take (l : List UInt8) (a : Nat) : (bs l).extract 0 a = bs (l.take a) := by rw [bs_extract]; rfl

/-- All blocks that there were, but block b, are as they were. -/
structure Bar (b : Nat) (w w' : World) : Prop where
  os : w'.os = w.os
  tape : w'.tape = w.tape
  output : w'.output = w.output
  size : w.heap.size ≤ w'.heap.size
  block : ∀ k, k < w.heap.size → k ≠ b → w'.heap[k]? = w.heap[k]?
theorem Bar.refl (b : Nat) (w : World) : Bar b w w := ⟨rfl, rfl, rfl, Nat.le_refl _, fun _ _ _ => rfl⟩
theorem Bar.trans {b : Nat} {w w1 w2 : World} (h : Bar b w w1) (k : Bar b w1 w2) : Bar b w w2 :=
  ⟨k.os.trans h.os, k.tape.trans h.tape, k.output.trans h.output, Nat.le_trans h.size k.size, fun i hi hb => (k.block i (Nat.lt_of_lt_of_le hi h.size) hb).trans (h.block i hi hb)⟩
theorem Bar.of_below {b : Nat} {w w' : World} (h : Below w.heap.size w w') : Bar b w w' := ⟨h.os, h.tape, h.output, h.size, fun k hk _ => h.block k hk⟩
theorem Bar.below {b B : Nat} {w w' : World} (h : Bar b w w') (hb : B ≤ b) (hB : B ≤ w.heap.size) : Below B w w' := ⟨h.os, h.tape, h.output, h.size, fun k hk => h.block k (by omega) (by omega)⟩
theorem Bar.set {b : Nat} (w : World) (o : Nat) (v : Value) : Bar b w (w.setCell ⟨b, o, none⟩ v) := ⟨rfl, rfl, rfl, by simp [World.setCell], fun k _ hk => Below.heap_setCell _ _ _ _ hk⟩
theorem Bar.bel {b : Nat} {w w1 w2 : World} (h : Bar b w w1) (k : Below w1.heap.size w1 w2) : Bar b w w2 := h.trans (.of_below k)
theorem Bar.keep {b : Nat} {w w' : World} (h : Bar b w w') {k : Nat} (hk : k ≠ b) {o : Obj} (ho : w.heap[k]? = some o) : w'.heap[k]? = some o := by
  have hlt : k < w.heap.size := by
    rcases Nat.lt_or_ge k w.heap.size with h' | h'
    · exact h'
    · rw [Array.getElem?_eq_none h'] at ho; cases ho
  rw [h.block k hlt hk]; exact ho
theorem lt_of_heap {w : World} {k : Nat} {o : Obj} (ho : w.heap[k]? = some o) : k < w.heap.size := by
  rcases Nat.lt_or_ge k w.heap.size with h' | h'
  · exact h'
  · rw [Array.getElem?_eq_none h'] at ho; cases ho
theorem Below.keep {w w' : World} (h : Below w.heap.size w w') {k : Nat} {o : Obj} (ho : w.heap[k]? = some o) : w'.heap[k]? = some o := by
  rw [h.block k (lt_of_heap ho)]; exact ho
theorem heap_set {w : World} {b : Nat} {c : Array Value} {T : TypeId} {f : Nat × Nat} (h : w.heap[b]? = some (.cells c T f)) (i : Nat) (v : Value) : (w.setCell ⟨b, i, none⟩ v).heap[b]? = some (.cells (c.setIfInBounds i v) T f) := by
  simp [World.setCell, Array.getElem?_modify, h]
theorem heap_new (w : World) (o : Obj) : (w.alloc o).heap[w.heap.size]? = some o := by show (w.heap.push o)[w.heap.size]? = _; simp
theorem heap_size (w : World) (o : Obj) : (w.alloc o).heap.size = w.heap.size + 1 := by show (w.heap.push o).size = _; simp

set_option maxRecDepth 100000 in
theorem isBlank_any (n : Nat) (h : n < 2147483648) (w : World) : Calls Tryz.prog 41 #[.int .i64 (n : Int)] w fun e w' => e = .returned (.bool (X.blank n)) ∧ w = w' := by
  go_enter Tryz.func41, Tryz.ntmps41
  go_wp2
  all_goals (go_ret; refine ⟨ret_bool ?_, rfl⟩; (try simp only [beq_iff_eq, beq_eq_false_iff_ne, ne_eq, decide_eq_true_eq, decide_eq_false_iff_not, Bool.or_eq_true, Bool.and_eq_true] at *); rw [Bool.eq_iff_iff]; simp only [Bool.false_eq_true, false_iff, X.blank, Bool.or_eq_true, Bool.and_eq_true, decide_eq_true_eq, beq_iff_eq, true_iff]; omega)
set_option maxRecDepth 100000 in
theorem isLineEnd_any (n : Nat) (h : n < 2147483648) (w : World) : Calls Tryz.prog 42 #[.int .i64 (n : Int)] w fun e w' => e = .returned (.bool (X.ends n)) ∧ w = w' := by
  go_enter Tryz.func42, Tryz.ntmps42
  go_wp2
  all_goals (go_ret; refine ⟨ret_bool ?_, rfl⟩; (try simp only [beq_iff_eq, beq_eq_false_iff_ne, ne_eq, decide_eq_true_eq, decide_eq_false_iff_not, Bool.or_eq_true, Bool.and_eq_true] at *); rw [Bool.eq_iff_iff]; simp only [Bool.false_eq_true, false_iff, X.ends, Bool.or_eq_true, Bool.and_eq_true, decide_eq_true_eq, beq_iff_eq, true_iff]; omega)
theorem opens_any (n : Nat) (h : n < 256) (w : World) : Calls Tryz.prog 32 #[.int .u8 (n : Int)] w fun e w' => e = .returned (.bool (X.opens n)) ∧ w = w' := by
  go_enter Tryz.func32, Tryz.ntmps32
  go_wp2
  all_goals (go_ret; refine ⟨ret_bool ?_, rfl⟩; (try simp only [beq_iff_eq, beq_eq_false_iff_ne, ne_eq, decide_eq_true_eq, decide_eq_false_iff_not, Bool.or_eq_true, Bool.and_eq_true] at *); rw [Bool.eq_iff_iff]; simp only [Bool.false_eq_true, false_iff, X.opens, Bool.or_eq_true, Bool.and_eq_true, decide_eq_true_eq, beq_iff_eq, true_iff]; omega)
theorem isDigit_any (n : Nat) (h : n < 256) (w : World) : Calls Tryz.prog 57 #[.int .u8 (n : Int)] w fun e w' => e = .returned (.bool (X.digit n)) ∧ w = w' := by
  go_enter Tryz.func57, Tryz.ntmps57
  go_wp2
  all_goals (go_ret; refine ⟨ret_bool ?_, rfl⟩; (try simp only [beq_iff_eq, beq_eq_false_iff_ne, ne_eq, decide_eq_true_eq, decide_eq_false_iff_not, Bool.or_eq_true, Bool.and_eq_true] at *); rw [Bool.eq_iff_iff]; simp only [Bool.false_eq_true, false_iff, X.digit, Bool.or_eq_true, Bool.and_eq_true, decide_eq_true_eq, beq_iff_eq, true_iff]; omega)
theorem goes_any (n : Nat) (h : n < 256) (w : World) : Calls Tryz.prog 35 #[.int .u8 (n : Int)] w fun e w' => e = .returned (.bool (X.goes n)) ∧ w = w' := by
  have hb : X.goes n = (X.opens n || X.digit n) := rfl
  rw [hb]
  have ho := opens_any n h w
  have hd := isDigit_any n h w
  generalize X.opens n = k at ho ⊢
  generalize X.digit n = d at hd ⊢
  go_enter Tryz.func35, Tryz.ntmps35
  cases k
  · go_wp2_with (first | (go_at_call 32; refine ho.mono ?_; rintro e w' ⟨rfl, rfl⟩) | (go_at_call 57; refine hd.mono ?_; rintro e w' ⟨rfl, rfl⟩))
    go_ret; exact ⟨rfl, rfl⟩
  · go_wp2_with (go_at_call 32; refine ho.mono ?_; rintro e w' ⟨rfl, rfl⟩)
    go_ret; exact ⟨rfl, rfl⟩
theorem six_any (n : Nat) (h : n < 256) (w : World) : Calls Tryz.prog 107 #[.int .u8 (n : Int)] w fun e w' => e = .returned (.bool (X.six n)) ∧ w = w' := by
  have hb : X.six n = (X.digit n || (decide (97 ≤ n) && decide (n ≤ 102)) || (decide (65 ≤ n) && decide (n ≤ 70))) := rfl
  rw [hb]
  have hd := isDigit_any n h w
  generalize X.digit n = d at hd ⊢
  clear hb
  go_enter Tryz.func107, Tryz.ntmps107
  cases d
  · go_wp2_with (go_at_call 57; refine hd.mono ?_; rintro e w' ⟨rfl, rfl⟩)
    all_goals (go_ret; refine ⟨ret_bool ?_, rfl⟩; (try simp only [beq_iff_eq, beq_eq_false_iff_ne, ne_eq, decide_eq_true_eq, decide_eq_false_iff_not, Bool.or_eq_true, Bool.and_eq_true] at *); rw [Bool.eq_iff_iff]; simp only [Bool.false_eq_true, false_iff, Bool.false_or, Bool.or_eq_true, Bool.and_eq_true, decide_eq_true_eq, beq_iff_eq, true_iff]; omega)
  · go_wp2_with (go_at_call 57; refine hd.mono ?_; rintro e w' ⟨rfl, rfl⟩)
    go_ret; exact ⟨rfl, rfl⟩

theorem byteAt_any (l : List UInt8) (hl : l.length ≤ 140737488355328) (i : Nat) (hi : i ≤ 140737488355329) (w : World) : Calls Tryz.prog 33 #[.string (bs l), .int .i64 (i : Int)] w fun e w' => e = .returned (.int .u8 (U.g l i : Int)) ∧ w = w' := by
  have hsz := bs_size l
  by_cases h : i < l.length
  · have h2 : i < (bs l).size := by omega
    have hg := bs_g l i h2
    generalize U.g l i = n at hg ⊢
    subst hg
    have h3 : ¬ ((bs l).size : Int) ≤ (i : Int) := by omega
    generalize bs l = R at h2 hsz h3 ⊢
    go_enter Tryz.func33, Tryz.ntmps33
    go_wp2
    go_ret
    exact ⟨rfl, rfl⟩
  · rw [g_out l i (by omega)]
    have h3 : ((bs l).size : Int) ≤ (i : Int) := by omega
    generalize bs l = R at hsz h3 ⊢
    go_enter Tryz.func33, Tryz.ntmps33
    go_wp2
    go_ret
    exact ⟨rfl, rfl⟩

/-- A stretch from place a up to place m, which a look ends. -/
structure Run (R : ByteArray) (a : Nat) (p : Nat → Bool) (m : Nat) : Prop where
  ge : a ≤ m
  le : m ≤ R.size
  yes : ∀ (k : Nat) (h : k < R.size), a ≤ k → k < m → p (R[k]).toNat = true
  no : ∀ (h : m < R.size), p (R[m]).toNat = false
theorem takeWhile_run {α : Type} (p : α → Bool) : ∀ (l : List α), (l.takeWhile p).length ≤ l.length ∧ (∀ (k : Nat) (h : k < l.length), k < (l.takeWhile p).length → p l[k] = true) ∧ (∀ (h : (l.takeWhile p).length < l.length), p l[(l.takeWhile p).length] = false)
  | [] => ⟨Nat.le_refl _, fun k h => by simp at h, fun h => by simp at h⟩
  | x :: l => by
    obtain ⟨h1, h2, h3⟩ := takeWhile_run p l
    by_cases hp : p x = true
    · have e : (x :: l).takeWhile p = x :: l.takeWhile p := by rw [List.takeWhile_cons, if_pos hp]
      rw [e]
      refine ⟨by simp only [List.length_cons]; omega, ?_, ?_⟩
      · intro k h hk
        cases k with
        | zero => exact hp
        | succ k => exact h2 k (by simp at h; omega) (by simp at hk; omega)
      · intro h
        simp only [List.length_cons, List.getElem_cons_succ]
        exact h3 (by simp at h; omega)
    · have e : (x :: l).takeWhile p = [] := by rw [List.takeWhile_cons, if_neg hp]
      rw [e]
      refine ⟨Nat.zero_le _, fun k _ hk => by simp at hk, fun _ => by simpa using hp⟩
theorem run_of (l : List UInt8) (a : Nat) (ha : a ≤ l.length) (p : Nat → Bool) (m : Nat) (hm : a + X.past p (l.drop a) = m) : Run (bs l) a p m := by
  obtain ⟨h1, h2, h3⟩ := takeWhile_run (fun b : UInt8 => p b.toNat) (l.drop a)
  have hs := bs_size l
  have hd : (l.drop a).length = l.length - a := List.length_drop
  subst hm
  refine ⟨by omega, by unfold X.past; omega, ?_, ?_⟩
  · intro k h hak hk
    have := h2 (k - a) (by omega) (by unfold X.past at hk; omega)
    rw [List.getElem_drop] at this
    have e : a + (k - a) = k := by omega
    simp only [e] at this
    exact (congrArg (fun b : UInt8 => p b.toNat) (bs_get l k h (by omega))).trans this
  · intro h
    have := h3 (by unfold X.past at h; omega)
    rw [List.getElem_drop] at this
    exact (congrArg (fun b : UInt8 => p b.toNat) (bs_get l _ h (by omega))).trans this
end Go.Proofs.YtelphbcdjfdjpaaGreatDoor
