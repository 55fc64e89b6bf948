/- What chapter 5 says of a script, on lists of bytes: no program. Blanks, remarks, names, numbers, texts, marks, the lexemes in a row; what a numeral says is a parameter. No conditions. -/
import Derived.Test.YthakjbmheoojeaaGreatDoorP1
import Derived.KernelRfl
namespace Go.Proofs.YthakjbmheoojeaaGreatDoor
set_option linter.all false
namespace X
open U (dec g)

def blank (c : Nat) : Bool := c == 9 || c == 11 || c == 12 || c == 32 || c == 160 || c == 65279
def ends (c : Nat) : Bool := c == 10 || c == 13 || c == 8232 || c == 8233
def opens (b : Nat) : Bool := (decide (97 ≤ b) && decide (b ≤ 122)) || (decide (65 ≤ b) && decide (b ≤ 90)) || b == 95 || b == 36
def digit (b : Nat) : Bool := decide (48 ≤ b) && decide (b ≤ 57)
def goes (b : Nat) : Bool := opens b || digit b
def six (b : Nat) : Bool := digit b || (decide (97 ≤ b) && decide (b ≤ 102)) || (decide (65 ≤ b) && decide (b ≤ 70))
def b8 (s : String) : List UInt8 := s.toUTF8.data.toList

/-- How many bytes at a list's head are such. -/
def past (p : Nat → Bool) (l : List UInt8) : Nat := (l.takeWhile fun b => p b.toNat).length

def words : List (List UInt8) :=
  [[98, 114, 101, 97, 107], [99, 97, 115, 101], [99, 97, 116, 99, 104], [99, 108, 97, 115, 115], [99, 111, 110, 115, 116], [99, 111, 110, 116, 105, 110, 117, 101], [100, 101, 98, 117, 103, 103, 101, 114], [100, 101, 102, 97, 117, 108, 116], [100, 101, 108, 101, 116, 101], [100, 111],
   [101, 108, 115, 101], [101, 110, 117, 109], [101, 120, 112, 111, 114, 116], [101, 120, 116, 101, 110, 100, 115], [102, 97, 108, 115, 101], [102, 105, 110, 97, 108, 108, 121], [102, 111, 114], [102, 117, 110, 99, 116, 105, 111, 110], [105, 102], [105, 109, 112, 111, 114, 116],
   [105, 110], [105, 110, 115, 116, 97, 110, 99, 101, 111, 102], [108, 101, 116], [110, 101, 119], [110, 117, 108, 108], [114, 101, 116, 117, 114, 110], [115, 117, 112, 101, 114], [115, 119, 105, 116, 99, 104], [116, 104, 105, 115], [116, 104, 114, 111, 119],
   [116, 114, 117, 101], [116, 114, 121], [116, 121, 112, 101, 111, 102], [118, 97, 114], [118, 111, 105, 100], [119, 104, 105, 108, 101], [119, 105, 116, 104], [121, 105, 101, 108, 100]]
def marks : List (List UInt8) :=
  [[123], [125], [40], [41], [91], [93], [59], [44], [46], [60], [62], [60, 61], [62, 61], [61, 61], [33, 61], [61, 61, 61], [33, 61, 61], [43], [45], [42], [47], [37], [43, 43], [45, 45], [60, 60], [62, 62], [62, 62, 62],
   [38], [124], [94], [33], [126], [38, 38], [124, 124], [63], [58], [61], [43, 61], [45, 61], [42, 61], [47, 61], [37, 61]]
def word (l : List UInt8) : Bool := words.contains l
def name (l : List UInt8) : Bool := opens (g l 0) && (past goes l == l.length) && !word l

/-- A remark of the first sort: the bytes up to its end, or up to what is no character; is it right? -/
def shortF : Nat → List UInt8 → Nat × Bool
  | 0, _ => (0, true)
  | f + 1, l => if l = [] then (0, true) else if (dec l).2 = 0 then (0, false) else if ends (dec l).1 then (0, true)
    else ((dec l).2 + (shortF f (l.drop (dec l).2)).1, (shortF f (l.drop (dec l).2)).2)
def short (l : List UInt8) : Nat × Bool := shortF l.length l
/-- Is a line end among the characters of the first k bytes; none: one of them is no character. -/
def linesF : Nat → Nat → List UInt8 → Option Bool
  | 0, _, _ => some false
  | f + 1, k, l => if k = 0 then some false else if (dec l).2 = 0 then none else (linesF f (k - (dec l).2) (l.drop (dec l).2)).map (fun b => ends (dec l).1 || b)
/-- A remark of the second sort: its bytes, and whether a line ends in it. -/
def long (l : List UInt8) : Option (Nat × Bool) := match Lib.index (l.drop 2) [42, 47] with
  | .negSucc _ => none
  | .ofNat k => (linesF k k (l.drop 2)).map fun b => (k + 4, b)
/-- What stands ahead of a lexeme: its bytes, is a line end in it, is it right? -/
def gapF : Nat → List UInt8 → Bool → Nat × Bool × Bool
  | 0, _, ln => (0, ln, true)
  | f + 1, l, ln =>
    if [47, 47].isPrefixOf l then (if (short l).2 then ((short l).1 + (gapF f (l.drop (short l).1) ln).1, (gapF f (l.drop (short l).1) ln).2) else ((short l).1, ln, false))
    else if [47, 42].isPrefixOf l then (match long l with
      | none => (0, ln, false)
      | some (n, b) => (n + (gapF f (l.drop n) (ln || b)).1, (gapF f (l.drop n) (ln || b)).2))
    else if (dec l).2 ≠ 0 ∧ (blank (dec l).1 = true ∨ ends (dec l).1 = true) then ((dec l).2 + (gapF f (l.drop (dec l).2) (ln || ends (dec l).1)).1, (gapF f (l.drop (dec l).2) (ln || ends (dec l).1)).2)
    else (0, ln, true)
def gap (l : List UInt8) : Nat × Bool × Bool := gapF (l.length + 1) l false

/-- A lexeme at a list's head, and its bytes: not known (a numeral of which nothing is known), none, or its kind, text, number and bytes. -/
inductive Ans where
  | unknown
  | no
  | yes (k : Nat) (t : List UInt8) (v n : Nat)

def sixteensSize (l : List UInt8) : Nat := if g l 0 = 48 ∧ (g l 1 = 120 ∨ g l 1 = 88) then (if past six (l.drop 2) = 0 then 0 else 2 + past six (l.drop 2)) else 0
def wholeSize (l : List UInt8) : Nat := if g l 0 = 48 then 1 else past digit l
def powerDigits (l : List UInt8) : Nat := if g l 1 = 43 ∨ g l 1 = 45 then 2 else 1
def powerSize (l : List UInt8) : Nat := if g l 0 = 101 ∨ g l 0 = 69 then (if past digit (l.drop (powerDigits l)) = 0 then 0 else powerDigits l + past digit (l.drop (powerDigits l))) else 0
def pointSize (l : List UInt8) : Nat := if g l (wholeSize l) = 46 then wholeSize l + 1 + past digit (l.drop (wholeSize l + 1)) else wholeSize l
def numberSize (l : List UInt8) : Nat := if 0 < sixteensSize l then sixteensSize l else pointSize l + powerSize (l.drop (pointSize l))
def number (num : List UInt8 → Option Nat) (l : List UInt8) : Ans :=
  if goes (g l (numberSize l)) then .no else match num (l.take (numberSize l)) with
    | none => .unknown
    | some v => .yes 3 [] v (numberSize l)

def char8 (l : List UInt8) : List UInt8 := (U.units (dec l).1).flatMap U.be
/-- What a digit of sixteen says. -/
def hexd (b : Nat) : Option Nat := if digit b then some (b - 48) else if decide (97 ≤ b) && decide (b ≤ 102) then some (b - 87) else if decide (65 ≤ b) && decide (b ≤ 70) then some (b - 55) else none
def hexv : List UInt8 → Nat → Option Nat
  | [], a => some a
  | b :: l, a => match hexd b.toNat with
    | none => none
    | some d => hexv l (a * 16 + d)
def coded (l : List UInt8) (d : Nat) : Option (List UInt8 × Nat) := if l.length < 1 + d then none else (hexv ((l.drop 1).take d) 0).map fun u => (U.be u, 1 + d)
def lettered : List UInt8 := [98, 116, 110, 118, 102, 114]
def letterOf : List UInt8 → Nat → Option Nat
  | [], _ => none
  | x :: r, b => if x.toNat = b then some 0 else (letterOf r b).map (· + 1)
def escaped (l : List UInt8) : Option (List UInt8 × Nat) :=
  if (dec l).2 = 0 then none
  else if [13, 10].isPrefixOf l then some ([], 2)
  else if ends (dec l).1 then some ([], (dec l).2)
  else if (dec l).1 = 48 ∧ digit (g l 1) = false then some (U.be 0, (dec l).2)
  else if digit (g l 0) then none
  else if (dec l).1 = 120 then coded l 2
  else if (dec l).1 = 117 then coded l 4
  else match letterOf lettered (g l 0) with
    | some i => some (U.be (8 + i), (dec l).2)
    | none => some (char8 l, (dec l).2)
def said (l : List UInt8) : Option (List UInt8 × Nat) :=
  if (dec l).2 = 0 ∨ (dec l).1 = 10 ∨ (dec l).1 = 13 then none
  else if (dec l).1 = 92 then (escaped (l.drop (dec l).2)).map fun r => (r.1, (dec l).2 + r.2)
  else some (char8 l, (dec l).2)
def textF : Nat → Nat → List UInt8 → Option (List UInt8 × Nat)
  | 0, _, _ => none
  | f + 1, q, l => if g l 0 = q then some ([], 1) else match said l with
    | none => none
    | some (u, n) => (textF f q (l.drop n)).map fun r => (u ++ r.1, n + r.2)
def text (l : List UInt8) : Ans := match textF l.length (g l 0) (l.drop 1) with
  | none => .no
  | some (u, n) => .yes 4 u 0 (1 + n)
def nameAns (l : List UInt8) : Ans := .yes (if word (l.take (past goes l)) then 2 else 1) (l.take (past goes l)) 0 (past goes l)
def longest (l : List UInt8) : List (List UInt8) → List UInt8 → List UInt8
  | [], b => b
  | m :: r, b => longest l r (if b.length < m.length ∧ m.isPrefixOf l = true then m else b)
def mark (l : List UInt8) : Ans := if longest l marks [] = [] then .no else .yes 5 (longest l marks []) 0 (longest l marks []).length
def first (num : List UInt8 → Option Nat) (l : List UInt8) : Ans :=
  if opens (g l 0) then nameAns l
  else if g l 0 = 34 ∨ g l 0 = 39 then text l
  else if g l 0 = 46 ∧ digit (g l 1) = false then mark l
  else if g l 0 = 46 ∨ digit (g l 0) = true then number num l
  else mark l

structure Lx where
  kind : Nat
  text : List UInt8
  num : Nat
  place : Nat
  line : Bool
inductive Out where
  | unknown
  | fault (p : Nat)
  | ok (l : List Lx)
def lexF (num : List UInt8 → Option Nat) : Nat → List UInt8 → Nat → Out
  | 0, _, _ => .unknown
  | f + 1, l, p =>
    if (gap l).2.2 = false then .fault (p + (gap l).1)
    else if l.drop (gap l).1 = [] then .ok []
    else match first num (l.drop (gap l).1) with
      | .unknown => .unknown
      | .no => .fault (p + (gap l).1)
      | .yes k t v n => match lexF num f (l.drop ((gap l).1 + n)) (p + (gap l).1 + n) with
        | .ok r => .ok (⟨k, t, v, p + (gap l).1, (gap l).2.1⟩ :: r)
        | o => o
def lex (num : List UInt8 → Option Nat) (l : List UInt8) : Out := lexF num (l.length + 1) l 0
def hexNum (t : List UInt8) : Option Nat := if t = [48, 120, 49, 70] then some 4629418941960159232 else none
end X
theorem try1 : X.lex X.hexNum [97, 49, 43, 61, 48, 120, 49, 70, 32, 47, 42, 10, 42, 47, 32, 34, 92, 120, 52, 49, 34] = .ok [⟨1, [97, 49], 0, 0, false⟩, ⟨5, [43, 61], 0, 2, false⟩, ⟨3, [], 4629418941960159232, 4, false⟩, ⟨4, [0, 65], 0, 15, true⟩] := by kernel_rfl
theorem try2 : X.lex X.hexNum [120, 32, 48, 49] = .fault 2 := by kernel_rfl
end Go.Proofs.YthakjbmheoojeaaGreatDoor
