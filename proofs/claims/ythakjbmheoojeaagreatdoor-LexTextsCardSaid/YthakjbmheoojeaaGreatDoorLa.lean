/- A lexeme that is a name or a mark. Conditions: those that each theorem names. -/
import Derived.Test.YthakjbmheoojeaaGreatDoorL9
namespace Go.Proofs.YthakjbmheoojeaaGreatDoor
open Go.RowKit Go.Shelf
set_option linter.all false
abbrev lexV (k : Nat) (t : List UInt8) (v : Nat) : Value := .agg #[.int .i64 (k : Int), .string (bs t), .float .f64 v, .int .i64 0, .bool false]
def ansV : X.Ans → Value
  | .yes k t v n => .tuple #[lexV k t v, .int .i64 (n : Int)]
  | _ => .tuple #[lexV 0 [] 0, .int .i64 0]
theorem store_float (a : Addr) (b : Nat) (m : Mode) (w : World) : (store a (.float .f64 b) m).run Tryz.prog w = stored Tryz.prog w a (.float .f64 b) m := run_store Tryz.prog w a _ m rfl
/-- Five cells as a lexeme's. -/
abbrev lexC (k : Int) (t : ByteArray) (v : Nat) (p : Int) (ln : Bool) : Array Value := #[.int .i64 k, .string t, .float .f64 v, .int .i64 p, .bool ln]
theorem lex_cells {w : World} {b : Nat} {a0 a1 a2 a3 a4 : Value} {T : TypeId} {f : Nat × Nat} (h : w.heap[b]? = some (.cells #[a0, a1, a2, a3, a4] T f)) :
    w.cell? ⟨b, 0, none⟩ = some a0 ∧ w.cell? ⟨b, 1, none⟩ = some a1 ∧ w.cell? ⟨b, 2, none⟩ = some a2 ∧ w.cell? ⟨b, 3, none⟩ = some a3 ∧ w.cell? ⟨b, 4, none⟩ = some a4 := by
  refine ⟨?_, ?_, ?_, ?_, ?_⟩ <;> rw [Lib.cell_of_heap h] <;> rfl
theorem name_any (N : Nat) (l : List UInt8) (hl : l.length ≤ 65535) (w : World) (h : Low N w) :
    Calls Tryz.prog 61 #[.string (bs l)] w fun e w' => e = .returned (ansV (X.nameAns l)) ∧ Below w.heap.size w w' := by
  have hp := past_goes l (by omega) 0 (by omega) (X.past X.goes l) (by rw [Nat.zero_add]; rfl)
  have hle := past_le X.goes l
  have hwd := fun W (hW : Low N W) => word_any N (l.take (X.past X.goes l)) (by rw [List.length_take]; omega) W hW.words
  have hr : X.nameAns l = .yes (if X.word (l.take (X.past X.goes l)) then 2 else 1) (l.take (X.past X.goes l)) 0 (X.past X.goes l) := rfl
  have het := bs_take l (X.past X.goes l)
  rw [← het] at hwd
  have hsz := bs_size l
  generalize X.nameAns l = R at hr ⊢
  generalize X.past X.goes l = n at hp hle hwd hr het
  have hnS : n ≤ (bs l).size := by omega
  have hz : (bs l).size ≤ 65535 := by omega
  generalize X.word (l.take n) = wd at hwd hr
  have hwd := hwd (w.alloc (Obj.cells #[Value.int IntKind.i64 0, Value.string { data := #[] }, Value.float FloatKind.f64 0, Value.int IntKind.i64 0, Value.bool false] 32)) (h.bel ((Below.refl _ _).alloc (Nat.le_refl _) _))
  clear h hl hle hsz
  have hv : ansV R = .tuple #[.agg #[.int .i64 (if wd then 2 else 1 : Nat), .string ((bs l).extract 0 n), .float .f64 0, .int .i64 0, .bool false], .int .i64 (n : Int)] := by rw [hr, het]; rfl
  rw [hv]
  clear hr hv het
  generalize bs l = S at hp hnS hz hwd ⊢
  have hst := store_float
  have hh := fun k : Int => heap_new w (Obj.cells #[.int .i64 k, .string (S.extract 0 n), .float .f64 0, .int .i64 0, .bool false] 32)
  have HH := Lib.hid hh
  clear hh
  cases wd
  · have hv2 : (.tuple #[.agg #[.int .i64 (if false then 2 else 1 : Nat), .string (S.extract 0 n), .float .f64 0, .int .i64 0, .bool false], .int .i64 (n : Int)] : Value) = .tuple #[.agg #[.int .i64 1, .string (S.extract 0 n), .float .f64 0, .int .i64 0, .bool false], .int .i64 (n : Int)] := rfl
    rw [hv2]
    clear hv2
    go_enter Tryz.func61, Tryz.ntmps61
    go_wp2_with (first | (go_at_call 34; refine (hp _).mono ?_; rintro e w' ⟨rfl, rfl⟩) | (go_at_call 13; refine hwd.mono ?_; rintro e w' ⟨rfl, rfl⟩))
    obtain ⟨c0, c1, c2, c3, c4⟩ := lex_cells (HH.out 1)
    refine bodyPost_ret (v := .tuple #[.agg #[.int .i64 1, .string (S.extract 0 n), .float .f64 0, .int .i64 0, .bool false], .int .i64 (n : Int)]) ?_ rfl ?_
    · simp [results, Tryz.results61, go_sem, c0, c1, c2, c3, c4]
    · exact ⟨rfl, (Below.refl _ _).alloc (Nat.le_refl _) _⟩
  · have hv2 : (.tuple #[.agg #[.int .i64 (if true then 2 else 1 : Nat), .string (S.extract 0 n), .float .f64 0, .int .i64 0, .bool false], .int .i64 (n : Int)] : Value) = .tuple #[.agg #[.int .i64 2, .string (S.extract 0 n), .float .f64 0, .int .i64 0, .bool false], .int .i64 (n : Int)] := rfl
    rw [hv2]
    clear hv2
    go_enter Tryz.func61, Tryz.ntmps61
    go_wp2_with (first | (go_at_call 34; refine (hp _).mono ?_; rintro e w' ⟨rfl, rfl⟩) | (go_at_call 13; refine hwd.mono ?_; rintro e w' ⟨rfl, rfl⟩))
    obtain ⟨c0, c1, c2, c3, c4⟩ := lex_cells (HH.out 2)
    refine bodyPost_ret (v := .tuple #[.agg #[.int .i64 2, .string (S.extract 0 n), .float .f64 0, .int .i64 0, .bool false], .int .i64 (n : Int)]) ?_ rfl ?_
    · simp [results, Tryz.results61, go_sem, c0, c1, c2, c3, c4]
    · exact ⟨rfl, (Below.refl _ _).alloc (Nat.le_refl _) _⟩
end Go.Proofs.YthakjbmheoojeaaGreatDoor
