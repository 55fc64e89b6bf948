/- The statement LexNames: words and names are the document's. Conditions: those that each theorem names. -/
import Derived.Test.YthakjbmheoojeaaGreatDoorLq
import Derived.Test.YthakjbmheoojeaaGreatDoorLs
namespace Go.Proofs.YthakjbmheoojeaaGreatDoor
open Go.RowKit
set_option linter.all false

set_option maxHeartbeats 4000000 in
theorem law_names (N : Nat) (l : List UInt8) (hl : l.length ≤ 140737488355328) (w : World) (hw : Low N w) :
    Calls Tryz.prog 4 #[.string (bs l)] w fun e w' => e = .returned (.bool true) ∧ Below w.heap.size w w' := by
  have haw := awake_any N w hw
  have h1 := fun W (hW : Low N W) => word_any N l hl W hW.words
  have h2 := refWord_any l hl
  have h3 := fun W (hW : Low N W) => nameF_any N l hl W hW.words
  have h4 := refName_any l hl
  generalize X.word l = p1 at *
  generalize X.name l = p2 at *
  generalize bs l = S at *
  have HW := Lib.hid hw
  have H1 := Lib.hid h1
  have H3 := Lib.hid h3
  clear hw h1 h3
  cases p1 <;> cases p2
  all_goals (
    go_enter Tryz.func4, Tryz.ntmps4
    go_wp2_with (first
      | ((with_reducible refine haw.mono ?_); rintro e w1 ⟨rfl, hb1⟩; have HL1 := Lib.hid (HW.out.bel hb1); have HB1 := Lib.hid hb1; clear hb1)
      | ((with_reducible refine (H1.out _ HL1.out).mono ?_); rintro e w2 ⟨rfl, rfl⟩)
      | ((with_reducible refine (h2 _).mono ?_); rintro e w2 ⟨rfl, rfl⟩)
      | ((with_reducible refine (H3.out _ HL1.out).mono ?_); rintro e w2 ⟨rfl, rfl⟩)
      | ((with_reducible refine (h4 _).mono ?_); rintro e w2 ⟨rfl, rfl⟩))
    go_ret
    exact ⟨rfl, HB1.out⟩)
end Go.Proofs.YthakjbmheoojeaaGreatDoor
