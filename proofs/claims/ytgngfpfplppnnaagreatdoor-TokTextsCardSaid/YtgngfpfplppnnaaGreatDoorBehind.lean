/- The law's own look at two places. Conditions: those that each theorem names. -/
import Derived.Test.YtgngfpfplppnnaaGreatDoorB9
import Derived.Test.YtgngfpfplppnnaaGreatDoorRisesP
import Derived.Deep.RegionHeld3
namespace Go.Proofs.YtgngfpfplppnnaaGreatDoor
open Go.RowKit Go.Shelf
set_option linter.all false

set_option maxHeartbeats 4000000 in
set_option maxRecDepth 100000 in
theorem behind_true (p q : K.Pl) (h : plt q p) (w : World) : Calls Tryz.prog 13 #[.agg #[.int .i64 (p.1 : Int), .int .i64 (p.2 : Int)], .agg #[.int .i64 (q.1 : Int), .int .i64 (q.2 : Int)]] w fun e w' => e = .returned (.bool true) ∧ Below w.heap.size w w' := by
  have hb : Below w.heap.size w ((w.alloc (.cells #[.int .i64 (p.1 : Int), .int .i64 (p.2 : Int)] 29)).alloc (.cells #[.int .i64 (q.1 : Int), .int .i64 (q.2 : Int)] 29)) := ((Below.refl _ _).alloc (Nat.le_refl _) _).alloc (by simp) _
  have HB := Lib.hid hb
  clear hb
  rcases h with h | ⟨h1, h2⟩
  · have h' : (q.1 : Int) < (p.1 : Int) := by omega
    have hd : decide ((q.1 : Int) < (p.1 : Int)) = true := decide_eq_true h'
    clear h
    go_enter Tryz.func13, Tryz.ntmps13
    go_wp2
    all_goals (go_ret; exact ⟨rfl, HB.out⟩)
  · have h' : (q.2 : Int) < (p.2 : Int) := by omega
    have hd : decide ((q.2 : Int) < (p.2 : Int)) = true := decide_eq_true h'
    rw [h1]
    rw [h1] at HB
    clear h1 h2
    go_enter Tryz.func13, Tryz.ntmps13
    go_wp2
    all_goals (go_ret; exact ⟨rfl, HB.out⟩)
end Go.Proofs.YtgngfpfplppnnaaGreatDoor
