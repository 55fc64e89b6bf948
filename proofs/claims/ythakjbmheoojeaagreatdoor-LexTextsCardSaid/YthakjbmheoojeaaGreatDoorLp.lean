/- eslex.Name. Conditions: those that each theorem names. -/
import Derived.Test.YthakjbmheoojeaaGreatDoorLk
namespace Go.Proofs.YthakjbmheoojeaaGreatDoor
open Go.RowKit
set_option linter.all false

set_option maxHeartbeats 4000000 in
theorem nameF_any (N : Nat) (l : List UInt8) (hl : l.length ≤ 140737488355328) (w : World) (hT : Tab N 0 X.words w) :
    Calls Tryz.prog 15 #[.string (bs l)] w fun e w' => e = .returned (.bool (X.name l)) ∧ w = w' := by
  have hby : ∀ w, Calls Tryz.prog 33 #[.string (bs l), .int .i64 0] w fun e w' => e = .returned (.int .u8 (U.g l 0 : Int)) ∧ w = w' := byteAt_any l hl 0 (by omega)
  have hop := opens_any (U.g l 0) (U.g_lt l 0)
  have hpa : ∀ w, Calls Tryz.prog 34 #[.string (bs l), .int .i64 0, .func (.func 35) #[] #[]] w fun e w' => e = .returned (.int .i64 (X.past X.goes l : Int)) ∧ w = w' := past_goes l hl 0 (by omega) (X.past X.goes l) (by rw [Nat.zero_add]; rfl)
  have hwd := word_any N l hl w hT
  have hsz := bs_size l
  have hn : X.name l = (X.opens (U.g l 0) && (X.past X.goes l == l.length) && !X.word l) := rfl
  have hle := past_le X.goes l
  rw [hn]
  generalize X.opens (U.g l 0) = o at *
  generalize X.past X.goes l = p at *
  generalize X.word l = wd at *
  generalize U.g l 0 = b at *
  have hps : ((p : Int) == ((bs l).size : Int)) = (p == l.length) := by
    rw [hsz]
    by_cases h : p = l.length
    · rw [h, beq_self_eq_true, beq_self_eq_true]
    · have h2 : ¬ (p : Int) = (l.length : Int) := by omega
      rw [beq_eq_false_iff_ne.2 h2, beq_eq_false_iff_ne.2 h]
  generalize (bs l) = S at *
  go_enter Tryz.func15, Tryz.ntmps15
  go_wp2_with (with_reducible first | (refine (hby _).mono ?_; rintro e w' ⟨rfl, rfl⟩) | (refine (hop _).mono ?_; rintro e w' ⟨rfl, rfl⟩) | (refine (hpa _).mono ?_; rintro e w' ⟨rfl, rfl⟩) | (refine hwd.mono ?_; rintro e w' ⟨rfl, rfl⟩))
  all_goals (go_ret; refine ⟨ret_bool ?_, rfl⟩; simp_all <;> (try (intro h; exfalso; omega)))
end Go.Proofs.YthakjbmheoojeaaGreatDoor
