/- Layer 8: an object's keys: length, indexes. Conditions: those that each theorem names. -/
import Derived.Test.YtmndmnajgfabnaaDoorHd
import Derived.Test.YtmndmnajgfabnaaDoorHi
namespace Go.Proofs.YtmndmnajgfabnaaDoor
open Go.RowKit Go.Maps
set_option linter.all false

def lenB : List UInt8 := [0, 108, 0, 101, 0, 110, 0, 103, 0, 116, 0, 104]
theorem bs_beq (a b : List UInt8) : ((bs a).toList == b) = decide (a = b) := by
  have : (bs a).toList = a := Lib.toList_data _
  rw [this, Bool.eq_iff_iff, beq_iff_eq, decide_eq_true_eq]
theorem isLength_any (b : Nat) (kind : Int) (l : List UInt8) (w : World) (hc : w.cell? ⟨b, 0, none⟩ = some (.int .i64 kind)) :
    Calls Tryd.prog 47 #[.pointer (some ⟨b, 0, none⟩), .string (bs l)] w fun e w' => e = .returned (.bool (decide (kind = 2) && decide (l = lenB))) ∧ w = w' := by
  by_cases h2 : kind = 2
  · subst h2
    have hd : ((bs l).toList == [0, 108, 0, 101, 0, 110, 0, 103, 0, 116, 0, 104]) = decide (l = lenB) := bs_beq l lenB
    rw [← hd, decide_eq_true rfl, Bool.true_and]
    clear hd
    generalize bs l = S
    go_enter Tryd.func47, Tryd.ntmps47
    go_wp2
    go_ret
    exact ⟨rfl, rfl⟩
  · have h2' : (kind == 2) = false := by simpa using h2
    rw [decide_eq_false h2, Bool.false_and]
    clear h2
    go_enter Tryd.func47, Tryd.ntmps47
    go_wp2
    go_ret
    exact ⟨rfl, rfl⟩
/-- An object's index: none of others than arrays. -/
def oIdx (kind : Int) (l : List UInt8) : Option Nat := if kind = 2 then idx l else none
theorem oIndex_any (b : Nat) (kind : Int) (l : List UInt8) (hl : l.length ≤ 140737488355328) (w : World) (hc : w.cell? ⟨b, 0, none⟩ = some (.int .i64 kind)) :
    Calls Tryd.prog 49 #[.pointer (some ⟨b, 0, none⟩), .string (bs l)] w (IdxPost (oIdx kind l) w) := by
  unfold oIdx
  by_cases h2 : kind = 2
  · subst h2
    rw [if_pos rfl]
    have hi := fun W => index_any l hl W
    have hI : ∀ W, Calls Tryd.prog 9 #[.string (bs l)] W fun e w' => ∃ (n : Int) (k : Bool), e = .returned (.tuple #[.int .i64 n, .bool k]) ∧ idxAns (idx l) = .tuple #[.int .i64 n, .bool k] ∧ ∃ d, w' = W.drewN d := by
      intro W
      refine (hi W).mono ?_
      rintro e w' ⟨rfl, hw⟩
      cases ho : idx l with
      | none => exact ⟨0, false, rfl, rfl, hw⟩
      | some n => exact ⟨n, true, rfl, rfl, hw⟩
    clear hi
    generalize bs l = S at *
    go_enter Tryd.func49, Tryd.ntmps49
    go_wp2_with (go_at_call 9; ((with_reducible refine (hI _).mono ?_); rintro e w' ⟨n, k, rfl, hn, d, rfl⟩; have HN := Lib.hid hn; clear hn))
    go_ret2
    exact ⟨by rw [HN.out]; rfl, d, rfl⟩
  · have h2' : (kind != 2) = true := by simpa using h2
    rw [if_neg h2]
    clear h2
    go_enter Tryd.func49, Tryd.ntmps49
    go_wp2
    go_ret2
    exact ⟨rfl, 0, rfl⟩
end Go.Proofs.YtmndmnajgfabnaaDoor
