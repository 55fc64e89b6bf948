/- The laws' own first question (awake) is answered true, in every world in which the two tables of unicode/utf8 hold what they were laid with. -/
import Derived.Test.YtalhpihoblhacaaDoorNarrowB
import Derived.KernelRfl
namespace Go.Proofs.YtalhpihoblhacaaDoor
open Go.RowKit Go.Shelf
set_option linter.unusedVariables false

def tA : ByteArray := ⟨#[97, 240, 159, 152, 128]⟩
def tB : ByteArray := ⟨#[97, 192, 128]⟩
def tW : ByteArray := ⟨#[0, 97, 216, 61, 222, 0]⟩
theorem wideA : wideL (ls tA) = [0, 97, 216, 61, 222, 0] ∧ wideAt (ls tA) = 0 ∧ wideErr (ls tA) = 0 := by
  decide +kernel
theorem wideB : wideL (ls tB) = [] ∧ wideAt (ls tB) = 1 ∧ wideErr (ls tB) = 10 := by
  decide +kernel
theorem narrowW : narrowL (ls tW) = [97, 240, 159, 152, 128] ∧ narrowErr (ls tW) = 0 := by
  decide +kernel
theorem callA (w : World) (hT : Lib.Utf8Tabs 0 1 w) : Calls Tryd.prog 12 #[.string ⟨#[97, 240, 159, 152, 128]⟩] w fun e w' => e = .returned (.tuple #[.string ⟨#[0, 97, 216, 61, 222, 0]⟩, .int .i64 0, .int .i64 0]) ∧ Below w.heap.size w w' := by
  have h := wide_any tA (by decide) w hT
  rw [wideA.1, wideA.2.1, wideA.2.2] at h
  exact h
theorem callB (w : World) (hT : Lib.Utf8Tabs 0 1 w) : Calls Tryd.prog 12 #[.string ⟨#[97, 192, 128]⟩] w fun e w' => e = .returned (.tuple #[.string ⟨#[]⟩, .int .i64 1, .int .i64 10]) ∧ Below w.heap.size w w' := by
  have h := wide_any tB (by decide) w hT
  rw [wideB.1, wideB.2.1, wideB.2.2] at h
  exact h
theorem callW (w : World) : Calls Tryd.prog 14 #[.string ⟨#[0, 97, 216, 61, 222, 0]⟩] w fun e w' => e = .returned (.tuple #[.string ⟨#[97, 240, 159, 152, 128]⟩, .int .i64 0]) ∧ Below w.heap.size w w' := by
  have h := narrow_even tW (by decide) (by decide) w
  rw [narrowW.1, narrowW.2] at h
  exact h

set_option maxHeartbeats 4000000 in
theorem awake_any (w : World) (hT : Lib.Utf8Tabs 0 1 w) :
    Calls Tryd.prog 11 #[] w fun e w' => e = .returned (.bool true) ∧ Below w.heap.size w w' := by
  have HT := Lib.hid hT
  clear hT
  go_enter Tryd.func11, Tryd.ntmps11
  go_wp2_with fail
  refine (callA _ HT.out).mono ?_
  rintro e w1 ⟨rfl, hb1⟩
  go_wp2_with fail
  refine (callW _).mono ?_
  rintro e w2 ⟨rfl, hb2⟩
  have hb12 := hb1.trans (hb2.mono hb1.size)
  go_wp2_with fail
  refine (callB _ (Utf8Tabs_below HT.out hb12)).mono ?_
  rintro e w3 ⟨rfl, hb3⟩
  go_wp2_with (first | (go_at_call 18; refine (length_any ⟨#[0, 97, 216, 61, 222, 0]⟩ (by decide) _).mono ?_; rintro e w' ⟨rfl, rfl⟩))
  go_ret
  exact ⟨rfl, hb12.trans (hb3.mono hb12.size)⟩
end Go.Proofs.YtalhpihoblhacaaDoor
