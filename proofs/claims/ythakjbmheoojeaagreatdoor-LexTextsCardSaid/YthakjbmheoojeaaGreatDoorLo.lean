/- What package math's small functions answer at 31. Conditions: none. -/
import Derived.Test.YthakjbmheoojeaaGreatDoorLk
import Derived.Laws.Externs
namespace Go.Proofs.YthakjbmheoojeaaGreatDoor
open Go.RowKit
set_option linter.all false
theorem x_bits (v : Nat) (W : World) : (callFunc 56 #[.float .f64 v]).run Tryz.prog W = .ok (.value (.int .u64 (v : Int))) W := by
  rw [run_callFunc_extern Tryz.func56 (by kernel_rfl) (by kernel_rfl) (by kernel_rfl) (e := Extern.MathFloatBits.float64bits) (by kernel_rfl) #[.float .f64 v] W]
  rfl
theorem x_from (v : Int) (W : World) : (callFunc 65 #[.int .u64 v]).run Tryz.prog W = .ok (.value (.float .f64 v.toNat)) W := by
  rw [run_callFunc_extern Tryz.func65 (by kernel_rfl) (by kernel_rfl) (by kernel_rfl) (e := Extern.MathFloatBits.float64frombits) (by kernel_rfl) #[.int .u64 v] W]
  rfl
def b31 : Nat := 4629418941960159232
theorem abs_31 (w : World) : Calls Tryz.prog 148 #[.float .f64 b31] w fun e w' => e = .returned (.float .f64 b31) ∧ w' = w := by
  have hb : bits .andNot .u64 (b31 : Int) 9223372036854775808 = (b31 : Int) := by kernel_rfl
  have x1 := x_bits
  have x2 := x_from
  generalize b31 = b at *
  go_enter Tryz.func148, Tryz.ntmps148
  go_wp2
  go_ret
  exact ⟨rfl, rfl⟩
theorem isNaN_31 (w : World) : Calls Tryz.prog 143 #[.float .f64 b31] w fun e w' => e = .returned (.bool false) ∧ w' = w := by
  have hb : FloatKind.f64.format.order b31 b31 = some Ordering.eq := by kernel_rfl
  generalize b31 = b at *
  go_enter Tryz.func143, Tryz.ntmps143
  go_wp2
  go_ret
  exact ⟨rfl, rfl⟩
theorem isInf_31 (w : World) : Calls Tryz.prog 142 #[.float .f64 b31, .int .i64 0] w fun e w' => e = .returned (.bool false) ∧ w' = w := by
  have hb : Hid (((FloatKind.f64.format.order b31 9218868437227405311 == some Ordering.gt)) = false) := Lib.hid (by kernel_rfl)
  have ha := abs_31
  generalize b31 = b at *
  go_enter Tryz.func142, Tryz.ntmps142
  go_wp2_with (go_at_call 148; refine (ha _).mono ?_; rintro e w' ⟨rfl, rfl⟩)
  go_ret
  exact ⟨by rw [hb.out]; rfl, rfl⟩
theorem normalize_31 (w : World) : Calls Tryz.prog 144 #[.float .f64 b31] w fun e w' => e = .returned (.tuple #[.float .f64 b31, .int .i64 0]) ∧ w' = w := by
  have hb : Hid ((FloatKind.f64.format.order b31 4503599627370496 == some Ordering.lt) = false) := Lib.hid (by kernel_rfl)
  have ha := abs_31
  generalize b31 = b at *
  go_enter Tryz.func144, Tryz.ntmps144
  have hb2 := hb.out
  go_wp2_with (go_at_call 148; refine (ha _).mono ?_; rintro e w' ⟨rfl, rfl⟩)
  go_ret2
  exact ⟨rfl, rfl⟩
theorem ldexp_31 (w : World) : Calls Tryz.prog 135 #[.float .f64 b31, .int .i64 0] w fun e w' => e = .returned (.float .f64 b31) ∧ w' = w := by
  have h0 : (FloatKind.f64.format.order b31 0 == some Ordering.eq) = false := by kernel_rfl
  have e1 : wrap64 ((b31 : Int) / 4503599627370496) = 1027 := by kernel_rfl
  have e2 : bits .and .i64 1027 2047 = 1027 := by kernel_rfl
  have e3 : ∀ W : World, (binOp .mul 30 (.float .f64 4607182418800017408) (.float .f64 (bits .or .u64 (bits .andNot .u64 (b31 : Int) 9218868437227405312) 4625196817309499392).toNat)).run Tryz.prog W = .ok (.float .f64 b31) W := fun W => by kernel_rfl
  have h1 := isInf_31
  have h2 := isNaN_31
  have h3 := normalize_31
  have x1 := x_bits
  have x2 := x_from
  generalize b31 = b at *
  go_enter Tryz.func135, Tryz.ntmps135
  go_wp2_with (first | (go_at_call 142; refine (h1 _).mono ?_; rintro e w' ⟨rfl, rfl⟩) | (go_at_call 143; refine (h2 _).mono ?_; rintro e w' ⟨rfl, rfl⟩) | (go_at_call 144; refine (h3 _).mono ?_; rintro e w' ⟨rfl, rfl⟩))
  go_ret
  exact ⟨rfl, rfl⟩
theorem mathLdexp_31 (w : World) : Calls Tryz.prog 123 #[.float .f64 b31, .int .i64 0] w fun e w' => e = .returned (.float .f64 b31) ∧ w' = w := by
  have h1 := ldexp_31
  generalize b31 = b at *
  go_enter Tryz.func123, Tryz.ntmps123
  go_wp2_with (go_at_call 135; refine (h1 _).mono ?_; rintro e w' ⟨rfl, rfl⟩)
  go_ret
  exact ⟨rfl, rfl⟩
end Go.Proofs.YthakjbmheoojeaaGreatDoor
