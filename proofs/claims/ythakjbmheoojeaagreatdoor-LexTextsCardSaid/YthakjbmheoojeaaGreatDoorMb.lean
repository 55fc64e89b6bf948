/- The statement LexTexts: a text of numbered units is told as it is. Conditions: those that each theorem names. -/
import Derived.Test.YthakjbmheoojeaaGreatDoorLq
import Derived.Test.YthakjbmheoojeaaGreatDoorMa
namespace Go.Proofs.YthakjbmheoojeaaGreatDoor
open Go.RowKit
set_option linter.all false

theorem dig : ∀ k, k < 16 → (ByteArray.extract ⟨#[48, 49, 50, 51, 52, 53, 54, 55, 56, 57, 97, 66, 99, 68, 101, 70]⟩ k (k + 1)) = bs [X.hd k] := by
  intro k hk
  rcases (by omega : k = 0 ∨ k = 1 ∨ k = 2 ∨ k = 3 ∨ k = 4 ∨ k = 5 ∨ k = 6 ∨ k = 7 ∨ k = 8 ∨ k = 9 ∨ k = 10 ∨ k = 11 ∨ k = 12 ∨ k = 13 ∨ k = 14 ∨ k = 15) with rfl | rfl | rfl | rfl | rfl | rfl | rfl | rfl | rfl | rfl | rfl | rfl | rfl | rfl | rfl | rfl <;> kernel_rfl
theorem bs_app (a b : List UInt8) : bs a ++ bs b = bs (a ++ b) := by
  apply ByteArray.ext
  show (bs a ++ bs b).data = (a ++ b).toArray
  simp [bs, ByteArray.data_append]
set_option maxHeartbeats 4000000 in
theorem hex_any (n : Nat) (h : n < 256) (w : World) : Calls Tryz.prog 17 #[.int .u8 (n : Int)] w fun e w' => e = .returned (.string (bs [X.hd (n / 16), X.hd (n % 16)])) ∧ ∃ m, w' = w.drewN m := by
  have e1 : IntKind.u8.wrap ((n : Int) / 16 + 1) = (n : Int) / 16 + 1 := IntWalk.u8_in _ (by omega)
  have e2 : IntKind.u8.wrap ((n : Int) % 16 + 1) = (n : Int) % 16 + 1 := IntWalk.u8_in _ (by omega)
  have e0 : IntKind.u8.wrap ((n : Int) / 16) = (n : Int) / 16 := IntWalk.u8_in _ (by omega)
  have e3 : IntKind.u8.wrap ((n : Int) % 16) = (n : Int) % 16 := IntWalk.u8_in _ (by omega)
  have g1 : 0 ≤ (n : Int) / 16 := by omega
  have g2 : (n : Int) / 16 ≤ (n : Int) / 16 + 1 := by omega
  have g3 : (n : Int) / 16 + 1 ≤ 16 := by omega
  have k1 : 0 ≤ (n : Int) % 16 := by omega
  have k2 : (n : Int) % 16 ≤ (n : Int) % 16 + 1 := by omega
  have k3 : (n : Int) % 16 + 1 ≤ 16 := by omega
  have hsz : ByteArray.size ⟨#[48, 49, 50, 51, 52, 53, 54, 55, 56, 57, 97, 66, 99, 68, 101, 70]⟩ = 16 := rfl
  go_enter Tryz.func17, Tryz.ntmps17
  go_wp2
  go_quiet (fail)
  go_wp2
  go_ret
  refine ⟨?_, _, rfl⟩
  show Ending.returned (.string (ByteArray.extract ⟨#[48, 49, 50, 51, 52, 53, 54, 55, 56, 57, 97, 66, 99, 68, 101, 70]⟩ (n / 16) (n / 16 + 1) ++ ByteArray.extract ⟨#[48, 49, 50, 51, 52, 53, 54, 55, 56, 57, 97, 66, 99, 68, 101, 70]⟩ (n % 16) (n % 16 + 1))) = _
  rw [dig (n / 16) (by omega), dig (n % 16) (by omega), bs_app]
  rfl
end Go.Proofs.YthakjbmheoojeaaGreatDoor
