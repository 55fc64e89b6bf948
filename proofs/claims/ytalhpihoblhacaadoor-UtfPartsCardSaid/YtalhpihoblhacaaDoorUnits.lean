/- test -/
import Derived.Test.YtalhpihoblhacaaDoorWrite
import Derived.Deep.QuietTactic
import Derived.BigQuiet
import Derived.IntWalk
import Derived.Lib.Hide
namespace Go.Proofs.YtalhpihoblhacaaDoor
open Go.RowKit Go.Shelf

theorem byteCells_append (a b : List UInt8) : Lib.byteCells (a ++ b) = Lib.byteCells a ++ Lib.byteCells b := by simp [Lib.byteCells]
theorem be_length (u : Nat) : (U.be u).length = 2 := rfl
theorem byteCells_be (z : Int) (h0 : 0 ≤ z) (h1 : z < 65536) : Lib.byteCells (U.be z.toNat) = [.int .u8 (z / 256), .int .u8 (z % 256)] := by
  simp only [Lib.byteCells, U.be, List.map_cons, List.map_nil, U.ofNat_toNat _ (show z.toNat / 256 < 256 by omega), U.ofNat_toNat _ (show z.toNat % 256 < 256 by omega)]
  rw [show ((z.toNat / 256 : Nat) : Int) = z / 256 by omega, show ((z.toNat % 256 : Nat) : Int) = z % 256 by omega]

theorem i32_and1023 (x : Int) (h0 : 0 ≤ x) (h1 : x < 2147483648) : bits .and .i32 x 1023 = x % 1024 := bits_mask .i32 31 (by decide) wraps_i32 10 (by decide) x h0 h1
theorem wraps_i64 (n : Int) (h₀ : 0 ≤ n) (h₁ : n < 2 ^ 63) : IntKind.i64.wrap n = n := by rw [IntKind.wrap_i64]; omega
theorem i64_join8 (x y : Int) (hx0 : 0 ≤ x) (hx : x % 256 = 0) (hx1 : x < 9223372036854775808) (h0 : 0 ≤ y) (h1 : y < 256) : bits .or .i64 x y = x + y :=
  bits_join .i64 63 (by decide) wraps_i64 8 x y hx0 hx hx1 h0 h1 (by omega)

set_option maxHeartbeats 1000000 in
theorem writeUnit_any (B b : Nat) (z : Int) (h0 : 0 ≤ z) (h1 : z < 65536) (bs : List Value) (w : World) (h : Lib.IsBuilderF 56 5 B b bs w) (hlen : bs.length + 2 ≤ 140737488355328) (hBw : B ≤ w.heap.size) :
    Calls Tryd.prog 41 #[.pointer (some ⟨b, 0, none⟩), .int .i32 z] w fun e w' => e = .returned (.tuple #[]) ∧ (Lib.BuilderAtF 56 5 B b (.pointer (some ⟨b, 0, none⟩)) (bs ++ Lib.byteCells (U.be z.toNat)) w' ∧ Below B w w') := by
  have HC := Lib.hid (byteCells_be z h0 h1)
  go_enter Tryd.func41, Tryd.ntmps41
  go_wp2_with (go_at_call 45; refine (writeByte_any B b bs _ _ h (by omega) hBw).mono ?_)
  rintro e w1 ⟨rfl, h1, hb1⟩
  go_wp2_with (go_at_call 45; refine (writeByte_any B b _ _ _ (.inr h1) (by rw [List.length_append]; simp only [List.length_cons, List.length_nil]; omega) (by have := hb1.size; omega)).mono ?_)
  rintro e w2 ⟨rfl, h2, hb2⟩
  go_wp2
  go_end0
  refine ⟨rfl, ?_, hb1.trans hb2⟩
  rw [HC.out]
  rw [List.append_assoc] at h2
  exact h2

set_option maxHeartbeats 1000000 in
theorem writeCharacter_any (B b : Nat) (c : Nat) (hc : c ≤ 1114111) (bs : List Value) (w : World) (h : Lib.IsBuilderF 56 5 B b bs w) (hlen : bs.length + 4 ≤ 140737488355328) (hBw : B ≤ w.heap.size) :
    Calls Tryd.prog 28 #[.pointer (some ⟨b, 0, none⟩), .int .i32 (c : Int)] w fun e w' => e = .returned (.tuple #[]) ∧ (Lib.IsBuilderF 56 5 B b (bs ++ Lib.byteCells ((U.units c).flatMap U.be)) w' ∧ Below B w w') := by
  by_cases hc1 : c < 65536
  · have hu := Lib.hid (U.units_one c hc1)
    have hz : (c : Int) < 65536 := by omega
    go_enter Tryd.func28, Tryd.ntmps28
    go_wp2_with fail
    refine (writeUnit_any B b _ (by omega) hz bs _ h (by omega) hBw).mono ?_
    rintro e w1 ⟨rfl, h1, hb1⟩
    go_wp2
    refine bodyPost_ret (v := .tuple #[]) (by simp [results, Tryd.results28, go_sem]) rfl ⟨rfl, .inr ?_, hb1⟩
    rw [hu.out]
    simpa using h1
  · have hz : ¬ (c : Int) < 65536 := by omega
    have hm := i32_and1023 ((c : Int) - 65536) (by omega) (by omega)
    have HE : Hid (bs ++ Lib.byteCells (U.be (55296 + ((c : Int) - 65536) / 1024).toNat) ++ Lib.byteCells (U.be (56320 + ((c : Int) - 65536) % 1024).toNat) = bs ++ Lib.byteCells ((U.units c).flatMap U.be)) := by
      show _ = _
      unfold U.units
      rw [if_neg hc1, show (55296 + ((c : Int) - 65536) / 1024).toNat = 55296 + (c - 65536) / 1024 by omega, show (56320 + ((c : Int) - 65536) % 1024).toNat = 56320 + (c - 65536) % 1024 by omega]
      simp [byteCells_append]
    go_enter Tryd.func28, Tryd.ntmps28
    go_wp2_with fail
    refine (writeUnit_any B b _ (by omega) (by omega) bs _ h (by omega) hBw).mono ?_
    rintro e w1 ⟨rfl, h1, hb1⟩
    go_wp2_with fail
    refine (writeUnit_any B b _ (by omega) (by omega) _ _ (.inr h1) (by rw [List.length_append, Lib.byteCells_length, be_length]; omega) (by have := hb1.size; omega)).mono ?_
    rintro e w2 ⟨rfl, h2, hb2⟩
    go_wp2
    go_end0
    refine ⟨rfl, .inr ?_, hb1.trans hb2⟩
    rw [← HE.out]
    exact h2
end Go.Proofs.YtalhpihoblhacaaDoor
