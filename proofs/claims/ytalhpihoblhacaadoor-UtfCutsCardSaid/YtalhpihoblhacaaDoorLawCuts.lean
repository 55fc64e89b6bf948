/- The walk of the law UtfCuts: for every wide text and number it answers true. -/
import Derived.Test.YtalhpihoblhacaaDoorAwake
namespace Go.Proofs.YtalhpihoblhacaaDoor
open Go.RowKit Go.Shelf
set_option linter.unusedVariables false

set_option maxHeartbeats 4000000 in
theorem law_cuts (s : ByteArray) (hs : s.size ≤ 140737488355328) (k : Int) (hk0 : 0 ≤ k) (hk1 : k < 65536) (w : World) (hT : Lib.Utf8Tabs 0 1 w) :
    Calls Tryd.prog 9 #[.string s, .int .u16 k] w fun e w' => e = .returned (.bool true) ∧ Below w.heap.size w w' := by
  have HT := Lib.hid hT
  clear hT
  by_cases ho : s.size % 2 = 1
  · have hz : (s.size : Int) % 2 = 1 := by omega
    go_enter Tryd.func9, Tryd.ntmps9
    go_wp2_with fail
    refine (awake_any _ HT.out).mono ?_
    rintro e w1 ⟨rfl, hb1⟩
    go_wp2
    go_ret
    exact ⟨rfl, hb1⟩
  · obtain ⟨n, hn⟩ : ∃ n : Nat, s.size = 2 * n := ⟨s.size / 2, by omega⟩
    have hz : (s.size : Int) % 2 = 0 := by omega
    have cl := length_eq s hs (n : Int) (by omega)
    obtain ⟨i, hi⟩ : ∃ i : Nat, k % ((n : Int) + 1) = i := ⟨(k % ((n : Int) + 1)).toNat, by have := Int.emod_nonneg k (show ((n : Int) + 1) ≠ 0 by omega); omega⟩
    have hin : i ≤ n := by have := Int.emod_lt_of_pos k (show 0 < (n : Int) + 1 by omega); omega
    obtain ⟨A, hA⟩ := str_mk ((ls s).take (2 * i))
    obtain ⟨B, hB⟩ := str_mk ((ls s).drop (2 * i))
    have hl : (ls s).length = 2 * n := by rw [ls_length]; exact hn
    have hAs : A.size = 2 * i := by rw [← ls_length, hA, List.length_take, hl]; omega
    have hBs : B.size = 2 * (n - i) := by rw [← ls_length, hB, List.length_drop, hl]; omega
    have ca := cut_eq s hs 0 (i : Int) A (by
      unfold cutL clampN
      rw [hl, hA, show 2 * n / 2 = n by omega]
      simp only [Int.toNat_zero, Int.toNat_natCast, Nat.zero_min, Nat.mul_zero, List.drop_zero, Nat.sub_zero, Nat.min_eq_left hin])
    have cb := cut_eq s hs (i : Int) (n : Int) B (by
      unfold cutL clampN
      rw [hl, hB, show 2 * n / 2 = n by omega]
      simp only [Int.toNat_natCast, Nat.min_eq_left hin, Nat.min_self]
      exact List.take_of_length_le (by rw [List.length_drop, hl]; omega))
    have cla := length_eq A (by omega) (i : Int) (by omega)
    have clb := length_eq B (by omega) ((n : Int) - (i : Int)) (by omega)
    have hcat : A ++ B = s := str_ext (by rw [ls_append, hA, hB, List.take_append_drop])
    have hsz : (2 * (n : Int)) = (s.size : Int) := by omega
    have hn47 : (n : Int) ≤ 140737488355328 := by omega
    have hn0 : 0 < (n : Int) + 1 := by omega
    have hsum : ¬ (A.size + B.size > 9223372036854775807) := by omega
    clear hA hB hAs hBs hl ho
    have HN := Lib.hid hn
    clear hn
    go_enter Tryd.func9, Tryd.ntmps9
    go_wp2_with fail
    refine (awake_any _ HT.out).mono ?_
    rintro e w1 ⟨rfl, hb1⟩
    go_wp2_with fail
    refine (cl _).mono ?_
    rintro e w2 ⟨rfl, rfl⟩
    go_wp2_with fail
    refine (ca _).mono ?_
    rintro e w2 ⟨rfl, rfl⟩
    go_wp2_with fail
    refine (cb _).mono ?_
    rintro e w2 ⟨rfl, rfl⟩
    go_wp2_with fail
    refine (cla _).mono ?_
    rintro e w2 ⟨rfl, rfl⟩
    go_wp2_with fail
    refine (clb _).mono ?_
    rintro e w2 ⟨rfl, rfl⟩
    go_wp2
    go_ret
    exact ⟨rfl, hb1⟩
end Go.Proofs.YtalhpihoblhacaaDoor
