/- The walk of the law UtfCases: for every text it answers true. -/
import Derived.Test.YtalhpihoblhacaaDoorAwake
import Derived.Test.YtalhpihoblhacaaDoorMoved
namespace Go.Proofs.YtalhpihoblhacaaDoor
open Go.RowKit Go.Shelf
set_option linter.unusedVariables false

namespace U
theorem up_nat (hi lo : UInt8) : (mvU 97 122 65 hi lo).toNat = if hi.toNat = 0 ∧ 97 ≤ lo.toNat ∧ lo.toNat ≤ 122 then lo.toNat - 32 else lo.toNat := by
  have := lo.toNat_lt
  unfold mvU
  split
  · rw [ofNat_toNat _ (Nat.mod_lt _ (by omega))]; omega
  · rfl
theorem low_nat (hi lo : UInt8) : (mvU 65 90 97 hi lo).toNat = if hi.toNat = 0 ∧ 65 ≤ lo.toNat ∧ lo.toNat ≤ 90 then lo.toNat + 32 else lo.toNat := by
  have := lo.toNat_lt
  unfold mvU
  split
  · rw [ofNat_toNat _ (Nat.mod_lt _ (by omega))]; omega
  · rfl
theorem up_up (hi lo : UInt8) : mvU 97 122 65 hi (mvU 97 122 65 hi lo) = mvU 97 122 65 hi lo := by
  apply UInt8.toNat_inj.1
  rw [up_nat, up_nat]
  repeat' split
  all_goals omega
theorem low_low (hi lo : UInt8) : mvU 65 90 97 hi (mvU 65 90 97 hi lo) = mvU 65 90 97 hi lo := by
  apply UInt8.toNat_inj.1
  rw [low_nat, low_nat]
  repeat' split
  all_goals omega
theorem low_up (hi lo : UInt8) : mvU 65 90 97 hi (mvU 97 122 65 hi lo) = mvU 65 90 97 hi lo := by
  apply UInt8.toNat_inj.1
  rw [low_nat, up_nat, low_nat]
  repeat' split
  all_goals omega
theorem up_low (hi lo : UInt8) : mvU 97 122 65 hi (mvU 65 90 97 hi lo) = mvU 97 122 65 hi lo := by
  apply UInt8.toNat_inj.1
  rw [up_nat, low_nat, up_nat]
  repeat' split
  all_goals omega
theorem mv_mv {f t o f' t' o' f'' t'' o'' : Nat} (h : ∀ hi lo, mvU f t o hi (mvU f' t' o' hi lo) = mvU f'' t'' o'' hi lo) : ∀ (n : Nat) (l : List UInt8), l.length ≤ n → mv f t o (mv f' t' o' l) = mv f'' t'' o'' l
  | _, [], _ => rfl
  | _, [_], _ => by simp [mv]
  | 0, _ :: _ :: _, hl => by simp at hl
  | n + 1, a :: b :: r, hl => by
    have := mv_mv h n r (by simp only [List.length_cons] at hl; omega)
    simp only [mv, this, h]
end U

theorem upper_eq (s : ByteArray) (hs : s.size ≤ 140737488355328) (R : ByteArray) (h : U.mv 97 122 65 (ls s) = ls R) (w : World) :
    Calls Tryd.prog 25 #[.string s] w fun e w' => e = .returned (.string R) ∧ Below w.heap.size w w' := by
  have e : (⟨(U.mv 97 122 65 (ls s)).toArray⟩ : ByteArray) = R := str_ext h
  rw [← e]
  exact upper_any s hs w
theorem lower_eq (s : ByteArray) (hs : s.size ≤ 140737488355328) (R : ByteArray) (h : U.mv 65 90 97 (ls s) = ls R) (w : World) :
    Calls Tryd.prog 23 #[.string s] w fun e w' => e = .returned (.string R) ∧ Below w.heap.size w w' := by
  have e : (⟨(U.mv 65 90 97 (ls s)).toArray⟩ : ByteArray) = R := str_ext h
  rw [← e]
  exact lower_any s hs w

set_option maxHeartbeats 4000000 in
theorem law_cases (s : ByteArray) (hs : s.size ≤ 140737488355328) (w : World) (hT : Lib.Utf8Tabs 0 1 w) :
    Calls Tryd.prog 10 #[.string s] w fun e w' => e = .returned (.bool true) ∧ Below w.heap.size w w' := by
  have HT := Lib.hid hT
  clear hT
  by_cases ho : s.size % 2 = 1
  · have hz : (s.size : Int) % 2 = 1 := by omega
    go_enter Tryd.func10, Tryd.ntmps10
    go_wp2_with fail
    refine (awake_any _ HT.out).mono ?_
    rintro e w1 ⟨rfl, hb1⟩
    go_wp2
    go_ret
    exact ⟨rfl, hb1⟩
  · have hz : (s.size : Int) % 2 = 0 := by omega
    obtain ⟨A, hA⟩ := str_mk (U.mv 97 122 65 (ls s))
    obtain ⟨B, hB⟩ := str_mk (U.mv 65 90 97 (ls s))
    have hAs : A.size = s.size := by rw [← ls_length, hA, U.mv_length _ _ _ _ _ (Nat.le_refl _), ls_length]; omega
    have hBs : B.size = s.size := by rw [← ls_length, hB, U.mv_length _ _ _ _ _ (Nat.le_refl _), ls_length]; omega
    have c1 := upper_eq s hs A hA.symm
    have c2 := lower_eq s hs B hB.symm
    have c3 := upper_eq A (by omega) A (by rw [hA]; exact U.mv_mv U.up_up _ _ (Nat.le_refl _))
    have c4 := lower_eq B (by omega) B (by rw [hB]; exact U.mv_mv U.low_low _ _ (Nat.le_refl _))
    have c5 := lower_eq A (by omega) B (by rw [hA, hB]; exact U.mv_mv U.low_up _ _ (Nat.le_refl _))
    have c6 := upper_eq B (by omega) A (by rw [hA, hB]; exact U.mv_mv U.up_low _ _ (Nat.le_refl _))
    have hAz : (A.size : Int) = s.size := by omega
    have hBz : (B.size : Int) = s.size := by omega
    clear hA hB ho hAs hBs
    go_enter Tryd.func10, Tryd.ntmps10
    go_wp2_with fail
    refine (awake_any _ HT.out).mono ?_
    rintro e w1 ⟨rfl, hb1⟩
    go_wp2_with fail
    refine (c1 _).mono ?_
    rintro e w2 ⟨rfl, hb2⟩
    have hc2 := hb1.trans (hb2.mono hb1.size)
    clear hb2 hb1
    go_wp2_with fail
    refine (c2 _).mono ?_
    rintro e w3 ⟨rfl, hb3⟩
    have hc3 := hc2.trans (hb3.mono hc2.size)
    clear hb3 hc2
    go_wp2_with fail
    refine (c3 _).mono ?_
    rintro e w4 ⟨rfl, hb4⟩
    have hc4 := hc3.trans (hb4.mono hc3.size)
    clear hb4 hc3
    go_wp2_with fail
    refine (c4 _).mono ?_
    rintro e w5 ⟨rfl, hb5⟩
    have hc5 := hc4.trans (hb5.mono hc4.size)
    clear hb5 hc4
    go_wp2_with fail
    refine (c5 _).mono ?_
    rintro e w6 ⟨rfl, hb6⟩
    have hc6 := hc5.trans (hb6.mono hc5.size)
    clear hb6 hc5
    go_wp2_with fail
    refine (c6 _).mono ?_
    rintro e w7 ⟨rfl, hb7⟩
    go_wp2
    go_ret
    exact ⟨rfl, hc6.trans (hb7.mono hc6.size)⟩
end Go.Proofs.YtalhpihoblhacaaDoor
