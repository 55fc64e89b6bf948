/- esnum's word of the infinity. Conditions: those that each theorem names. esnum's digits of sixteen. Conditions: those that each theorem names. esnum's digits of sixteen, one more. Conditions: those that each theorem names. esnum's digits of sixteen. Conditions: those that each theorem names. -/
import Derived.Test.YtelphbcdjfdjpaaGreatDoorZ22
namespace Go.Proofs.YtelphbcdjfdjpaaGreatDoor
open Go.RowKit
set_option linter.all false

def endL (k : Nat) : Int := [73, 110, 102, 105, 110, 105, 116, 121].getD k 0
/-- Whether the word's last f letters, and the end, stand where the word begins at i. -/
def endF (s : Nat → Int) (i : Nat) : Nat → Bool
  | 0 => s (i + 8) == -1
  | f + 1 => if s (i + (7 - f)) = endL (7 - f) then endF s i f else false
set_option maxHeartbeats 16000000 in
theorem isEndless_any (S : ByteArray) (hS : S.size ≤ 140737488355328) (fr to a b c i : Nat) (ht : 2 * to ≤ S.size) (hft : fr ≤ to) (hi : i ≤ 1000000) (w : World) (h : LookS S fr to a b c w) :
    Calls Tryz.prog 116 #[.func (.func 98) #[] #[.pointer (some ⟨a, 0, none⟩), .pointer (some ⟨b, 0, none⟩), .pointer (some ⟨c, 0, none⟩)], .int .i64 (i : Int)] w fun e w' => e = .returned (.bool (endF (seenAt S fr to) i 8)) ∧ ∃ n, w' = w.drewN n := by
  have hlk := fun j (hj : j ≤ 140737488355328) => look_any S hS fr to a b c j ht hj hft
  have HLk := Lib.hid hlk
  have HL := Lib.hid h
  obtain ⟨R, hR⟩ : ∃ R, endF (seenAt S fr to) i 8 = R := ⟨_, rfl⟩
  rw [hR]
  have HR := Lib.hid hR
  clear hlk h hR
  go_enter Tryz.func116, Tryz.ntmps116
  go_wp2
  go_loopg [6, 5] 8 (fun g v6 v5 wr => ∃ m, wr = w.drewN m ∧ Hid (endF (seenAt S fr to) i g = R) ∧ (g = 8 ∧ v6 = .int .i64 0 ∨ g = 7 ∧ v6 = .int .i64 1 ∨ g = 6 ∧ v6 = .int .i64 2 ∨ g = 5 ∧ v6 = .int .i64 3 ∨ g = 4 ∧ v6 = .int .i64 4 ∨ g = 3 ∧ v6 = .int .i64 5 ∨ g = 2 ∧ v6 = .int .i64 6 ∨ g = 1 ∧ v6 = .int .i64 7 ∨ g = 0 ∧ v6 = .int .i64 8))
  case atStart => exact ⟨0, rfl, HR, .inl ⟨rfl, rfl⟩⟩
  case round =>
    obtain ⟨m, rfl, hRr, hrel⟩ := hrel
    rcases hrel with ⟨rfl, rfl⟩ | ⟨rfl, rfl⟩ | ⟨rfl, rfl⟩ | ⟨rfl, rfl⟩ | ⟨rfl, rfl⟩ | ⟨rfl, rfl⟩ | ⟨rfl, rfl⟩ | ⟨rfl, rfl⟩ | ⟨rfl, rfl⟩
    · have hl := HLk.out (i + 0) (by omega)
      obtain ⟨u, hu⟩ : ∃ u, seenAt S fr to (i + 0) = u := ⟨_, rfl⟩
      rw [hu, show ((i + 0 : Nat) : Int) = (i : Int) from by omega] at hl
      have hw1 : IntKind.i64.wrap ((i : Int) + 0) = (i : Int) := by rw [IntWalk.i64_in _ (by omega)]; omega
      have hw2 : IntKind.i64.wrap (i : Int) = (i : Int) := IntWalk.i64_in _ (by omega)
      have hx : wrap64 (((⟨#[73, 110, 102, 105, 110, 105, 116, 121]⟩ : ByteArray)[0]'(by decide)).toNat : Int) = 73 := by kernel_rfl
      have hRn := hRr.out
      unfold endF at hRn
      by_cases hm : u = 73
      · rw [show seenAt S fr to (i + (7 - 7)) = 73 from hu.trans hm, if_pos (show (73 : Int) = endL (7 - 7) by decide)] at hRn
        have HRn := Lib.hid hRn
        subst hm
        clear hu hRn hRr
        go_wp2
        go_quiet ((refine (hl _ (HL.out.drewN _)).mono ?_; rintro e w2 ⟨rfl, n2, rfl⟩; exact ⟨rfl, _, by rw [World.drewN_drewN, Nat.add_assoc]⟩))
        go_wp2
        go_roundg 7
        case measure => omega
        case rel => exact ⟨_, rfl, HRn, .inr (.inl ⟨rfl, rfl⟩)⟩
      · rw [if_neg (show ¬ seenAt S fr to (i + (7 - 7)) = endL (7 - 7) from fun e => hm (hu.symm.trans e))] at hRn
        have hm2 : (u != 73) = true := bne_iff_ne.2 hm
        subst hRn
        clear hu hRr hm
        go_wp2
        go_quiet ((refine (hl _ (HL.out.drewN _)).mono ?_; rintro e w2 ⟨rfl, n2, rfl⟩; exact ⟨rfl, _, by rw [World.drewN_drewN, Nat.add_assoc]⟩))
        go_wp2
        go_ret
        exact ⟨rfl, _, by rw [World.drewN_drewN]⟩
    · have hl := HLk.out (i + 1) (by omega)
      obtain ⟨u, hu⟩ : ∃ u, seenAt S fr to (i + 1) = u := ⟨_, rfl⟩
      rw [hu, show ((i + 1 : Nat) : Int) = (i : Int) + 1 from rfl] at hl
      have hw1 : IntKind.i64.wrap ((i : Int) + 1) = (i : Int) + 1 := by rw [IntWalk.i64_in _ (by omega)]
      have hx : wrap64 (((⟨#[73, 110, 102, 105, 110, 105, 116, 121]⟩ : ByteArray)[1]'(by decide)).toNat : Int) = 110 := by kernel_rfl
      have hRn := hRr.out
      unfold endF at hRn
      by_cases hm : u = 110
      · rw [show seenAt S fr to (i + (7 - 6)) = 110 from hu.trans hm, if_pos (show (110 : Int) = endL (7 - 6) by decide)] at hRn
        have HRn := Lib.hid hRn
        subst hm
        clear hu hRn hRr
        go_wp2
        go_quiet ((refine (hl _ (HL.out.drewN _)).mono ?_; rintro e w2 ⟨rfl, n2, rfl⟩; exact ⟨rfl, _, by rw [World.drewN_drewN, Nat.add_assoc]⟩))
        go_wp2
        go_roundg 6
        case measure => omega
        case rel => exact ⟨_, rfl, HRn, .inr (.inr (.inl ⟨rfl, rfl⟩))⟩
      · rw [if_neg (show ¬ seenAt S fr to (i + (7 - 6)) = endL (7 - 6) from fun e => hm (hu.symm.trans e))] at hRn
        have hm2 : (u != 110) = true := bne_iff_ne.2 hm
        subst hRn
        clear hu hRr hm
        go_wp2
        go_quiet ((refine (hl _ (HL.out.drewN _)).mono ?_; rintro e w2 ⟨rfl, n2, rfl⟩; exact ⟨rfl, _, by rw [World.drewN_drewN, Nat.add_assoc]⟩))
        go_wp2
        go_ret
        exact ⟨rfl, _, by rw [World.drewN_drewN]⟩
    · have hl := HLk.out (i + 2) (by omega)
      obtain ⟨u, hu⟩ : ∃ u, seenAt S fr to (i + 2) = u := ⟨_, rfl⟩
      rw [hu, show ((i + 2 : Nat) : Int) = (i : Int) + 2 from rfl] at hl
      have hw1 : IntKind.i64.wrap ((i : Int) + 2) = (i : Int) + 2 := by rw [IntWalk.i64_in _ (by omega)]
      have hx : wrap64 (((⟨#[73, 110, 102, 105, 110, 105, 116, 121]⟩ : ByteArray)[2]'(by decide)).toNat : Int) = 102 := by kernel_rfl
      have hRn := hRr.out
      unfold endF at hRn
      by_cases hm : u = 102
      · rw [show seenAt S fr to (i + (7 - 5)) = 102 from hu.trans hm, if_pos (show (102 : Int) = endL (7 - 5) by decide)] at hRn
        have HRn := Lib.hid hRn
        subst hm
        clear hu hRn hRr
        go_wp2
        go_quiet ((refine (hl _ (HL.out.drewN _)).mono ?_; rintro e w2 ⟨rfl, n2, rfl⟩; exact ⟨rfl, _, by rw [World.drewN_drewN, Nat.add_assoc]⟩))
        go_wp2
        go_roundg 5
        case measure => omega
        case rel => exact ⟨_, rfl, HRn, .inr (.inr (.inr (.inl ⟨rfl, rfl⟩)))⟩
      · rw [if_neg (show ¬ seenAt S fr to (i + (7 - 5)) = endL (7 - 5) from fun e => hm (hu.symm.trans e))] at hRn
        have hm2 : (u != 102) = true := bne_iff_ne.2 hm
        subst hRn
        clear hu hRr hm
        go_wp2
        go_quiet ((refine (hl _ (HL.out.drewN _)).mono ?_; rintro e w2 ⟨rfl, n2, rfl⟩; exact ⟨rfl, _, by rw [World.drewN_drewN, Nat.add_assoc]⟩))
        go_wp2
        go_ret
        exact ⟨rfl, _, by rw [World.drewN_drewN]⟩
    · have hl := HLk.out (i + 3) (by omega)
      obtain ⟨u, hu⟩ : ∃ u, seenAt S fr to (i + 3) = u := ⟨_, rfl⟩
      rw [hu, show ((i + 3 : Nat) : Int) = (i : Int) + 3 from rfl] at hl
      have hw1 : IntKind.i64.wrap ((i : Int) + 3) = (i : Int) + 3 := by rw [IntWalk.i64_in _ (by omega)]
      have hx : wrap64 (((⟨#[73, 110, 102, 105, 110, 105, 116, 121]⟩ : ByteArray)[3]'(by decide)).toNat : Int) = 105 := by kernel_rfl
      have hRn := hRr.out
      unfold endF at hRn
      by_cases hm : u = 105
      · rw [show seenAt S fr to (i + (7 - 4)) = 105 from hu.trans hm, if_pos (show (105 : Int) = endL (7 - 4) by decide)] at hRn
        have HRn := Lib.hid hRn
        subst hm
        clear hu hRn hRr
        go_wp2
        go_quiet ((refine (hl _ (HL.out.drewN _)).mono ?_; rintro e w2 ⟨rfl, n2, rfl⟩; exact ⟨rfl, _, by rw [World.drewN_drewN, Nat.add_assoc]⟩))
        go_wp2
        go_roundg 4
        case measure => omega
        case rel => exact ⟨_, rfl, HRn, .inr (.inr (.inr (.inr (.inl ⟨rfl, rfl⟩))))⟩
      · rw [if_neg (show ¬ seenAt S fr to (i + (7 - 4)) = endL (7 - 4) from fun e => hm (hu.symm.trans e))] at hRn
        have hm2 : (u != 105) = true := bne_iff_ne.2 hm
        subst hRn
        clear hu hRr hm
        go_wp2
        go_quiet ((refine (hl _ (HL.out.drewN _)).mono ?_; rintro e w2 ⟨rfl, n2, rfl⟩; exact ⟨rfl, _, by rw [World.drewN_drewN, Nat.add_assoc]⟩))
        go_wp2
        go_ret
        exact ⟨rfl, _, by rw [World.drewN_drewN]⟩
    · have hl := HLk.out (i + 4) (by omega)
      obtain ⟨u, hu⟩ : ∃ u, seenAt S fr to (i + 4) = u := ⟨_, rfl⟩
      rw [hu, show ((i + 4 : Nat) : Int) = (i : Int) + 4 from rfl] at hl
      have hw1 : IntKind.i64.wrap ((i : Int) + 4) = (i : Int) + 4 := by rw [IntWalk.i64_in _ (by omega)]
      have hx : wrap64 (((⟨#[73, 110, 102, 105, 110, 105, 116, 121]⟩ : ByteArray)[4]'(by decide)).toNat : Int) = 110 := by kernel_rfl
      have hRn := hRr.out
      unfold endF at hRn
      by_cases hm : u = 110
      · rw [show seenAt S fr to (i + (7 - 3)) = 110 from hu.trans hm, if_pos (show (110 : Int) = endL (7 - 3) by decide)] at hRn
        have HRn := Lib.hid hRn
        subst hm
        clear hu hRn hRr
        go_wp2
        go_quiet ((refine (hl _ (HL.out.drewN _)).mono ?_; rintro e w2 ⟨rfl, n2, rfl⟩; exact ⟨rfl, _, by rw [World.drewN_drewN, Nat.add_assoc]⟩))
        go_wp2
        go_roundg 3
        case measure => omega
        case rel => exact ⟨_, rfl, HRn, .inr (.inr (.inr (.inr (.inr (.inl ⟨rfl, rfl⟩)))))⟩
      · rw [if_neg (show ¬ seenAt S fr to (i + (7 - 3)) = endL (7 - 3) from fun e => hm (hu.symm.trans e))] at hRn
        have hm2 : (u != 110) = true := bne_iff_ne.2 hm
        subst hRn
        clear hu hRr hm
        go_wp2
        go_quiet ((refine (hl _ (HL.out.drewN _)).mono ?_; rintro e w2 ⟨rfl, n2, rfl⟩; exact ⟨rfl, _, by rw [World.drewN_drewN, Nat.add_assoc]⟩))
        go_wp2
        go_ret
        exact ⟨rfl, _, by rw [World.drewN_drewN]⟩
    · have hl := HLk.out (i + 5) (by omega)
      obtain ⟨u, hu⟩ : ∃ u, seenAt S fr to (i + 5) = u := ⟨_, rfl⟩
      rw [hu, show ((i + 5 : Nat) : Int) = (i : Int) + 5 from rfl] at hl
      have hw1 : IntKind.i64.wrap ((i : Int) + 5) = (i : Int) + 5 := by rw [IntWalk.i64_in _ (by omega)]
      have hx : wrap64 (((⟨#[73, 110, 102, 105, 110, 105, 116, 121]⟩ : ByteArray)[5]'(by decide)).toNat : Int) = 105 := by kernel_rfl
      have hRn := hRr.out
      unfold endF at hRn
      by_cases hm : u = 105
      · rw [show seenAt S fr to (i + (7 - 2)) = 105 from hu.trans hm, if_pos (show (105 : Int) = endL (7 - 2) by decide)] at hRn
        have HRn := Lib.hid hRn
        subst hm
        clear hu hRn hRr
        go_wp2
        go_quiet ((refine (hl _ (HL.out.drewN _)).mono ?_; rintro e w2 ⟨rfl, n2, rfl⟩; exact ⟨rfl, _, by rw [World.drewN_drewN, Nat.add_assoc]⟩))
        go_wp2
        go_roundg 2
        case measure => omega
        case rel => exact ⟨_, rfl, HRn, .inr (.inr (.inr (.inr (.inr (.inr (.inl ⟨rfl, rfl⟩))))))⟩
      · rw [if_neg (show ¬ seenAt S fr to (i + (7 - 2)) = endL (7 - 2) from fun e => hm (hu.symm.trans e))] at hRn
        have hm2 : (u != 105) = true := bne_iff_ne.2 hm
        subst hRn
        clear hu hRr hm
        go_wp2
        go_quiet ((refine (hl _ (HL.out.drewN _)).mono ?_; rintro e w2 ⟨rfl, n2, rfl⟩; exact ⟨rfl, _, by rw [World.drewN_drewN, Nat.add_assoc]⟩))
        go_wp2
        go_ret
        exact ⟨rfl, _, by rw [World.drewN_drewN]⟩
    · have hl := HLk.out (i + 6) (by omega)
      obtain ⟨u, hu⟩ : ∃ u, seenAt S fr to (i + 6) = u := ⟨_, rfl⟩
      rw [hu, show ((i + 6 : Nat) : Int) = (i : Int) + 6 from rfl] at hl
      have hw1 : IntKind.i64.wrap ((i : Int) + 6) = (i : Int) + 6 := by rw [IntWalk.i64_in _ (by omega)]
      have hx : wrap64 (((⟨#[73, 110, 102, 105, 110, 105, 116, 121]⟩ : ByteArray)[6]'(by decide)).toNat : Int) = 116 := by kernel_rfl
      have hRn := hRr.out
      unfold endF at hRn
      by_cases hm : u = 116
      · rw [show seenAt S fr to (i + (7 - 1)) = 116 from hu.trans hm, if_pos (show (116 : Int) = endL (7 - 1) by decide)] at hRn
        have HRn := Lib.hid hRn
        subst hm
        clear hu hRn hRr
        go_wp2
        go_quiet ((refine (hl _ (HL.out.drewN _)).mono ?_; rintro e w2 ⟨rfl, n2, rfl⟩; exact ⟨rfl, _, by rw [World.drewN_drewN, Nat.add_assoc]⟩))
        go_wp2
        go_roundg 1
        case measure => omega
        case rel => exact ⟨_, rfl, HRn, .inr (.inr (.inr (.inr (.inr (.inr (.inr (.inl ⟨rfl, rfl⟩)))))))⟩
      · rw [if_neg (show ¬ seenAt S fr to (i + (7 - 1)) = endL (7 - 1) from fun e => hm (hu.symm.trans e))] at hRn
        have hm2 : (u != 116) = true := bne_iff_ne.2 hm
        subst hRn
        clear hu hRr hm
        go_wp2
        go_quiet ((refine (hl _ (HL.out.drewN _)).mono ?_; rintro e w2 ⟨rfl, n2, rfl⟩; exact ⟨rfl, _, by rw [World.drewN_drewN, Nat.add_assoc]⟩))
        go_wp2
        go_ret
        exact ⟨rfl, _, by rw [World.drewN_drewN]⟩
    · have hl := HLk.out (i + 7) (by omega)
      obtain ⟨u, hu⟩ : ∃ u, seenAt S fr to (i + 7) = u := ⟨_, rfl⟩
      rw [hu, show ((i + 7 : Nat) : Int) = (i : Int) + 7 from rfl] at hl
      have hw1 : IntKind.i64.wrap ((i : Int) + 7) = (i : Int) + 7 := by rw [IntWalk.i64_in _ (by omega)]
      have hx : wrap64 (((⟨#[73, 110, 102, 105, 110, 105, 116, 121]⟩ : ByteArray)[7]'(by decide)).toNat : Int) = 121 := by kernel_rfl
      have hRn := hRr.out
      unfold endF at hRn
      by_cases hm : u = 121
      · rw [show seenAt S fr to (i + (7 - 0)) = 121 from hu.trans hm, if_pos (show (121 : Int) = endL (7 - 0) by decide)] at hRn
        have HRn := Lib.hid hRn
        subst hm
        clear hu hRn hRr
        go_wp2
        go_quiet ((refine (hl _ (HL.out.drewN _)).mono ?_; rintro e w2 ⟨rfl, n2, rfl⟩; exact ⟨rfl, _, by rw [World.drewN_drewN, Nat.add_assoc]⟩))
        go_wp2
        go_roundg 0
        case measure => omega
        case rel => exact ⟨_, rfl, HRn, .inr (.inr (.inr (.inr (.inr (.inr (.inr (.inr (⟨rfl, rfl⟩))))))))⟩
      · rw [if_neg (show ¬ seenAt S fr to (i + (7 - 0)) = endL (7 - 0) from fun e => hm (hu.symm.trans e))] at hRn
        have hm2 : (u != 121) = true := bne_iff_ne.2 hm
        subst hRn
        clear hu hRr hm
        go_wp2
        go_quiet ((refine (hl _ (HL.out.drewN _)).mono ?_; rintro e w2 ⟨rfl, n2, rfl⟩; exact ⟨rfl, _, by rw [World.drewN_drewN, Nat.add_assoc]⟩))
        go_wp2
        go_ret
        exact ⟨rfl, _, by rw [World.drewN_drewN]⟩
    · have hl := HLk.out (i + 8) (by omega)
      obtain ⟨u, hu⟩ : ∃ u, seenAt S fr to (i + 8) = u := ⟨_, rfl⟩
      rw [hu, show ((i + 8 : Nat) : Int) = (i : Int) + 8 from rfl] at hl
      have hw1 : IntKind.i64.wrap ((i : Int) + 8) = (i : Int) + 8 := by rw [IntWalk.i64_in _ (by omega)]
      have hRn : (u == -1) = R := by rw [← hu]; exact hRr.out
      have HRn := Lib.hid hRn
      clear hu hRn hRr
      go_wp2_with ((with_reducible refine (hl _ (HL.out.drewN _)).mono ?_); rintro e w2 ⟨rfl, n2, rfl⟩)
      go_ret
      exact ⟨ret_bool HRn.out, _, rfl⟩
end Go.Proofs.YtelphbcdjfdjpaaGreatDoor
namespace Go.Proofs.YtelphbcdjfdjpaaGreatDoor
open Go.RowKit
set_option linter.all false

/-- What a digit of sixteen says, or -1. -/
def sixF (u : Int) : Int := if 48 ≤ u ∧ u ≤ 57 then u - 48 else if 97 ≤ u ∧ u ≤ 102 then u - 97 + 10 else if 65 ≤ u ∧ u ≤ 70 then u - 65 + 10 else -1
set_option maxHeartbeats 4000000 in
theorem sixteenth_any (u : Int) (h1 : -1 ≤ u) (h2 : u < 65536) (w : World) : Calls Tryz.prog 121 #[.int .i64 u] w fun e w' => e = .returned (.int .i64 (sixF u)) ∧ w = w' := by
  obtain ⟨R, hR⟩ : ∃ R, sixF u = R := ⟨_, rfl⟩
  rw [hR]
  have HR := Lib.hid hR
  clear hR
  have w1 : IntKind.i64.wrap (u - 48) = u - 48 := IntWalk.i64_in _ (by omega)
  have w2 : IntKind.i64.wrap (u - 97) = u - 97 := IntWalk.i64_in _ (by omega)
  have w3 : IntKind.i64.wrap (u - 97 + 10) = u - 97 + 10 := IntWalk.i64_in _ (by omega)
  have w4 : IntKind.i64.wrap (u - 65) = u - 65 := IntWalk.i64_in _ (by omega)
  have w5 : IntKind.i64.wrap (u - 65 + 10) = u - 65 + 10 := IntWalk.i64_in _ (by omega)
  go_enter Tryz.func121, Tryz.ntmps121
  go_wp2
  all_goals (go_ret; refine ⟨?_, rfl⟩; rw [← show _ = R from HR.out]; unfold sixF; (repeat' split) <;> first | rfl | (exfalso; (try simp only [beq_iff_eq, beq_eq_false_iff_ne, ne_eq, decide_eq_true_eq, decide_eq_false_iff_not, Bool.or_eq_true, Bool.and_eq_true] at *); omega))
end Go.Proofs.YtelphbcdjfdjpaaGreatDoor
namespace Go.Proofs.YtelphbcdjfdjpaaGreatDoor
open Go.RowKit
set_option linter.all false

def shF (top rest d : Int) : Int × Int := if top < 1152921504606846976 then (bits .or .u64 (IntKind.u64.wrap (top * 16)) d, rest) else if d = 0 then (top, rest + 4) else (bits .or .u64 top 1, rest + 4)
theorem shF_rest (top rest d : Int) : rest ≤ (shF top rest d).2 ∧ (shF top rest d).2 ≤ rest + 4 := by
  unfold shF
  split
  · exact ⟨Int.le_refl _, by show rest ≤ rest + 4; omega⟩
  · split
    · exact ⟨by show rest ≤ rest + 4; omega, Int.le_refl _⟩
    · exact ⟨by show rest ≤ rest + 4; omega, Int.le_refl _⟩
set_option maxHeartbeats 4000000 in
theorem shifted_any (top rest d : Int) (hr : 0 ≤ rest ∧ rest ≤ 100000000) (w : World) : Calls Tryz.prog 122 #[.int .u64 top, .int .i64 rest, .int .u64 d] w fun e w' => e = .returned (.tuple #[.int .u64 (shF top rest d).1, .int .i64 (shF top rest d).2]) ∧ w = w' := by
  have hw : IntKind.i64.wrap (rest + 4) = rest + 4 := IntWalk.i64_in _ (by omega)
  by_cases h1 : top < 1152921504606846976
  · have hR : shF top rest d = (bits .or .u64 (IntKind.u64.wrap (top * 16)) d, rest) := if_pos h1
    rw [hR]
    have s1 : decide (top < 1152921504606846976) = true := decide_eq_true h1
    clear h1 hR
    go_enter Tryz.func122, Tryz.ntmps122
    go_wp2
    go_ret2
    exact ⟨rfl, rfl⟩
  · have s1 : decide (top < 1152921504606846976) = false := decide_eq_false h1
    by_cases h2 : d = 0
    · have hR : shF top rest d = (top, rest + 4) := by unfold shF; rw [if_neg h1, if_pos h2]
      rw [hR]
      have s2 : (d != 0) = false := by rw [h2]; rfl
      clear h1 hR h2
      go_enter Tryz.func122, Tryz.ntmps122
      go_wp2
      go_ret2
      exact ⟨rfl, rfl⟩
    · have hR : shF top rest d = (bits .or .u64 top 1, rest + 4) := by unfold shF; rw [if_neg h1, if_neg h2]
      rw [hR]
      have s2 : (d != 0) = true := bne_iff_ne.2 h2
      clear h1 hR h2
      go_enter Tryz.func122, Tryz.ntmps122
      go_wp2
      go_ret2
      exact ⟨rfl, rfl⟩
end Go.Proofs.YtelphbcdjfdjpaaGreatDoor
namespace Go.Proofs.YtelphbcdjfdjpaaGreatDoor
open Go.RowKit
set_option linter.all false

/-- That math.Ldexp ends with one float at a whole number and a power that isn't below 0. -/
def LdOk : Prop := ∀ (top rest : Int), 0 ≤ rest → rest ≤ 100000000 → ∃ v : Nat, ∀ w, Calls Tryz.prog 123 #[.float .f64 (floatOfInt .f64 top), .int .i64 rest] w fun e w' => e = .returned (.float .f64 v) ∧ w = w'
theorem seen_rng (S : ByteArray) (fr to i : Nat) : -1 ≤ seenAt S fr to i ∧ seenAt S fr to i < 65536 := by
  unfold seenAt
  split
  · have : U.unitAt (ls S) (fr + i) < 65536 := by
      unfold U.unitAt
      have h1 : U.g (ls S) (2 * (fr + i)) < 256 := U.g_lt _ _
      have h2 : U.g (ls S) (2 * (fr + i) + 1) < 256 := U.g_lt _ _
      omega
    omega
  · omega
/-- The digits of sixteen from i to the end: what they make, if nothing else stands there. -/
def sixG (s : Nat → Int) : Nat → Nat → Int → Int → Option (Int × Int)
  | 0, _, t, r => some (t, r)
  | f + 1, i, t, r => if s i = -1 then some (t, r) else if sixF (s i) < 0 then none else sixG s f (i + 1) (shF t r (sixF (s i))).1 (shF t r (sixF (s i))).2
theorem sixG_rest (s : Nat → Int) : ∀ f i t r, 0 ≤ r → ∀ p, sixG s f i t r = some p → 0 ≤ p.2 ∧ p.2 ≤ r + 4 * f
  | 0, i, t, r, h, p, hp => by
    simp only [sixG, Option.some.injEq] at hp
    subst hp
    exact ⟨h, by show r ≤ _; omega⟩
  | f + 1, i, t, r, h, p, hp => by
    unfold sixG at hp
    split at hp
    · simp only [Option.some.injEq] at hp
      subst hp
      exact ⟨h, by show r ≤ _; omega⟩
    · split at hp
      · cases hp
      · have h1 := shF_rest t r (sixF (s i))
        have h2 := sixG_rest s f (i + 1) _ _ (by omega) p hp
        omega
set_option maxHeartbeats 8000000 in
theorem sixteens_all (hLd : LdOk) (S : ByteArray) (hS : S.size ≤ 140737488355328) (fr to : Nat) (ht : 2 * to ≤ S.size) (hft : fr ≤ to) (hto : to ≤ 900000) : ∃ (v : Nat) (ok : Bool), ∀ (a b c : Nat) (w : World), LookS S fr to a b c w →
    Calls Tryz.prog 117 #[.func (.func 98) #[] #[.pointer (some ⟨a, 0, none⟩), .pointer (some ⟨b, 0, none⟩), .pointer (some ⟨c, 0, none⟩)], .int .i64 2] w fun e w' => e = .returned (.tuple #[.float .f64 v, .bool ok]) ∧ ∃ n, w' = w.drewN n := by
  by_cases h2 : seenAt S fr to 2 = -1
  · refine ⟨0, false, fun a b c w h => ?_⟩
    have hl : ∀ W, LookS S fr to a b c W → Calls Tryz.prog 98 #[.int .i64 2, .pointer (some ⟨a, 0, none⟩), .pointer (some ⟨b, 0, none⟩), .pointer (some ⟨c, 0, none⟩)] W fun e w' => e = .returned (.int .i64 (-1)) ∧ ∃ n, w' = W.drewN n := fun W hW => by
      have := look_any S hS fr to a b c 2 ht (by omega) hft W hW
      rw [h2] at this
      exact this
    have HL := Lib.hid h
    clear h h2
    go_enter Tryz.func117, Tryz.ntmps117
    go_wp2_with ((with_reducible refine (hl _ HL.out).mono ?_); rintro e w2 ⟨rfl, n, rfl⟩)
    go_ret2
    exact ⟨rfl, _, rfl⟩
  · obtain ⟨R, hR⟩ : ∃ R, sixG (seenAt S fr to) (to + 1) 2 0 0 = R := ⟨_, rfl⟩
    obtain ⟨v, hv⟩ : ∃ v : Nat, ∀ t r, R = some (t, r) → 0 ≤ r ∧ r ≤ 100000000 ∧ ∀ w, Calls Tryz.prog 123 #[.float .f64 (floatOfInt .f64 t), .int .i64 r] w fun e w' => e = .returned (.float .f64 v) ∧ w = w' := by
      cases R with
      | none => exact ⟨0, fun t r h => by cases h⟩
      | some p =>
        obtain ⟨h1, h3⟩ := sixG_rest _ _ _ _ _ (by omega) p hR
        obtain ⟨v, hv⟩ := hLd p.1 p.2 h1 (by omega)
        refine ⟨v, fun t r h => ?_⟩
        injection h with h
        subst h
        exact ⟨h1, by have h4 := h3; dsimp only at h4; omega, hv⟩
    have HV := Lib.hid hv
    refine ⟨if R.isSome then v else 0, R.isSome, fun a b c w h => ?_⟩
    obtain ⟨V, hV⟩ : ∃ V, (if R.isSome then v else 0) = V := ⟨_, rfl⟩
    rw [hV]
    obtain ⟨O, hO⟩ : ∃ O, R.isSome = O := ⟨_, rfl⟩
    rw [hO]
    have HVV := Lib.hid hV
    have HOO := Lib.hid hO
    clear hV hO
    have hlk := fun j (hj : j ≤ 140737488355328) => look_any S hS fr to a b c j ht hj hft
    have HLk := Lib.hid hlk
    obtain ⟨u2, hu2⟩ : ∃ u2, seenAt S fr to 2 = u2 := ⟨_, rfl⟩
    have hl2 : ∀ W, LookS S fr to a b c W → Calls Tryz.prog 98 #[.int .i64 2, .pointer (some ⟨a, 0, none⟩), .pointer (some ⟨b, 0, none⟩), .pointer (some ⟨c, 0, none⟩)] W fun e w' => e = .returned (.int .i64 u2) ∧ ∃ n, w' = W.drewN n := fun W hW => by
      have := hlk 2 (by omega) W hW
      rw [hu2] at this
      exact this
    have hq2 : (u2 == -1) = false := beq_eq_false_iff_ne.2 (by rw [← hu2]; exact h2)
    have hto2 : 2 ≤ to := by
      have : fr + 2 < to := by
        unfold seenAt at h2
        split at h2
        · assumption
        · exact absurd rfl h2
      omega
    have HL := Lib.hid h
    have HR := Lib.hid hR
    clear hlk h h2 hu2 hR hv
    go_enter Tryz.func117, Tryz.ntmps117
    go_wp2_with ((with_reducible refine (hl2 _ HL.out).mono ?_); rintro e w2 ⟨rfl, n, rfl⟩)
    clear hl2 hq2
    go_loopg [1, 6, 7] (to + 1) (fun g v1 v6 v7 wr => ∃ (F i : Nat) (t r : Int), F = g ∧ v1 = .int .i64 (i : Int) ∧ v6 = .int .u64 t ∧ v7 = .int .i64 r ∧ i ≤ to + 1 ∧ to + 1 ≤ i + F ∧ 0 ≤ r ∧ r ≤ 4 * i ∧ Hid (sixG (seenAt S fr to) F i t r = R) ∧ Hid (∃ n, wr = w.drewN n))
    case atStart => exact ⟨_, 2, 0, 0, rfl, rfl, rfl, rfl, by omega, by omega, by omega, by omega, HR, Lib.hid ⟨_, rfl⟩⟩
    case round =>
      obtain ⟨F, i, t, r, hFg, rfl, rfl, rfl, hi1, hi2, hr1, hr2, hRr, hwr⟩ := hrel
      obtain ⟨nr, rfl⟩ := hwr.out
      have hl := HLk.out i (by omega)
      have hrg := seen_rng S fr to i
      obtain ⟨u, hu⟩ : ∃ u, seenAt S fr to i = u := ⟨_, rfl⟩
      rw [hu] at hl hrg
      have HLi := Lib.hid hl
      clear hl hwr
      by_cases hq : u = -1
      · have hend : R = some (t, r) := by
          rw [← show _ = R from hRr.out]
          cases F with
          | zero => rfl
          | succ F => unfold sixG; rw [hu, if_pos hq]
        obtain ⟨k1, k2, hld⟩ := HV.out t r hend
        have HE := Lib.hid hend
        have hq2 : (u != -1) = false := by rw [hq]; rfl
        clear hRr hend hu hq HR
        go_wp2_with (first | ((with_reducible refine (HLi.out _ (HL.out.drewN _)).mono ?_); rintro e w2 ⟨rfl, n2, rfl⟩) | ((with_reducible refine (hld _).mono ?_); rintro e w2 ⟨rfl, rfl⟩))
        go_ret2
        rw [show V = v by rw [← show _ = V from HVV.out, show R = _ from HE.out]; rfl, show O = true by rw [← show _ = O from HOO.out, show R = _ from HE.out]; rfl]
        exact ⟨rfl, _, rfl⟩
      · have hit : fr + i < to := by
          unfold seenAt at hu
          split at hu
          · assumption
          · omega
        obtain ⟨F, rfl⟩ : ∃ F', F = F' + 1 := ⟨F - 1, by omega⟩
        have hRn := hRr.out
        unfold sixG at hRn
        rw [hu, if_neg hq] at hRn
        have hq2 : (u != -1) = true := bne_iff_ne.2 hq
        have hsx := sixteenth_any u hrg.1 hrg.2
        obtain ⟨d, hd⟩ : ∃ d, sixF u = d := ⟨_, rfl⟩
        have hdr : -1 ≤ d ∧ d ≤ 15 := by
          rw [← hd]; unfold sixF
          (repeat' split) <;> omega
        rw [hd] at hsx hRn
        clear hu hq hRr hd
        by_cases hdn : d < 0
        · rw [if_pos hdn] at hRn
          have hE : R = none := hRn.symm
          have hV : V = 0 := by rw [← show _ = V from HVV.out, hE]; rfl
          have hO : O = false := by rw [← show _ = O from HOO.out, hE]; rfl
          subst hV hO
          clear hE hRn
          go_wp2_with (first | ((with_reducible refine (HLi.out _ (HL.out.drewN _)).mono ?_); rintro e w2 ⟨rfl, n2, rfl⟩) | ((with_reducible refine (hsx _).mono ?_); rintro e w2 ⟨rfl, rfl⟩))
          go_ret2
          exact ⟨rfl, _, rfl⟩
        · rw [if_neg hdn] at hRn
          have hsh := shifted_any t r d ⟨hr1, by omega⟩
          have hrs := shF_rest t r d
          obtain ⟨⟨t2, r2⟩, hP⟩ : ∃ P, shF t r d = P := ⟨_, rfl⟩
          rw [hP] at hsh hRn hrs
          dsimp only at hsh hRn hrs
          have HRn := Lib.hid hRn
          have hw2 : IntKind.i64.wrap ((i : Int) + 1) = (i : Int) + 1 := IntWalk.i64_in _ (by omega)
          have hw3 : IntKind.u64.wrap d = d := IntWalk.u64_in _ (by omega)
          clear hRn hP
          go_wp2_with (first | ((with_reducible refine (HLi.out _ (HL.out.drewN _)).mono ?_); rintro e w2 ⟨rfl, n2, rfl⟩) | ((with_reducible refine (hsx _).mono ?_); rintro e w2 ⟨rfl, rfl⟩) | ((with_reducible refine (hsh _).mono ?_); rintro e w2 ⟨rfl, rfl⟩))
          go_roundg F
          case measure => omega
          case rel => exact ⟨F, i + 1, t2, r2, rfl, by go_num, rfl, rfl, by omega, by omega, by omega, by omega, HRn, Lib.hid ⟨_, rfl⟩⟩
end Go.Proofs.YtelphbcdjfdjpaaGreatDoor
