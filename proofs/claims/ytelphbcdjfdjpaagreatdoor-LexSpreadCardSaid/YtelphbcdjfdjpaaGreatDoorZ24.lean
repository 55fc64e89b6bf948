/- esnum's reader behind a sign. Conditions: those that each theorem names. esnum's between at any wide text. Conditions: those that each theorem names. esnum.Number at any wide text ends with one float. Conditions: those that each theorem names. esnum.Number at any wide text ends with one float. Conditions: those that each theorem names. Package math's small functions at any float. Conditions: those that each theorem names. -/
import Derived.Test.YtelphbcdjfdjpaaGreatDoorZ22
import Derived.Test.YtelphbcdjfdjpaaGreatDoorZ23
namespace Go.Proofs.YtelphbcdjfdjpaaGreatDoor
open Go.RowKit
set_option linter.all false

set_option maxHeartbeats 4000000 in
theorem inf_one (w : World) : Calls Tryz.prog 72 #[.int .i64 1] w fun e w' => e = .returned (.float .f64 9218868437227405312) ∧ w = w' := by
  have x2 := x_from
  go_enter Tryz.func72, Tryz.ntmps72
  go_wp2
  go_ret
  exact ⟨rfl, rfl⟩
set_option maxHeartbeats 4000000 in
theorem nan_one (w : World) : Calls Tryz.prog 49 #[] w fun e w' => e = .returned (.float .f64 9221120237041090561) ∧ w = w' := by
  have x2 := x_from
  go_enter Tryz.func49, Tryz.ntmps49
  go_wp2
  go_ret
  exact ⟨rfl, rfl⟩
set_option maxHeartbeats 8000000 in
theorem unsigned_all (hLd : LdOk) (S : ByteArray) (hS : S.size ≤ 140737488355328) (fr to i : Nat) (ht : 2 * to ≤ S.size) (hft : fr ≤ to) (hto : to ≤ 900000) (hi : i ≤ to) : ∃ (v : Nat) (ok : Bool), ∀ (N a b c : Nat) (w : World), LookS S fr to a b c w → a < w.heap.size → b < w.heap.size → c < w.heap.size → NumEnv N w → N ≤ w.heap.size →
    Calls Tryz.prog 113 #[.func (.func 98) #[] #[.pointer (some ⟨a, 0, none⟩), .pointer (some ⟨b, 0, none⟩), .pointer (some ⟨c, 0, none⟩)], .int .i64 (i : Int)] w fun e w' => e = .returned (.tuple #[.float .f64 v, .bool ok]) ∧ Below w.heap.size w w' := by
  have hen : ∀ a b c W, LookS S fr to a b c W → _ := fun a b c W hW => isEndless_any S hS fr to a b c i ht hft (by omega) W hW
  obtain ⟨E, hE⟩ : ∃ E, endF (seenAt S fr to) i 8 = E := ⟨_, rfl⟩
  rw [hE] at hen
  obtain ⟨u0, hu0⟩ : ∃ u0, seenAt S fr to 0 = u0 := ⟨_, rfl⟩
  obtain ⟨u1, hu1⟩ : ∃ u1, seenAt S fr to 1 = u1 := ⟨_, rfl⟩
  have hl0 : ∀ a b c W, LookS S fr to a b c W → Calls Tryz.prog 98 #[.int .i64 0, .pointer (some ⟨a, 0, none⟩), .pointer (some ⟨b, 0, none⟩), .pointer (some ⟨c, 0, none⟩)] W fun e w' => e = .returned (.int .i64 u0) ∧ ∃ n, w' = W.drewN n := fun a b c W hW => by
    have := look_any S hS fr to a b c 0 ht (by omega) hft W hW
    rw [hu0] at this
    exact this
  have hl1 : ∀ a b c W, LookS S fr to a b c W → Calls Tryz.prog 98 #[.int .i64 1, .pointer (some ⟨a, 0, none⟩), .pointer (some ⟨b, 0, none⟩), .pointer (some ⟨c, 0, none⟩)] W fun e w' => e = .returned (.int .i64 u1) ∧ ∃ n, w' = W.drewN n := fun a b c W hW => by
    have := look_any S hS fr to a b c 1 ht (by omega) hft W hW
    rw [hu1] at this
    exact this
  obtain ⟨vs, os, hsx⟩ := sixteens_all hLd S hS fr to ht hft hto
  obtain ⟨vd, od, hdc⟩ := decimal_any S hS fr to i ht hft hto hi
  have HSX := Lib.hid hsx
  have HDC := Lib.hid hdc
  have HEN := Lib.hid hen
  have H0 := Lib.hid hl0
  have H1 := Lib.hid hl1
  have hin := inf_one
  clear hsx hdc hen hl0 hl1 hE hu0 hu1 hLd
  cases E
  · by_cases h48 : u0 = 48
    · by_cases hx : u1 = 120 ∨ u1 = 88
      · refine ⟨vs, os, fun N a b c w hL ha hb hc hE hN => ?_⟩
        have HL := Lib.hid hL
        have q0 : (u0 == 48) = true := beq_iff_eq.2 h48
        clear hL hE h48
        rcases hx with hx | hx
        · have q1 : (u1 == 120) = true := beq_iff_eq.2 hx
          clear hx
          go_enter Tryz.func113, Tryz.ntmps113
          go_wp2_with (first | (go_at_call 116; refine (HEN.out _ _ _ _ HL.out).mono ?_; rintro e1 w1 ⟨rfl, n1, rfl⟩) | ((with_reducible refine (H0.out _ _ _ _ (HL.out.drewN _)).mono ?_); rintro e w2 ⟨rfl, n2, rfl⟩) | ((with_reducible refine (H1.out _ _ _ _ (HL.out.drewN _)).mono ?_); rintro e w2 ⟨rfl, n3, rfl⟩) | (go_at_call 117; refine (HSX.out _ _ _ _ (HL.out.drewN _)).mono ?_; rintro e1 w1 ⟨rfl, n4, rfl⟩))
          go_ret2
          exact ⟨rfl, belN (Below.refl _ _) _⟩
        · have q1 : (u1 == 120) = false := beq_eq_false_iff_ne.2 (by omega)
          have q2 : (u1 == 88) = true := beq_iff_eq.2 hx
          clear hx
          go_enter Tryz.func113, Tryz.ntmps113
          go_wp2_with (first | (go_at_call 116; refine (HEN.out _ _ _ _ HL.out).mono ?_; rintro e1 w1 ⟨rfl, n1, rfl⟩) | ((with_reducible refine (H0.out _ _ _ _ (HL.out.drewN _)).mono ?_); rintro e w2 ⟨rfl, n2, rfl⟩) | ((with_reducible refine (H1.out _ _ _ _ (HL.out.drewN _)).mono ?_); rintro e w2 ⟨rfl, n3, rfl⟩) | (go_at_call 117; refine (HSX.out _ _ _ _ (HL.out.drewN _)).mono ?_; rintro e1 w1 ⟨rfl, n4, rfl⟩))
          go_ret2
          exact ⟨rfl, belN (Below.refl _ _) _⟩
      · refine ⟨vd, od, fun N a b c w hL ha hb hc hE hN => ?_⟩
        have HL := Lib.hid hL
        have HE := Lib.hid hE
        have q0 : (u0 == 48) = true := beq_iff_eq.2 h48
        have q1 : (u1 == 120) = false := beq_eq_false_iff_ne.2 (by omega)
        have q2 : (u1 == 88) = false := beq_eq_false_iff_ne.2 (by omega)
        clear hL hE h48 hx
        go_enter Tryz.func113, Tryz.ntmps113
        go_wp2_with (first | (go_at_call 116; refine (HEN.out _ _ _ _ HL.out).mono ?_; rintro e1 w1 ⟨rfl, n1, rfl⟩) | ((with_reducible refine (H0.out _ _ _ _ (HL.out.drewN _)).mono ?_); rintro e w2 ⟨rfl, n2, rfl⟩) | ((with_reducible refine (H1.out _ _ _ _ (HL.out.drewN _)).mono ?_); rintro e w2 ⟨rfl, n3, rfl⟩) | (go_at_call 118; refine (HDC.out N _ _ _ _ (HL.out.drewN _) ha hb hc (HE.out.keep (belN (Below.refl _ _) _) hN) hN).mono ?_; rintro e1 w1 ⟨rfl, hb4⟩; have HB4 := Lib.hid hb4; clear hb4))
        go_ret2
        exact ⟨rfl, (belN (Below.refl _ _) _).trans HB4.out⟩
    · refine ⟨vd, od, fun N a b c w hL ha hb hc hE hN => ?_⟩
      have HL := Lib.hid hL
      have HE := Lib.hid hE
      have q0 : (u0 == 48) = false := beq_eq_false_iff_ne.2 h48
      clear hL hE h48
      go_enter Tryz.func113, Tryz.ntmps113
      go_wp2_with (first | (go_at_call 116; refine (HEN.out _ _ _ _ HL.out).mono ?_; rintro e1 w1 ⟨rfl, n1, rfl⟩) | ((with_reducible refine (H0.out _ _ _ _ (HL.out.drewN _)).mono ?_); rintro e w2 ⟨rfl, n2, rfl⟩) | (go_at_call 118; refine (HDC.out N _ _ _ _ (HL.out.drewN _) ha hb hc (HE.out.keep (belN (Below.refl _ _) _) hN) hN).mono ?_; rintro e1 w1 ⟨rfl, hb4⟩; have HB4 := Lib.hid hb4; clear hb4))
      go_ret2
      exact ⟨rfl, (belN (Below.refl _ _) _).trans HB4.out⟩
  · refine ⟨9218868437227405312, true, fun N a b c w hL ha hb hc hE hN => ?_⟩
    have HL := Lib.hid hL
    clear hL hE
    go_enter Tryz.func113, Tryz.ntmps113
    go_wp2_with (first | (go_at_call 116; refine (HEN.out _ _ _ _ HL.out).mono ?_; rintro e1 w1 ⟨rfl, n1, rfl⟩) | (go_at_call 72; refine (hin _).mono ?_; rintro e1 w1 ⟨rfl, rfl⟩))
    go_ret2
    exact ⟨rfl, belN (Below.refl _ _) _⟩
end Go.Proofs.YtelphbcdjfdjpaaGreatDoor
namespace Go.Proofs.YtelphbcdjfdjpaaGreatDoor
open Go.RowKit
set_option linter.all false

def betA (s : Nat → Nat) (l : Nat) : Nat → Nat → Nat
  | 0, i => i
  | f + 1, i => if i < l then if numBlank (s i) = true then betA s l f (i + 1) else i else i
def betB (s : Nat → Nat) (fr : Nat) : Nat → Nat → Nat
  | 0, t => t
  | f + 1, t => if fr < t then if numBlank (s (t - 1)) = true then betB s fr f (t - 1) else t else t
theorem betA_le (s : Nat → Nat) (l : Nat) : ∀ f i, i ≤ l → betA s l f i ≤ l
  | 0, i, h => h
  | f + 1, i, h => by
    unfold betA
    split
    · split
      · exact betA_le s l f _ (by omega)
      · exact h
    · exact h
theorem betB_le (s : Nat → Nat) (fr : Nat) : ∀ f t, fr ≤ t → fr ≤ betB s fr f t ∧ betB s fr f t ≤ t
  | 0, t, h => ⟨h, Nat.le_refl _⟩
  | f + 1, t, h => by
    unfold betB
    split
    · split
      · have := betB_le s fr f (t - 1) (by omega)
        omega
      · exact ⟨h, Nat.le_refl _⟩
    · exact ⟨h, Nat.le_refl _⟩
set_option maxHeartbeats 8000000 in
theorem between_any (S : ByteArray) (hS : S.size ≤ 1800000) (w : World) : Calls Tryz.prog 97 #[.string S] w fun e w' => e = .returned (.tuple #[.int .i64 (betA (U.unitAt (ls S)) (S.size / 2) (S.size / 2) 0 : Nat), .int .i64 (betB (U.unitAt (ls S)) (betA (U.unitAt (ls S)) (S.size / 2) (S.size / 2) 0) (S.size / 2) (S.size / 2) : Nat)]) ∧ ∃ n, w' = w.drewN n := by
  have hlen := length_any S (by omega)
  have hbl := fun i hi W => blankAt_any S (by omega) i _ hi rfl W
  obtain ⟨l, hl⟩ : ∃ l, S.size / 2 = l := ⟨_, rfl⟩
  have h2l : 2 * l ≤ S.size := by omega
  obtain ⟨s, hs⟩ : ∃ s, U.unitAt (ls S) = s := ⟨_, rfl⟩
  rw [hs]
  rw [show (S.size : Int) / 2 = (l : Int) by omega] at hlen
  rw [hl]
  have hbl2 : ∀ i, i < l → ∀ W, Calls Tryz.prog 110 #[.string S, .int .i64 (i : Int)] W fun e w' => e = .returned (.bool (numBlank (s i))) ∧ ∃ n, w' = W.drewN n := fun i hi W => by
    rw [← hs]; exact hbl i (by omega) W
  obtain ⟨A, hA⟩ : ∃ A, betA s l l 0 = A := ⟨_, rfl⟩
  rw [hA]
  obtain ⟨B, hB⟩ : ∃ B, betB s A l l = B := ⟨_, rfl⟩
  rw [hB]
  have hAl : A ≤ l := by rw [← hA]; exact betA_le s l l 0 (by omega)
  have hll : l ≤ 1000000 := by omega
  have HA := Lib.hid hA
  have HB := Lib.hid hB
  have HBL := Lib.hid hbl2
  clear hA hB hbl hbl2 hs hl
  go_enter Tryz.func97, Tryz.ntmps97
  go_wp2_with (go_at_call 109; refine (hlen _).mono ?_; rintro e w' ⟨rfl, rfl⟩)
  go_loopg [4] l (fun g v wr => ∃ (F i : Nat), F = g ∧ v = .int .i64 (i : Int) ∧ i ≤ l ∧ l ≤ i + F ∧ Hid (betA s l F i = A) ∧ Hid (∃ n, wr = w.drewN n))
  case atStart => exact ⟨_, 0, rfl, rfl, by omega, by omega, HA, Lib.hid ⟨0, rfl⟩⟩
  case round =>
    obtain ⟨F, i, hFg, rfl, hi1, hi2, hRr, hwr⟩ := hrel
    obtain ⟨nr, rfl⟩ := hwr.out
    by_cases hil : i < l
    · obtain ⟨F, rfl⟩ : ∃ F', F = F' + 1 := ⟨F - 1, by omega⟩
      have hb := HBL.out i hil
      have hRn := hRr.out
      unfold betA at hRn
      rw [if_pos hil] at hRn
      have hd : (i : Int) < (l : Int) := by omega
      have hw2 : IntKind.i64.wrap ((i : Int) + 1) = (i : Int) + 1 := IntWalk.i64_in _ (by omega)
      cases hbb : numBlank (s i)
      · rw [hbb] at hb hRn
        rw [if_neg (by decide)] at hRn
        subst hRn
        clear hRr hbb
        clear hwr
        go_wp2_with ((with_reducible refine (hb _).mono ?_); rintro e w2 ⟨rfl, n5, rfl⟩)
        go_loopg [5] l (fun g v wr => ∃ (F t : Nat), F = g ∧ v = .int .i64 (t : Int) ∧ i ≤ t ∧ t ≤ l ∧ t ≤ F ∧ Hid (betB s i F t = B) ∧ Hid (∃ n, wr = w.drewN n))
        case atStart => exact ⟨_, l, rfl, rfl, by omega, by omega, by omega, HB, Lib.hid ⟨_, rfl⟩⟩
        case round =>
          obtain ⟨F2, t, hFg2, rfl, ht1, ht2, ht3, hRr2, hwr2⟩ := hrel
          obtain ⟨nr2, rfl⟩ := hwr2.out
          clear hwr2
          by_cases hit : i < t
          · obtain ⟨F2, rfl⟩ : ∃ F', F2 = F' + 1 := ⟨F2 - 1, by omega⟩
            have hb2 := HBL.out (t - 1) (by omega)
            have hRn2 := hRr2.out
            unfold betB at hRn2
            rw [if_pos hit] at hRn2
            have hd2 : (i : Int) < (t : Int) := by omega
            have hw3 : IntKind.i64.wrap ((t : Int) - 1) = ((t - 1 : Nat) : Int) := by rw [IntWalk.i64_in _ (by omega)]; omega
            cases hbb2 : numBlank (s (t - 1))
            · rw [hbb2] at hb2 hRn2
              rw [if_neg (by decide)] at hRn2
              subst hRn2
              have HB2 := Lib.hid hb2
              clear hRr2 hbb2 hb2
              go_wp2_with ((with_reducible refine (HB2.out _).mono ?_); rintro e w2 ⟨rfl, n6, rfl⟩)
              go_ret2
              exact ⟨rfl, _, rfl⟩
            · rw [hbb2] at hb2 hRn2
              rw [if_pos rfl] at hRn2
              have HRn2 := Lib.hid hRn2
              have HB2 := Lib.hid hb2
              clear hRn2 hRr2 hbb2 hb2
              go_wp2_with ((with_reducible refine (HB2.out _).mono ?_); rintro e w2 ⟨rfl, n6, rfl⟩)
              go_roundg F2
              case measure => omega
              case rel => exact ⟨F2, t - 1, rfl, rfl, by omega, by omega, by omega, HRn2, Lib.hid ⟨_, rfl⟩⟩
          · have hend2 : Hid (t = B) := Lib.hid (by
              rw [← show _ = B from hRr2.out]
              cases F2 with
              | zero => rfl
              | succ F2 => unfold betB; rw [if_neg hit])
            have hd2 : ¬ (i : Int) < (t : Int) := by omega
            clear hRr2 hit
            go_wp2
            go_ret2
            rw [← show t = B from hend2.out]
            exact ⟨rfl, by first | exact ⟨_, rfl⟩ | exact ⟨_, by rw [World.drewN_drewN]⟩⟩
      · rw [hbb] at hb hRn
        rw [if_pos rfl] at hRn
        have HRn := Lib.hid hRn
        clear hRn hRr hbb
        go_wp2_with ((with_reducible refine (hb _).mono ?_); rintro e w2 ⟨rfl, n5, rfl⟩)
        go_roundg F
        case measure => omega
        case rel => exact ⟨F, i + 1, rfl, by go_num, by omega, by omega, HRn, Lib.hid ⟨_, rfl⟩⟩
    · have hend : A = i := by
        rw [← show _ = A from hRr.out]
        cases F with
        | zero => rfl
        | succ F => unfold betA; rw [if_neg hil]
      subst hend
      have hd : ¬ (A : Int) < (l : Int) := by omega
      clear hRr hil hwr
      go_wp2
      go_loopg [5] l (fun g v wr => ∃ (F t : Nat), F = g ∧ v = .int .i64 (t : Int) ∧ A ≤ t ∧ t ≤ l ∧ t ≤ F ∧ Hid (betB s A F t = B) ∧ Hid (∃ n, wr = w.drewN n))
      case atStart => exact ⟨_, l, rfl, rfl, by omega, by omega, by omega, HB, Lib.hid ⟨_, rfl⟩⟩
      case round =>
        obtain ⟨F2, t, hFg2, rfl, ht1, ht2, ht3, hRr2, hwr2⟩ := hrel
        obtain ⟨nr2, rfl⟩ := hwr2.out
        clear hwr2
        by_cases hit : A < t
        · obtain ⟨F2, rfl⟩ : ∃ F', F2 = F' + 1 := ⟨F2 - 1, by omega⟩
          have hb2 := HBL.out (t - 1) (by omega)
          have hRn2 := hRr2.out
          unfold betB at hRn2
          rw [if_pos hit] at hRn2
          have hd2 : (A : Int) < (t : Int) := by omega
          have hw3 : IntKind.i64.wrap ((t : Int) - 1) = ((t - 1 : Nat) : Int) := by rw [IntWalk.i64_in _ (by omega)]; omega
          cases hbb2 : numBlank (s (t - 1))
          · rw [hbb2] at hb2 hRn2
            rw [if_neg (by decide)] at hRn2
            subst hRn2
            have HB2 := Lib.hid hb2
            clear hRr2 hbb2 hb2
            go_wp2_with ((with_reducible refine (HB2.out _).mono ?_); rintro e w2 ⟨rfl, n6, rfl⟩)
            go_ret2
            exact ⟨rfl, _, rfl⟩
          · rw [hbb2] at hb2 hRn2
            rw [if_pos rfl] at hRn2
            have HRn2 := Lib.hid hRn2
            have HB2 := Lib.hid hb2
            clear hRn2 hRr2 hbb2 hb2
            go_wp2_with ((with_reducible refine (HB2.out _).mono ?_); rintro e w2 ⟨rfl, n6, rfl⟩)
            go_roundg F2
            case measure => omega
            case rel => exact ⟨F2, t - 1, rfl, rfl, by omega, by omega, by omega, HRn2, Lib.hid ⟨_, rfl⟩⟩
        · have hend2 : Hid (t = B) := Lib.hid (by
            rw [← show _ = B from hRr2.out]
            cases F2 with
            | zero => rfl
            | succ F2 => unfold betB; rw [if_neg hit])
          have hd2 : ¬ (A : Int) < (t : Int) := by omega
          clear hRr2 hit
          go_wp2
          go_ret2
          rw [← show t = B from hend2.out]
          exact ⟨rfl, by first | exact ⟨_, rfl⟩ | exact ⟨_, by rw [World.drewN_drewN]⟩⟩
end Go.Proofs.YtelphbcdjfdjpaaGreatDoor
namespace Go.Proofs.YtelphbcdjfdjpaaGreatDoor
open Go.RowKit
set_option linter.all false

set_option maxHeartbeats 8000000 in
theorem said_all (hLd : LdOk) (S : ByteArray) (hS : S.size ≤ 140737488355328) (fr to : Nat) (ht : 2 * to ≤ S.size) (hft : fr ≤ to) (hto : to ≤ 900000) : ∃ (v : Nat), ∀ (N a b c : Nat) (w : World), LookS S fr to a b c w → a < w.heap.size → b < w.heap.size → c < w.heap.size → NumEnv N w → N ≤ w.heap.size →
    Calls Tryz.prog 100 #[.func (.func 98) #[] #[.pointer (some ⟨a, 0, none⟩), .pointer (some ⟨b, 0, none⟩), .pointer (some ⟨c, 0, none⟩)]] w fun e w' => e = .returned (.float .f64 v) ∧ Below w.heap.size w w' := by
  obtain ⟨u0, hu0⟩ : ∃ u0, seenAt S fr to 0 = u0 := ⟨_, rfl⟩
  have hl0 : ∀ a b c W, LookS S fr to a b c W → Calls Tryz.prog 98 #[.int .i64 0, .pointer (some ⟨a, 0, none⟩), .pointer (some ⟨b, 0, none⟩), .pointer (some ⟨c, 0, none⟩)] W fun e w' => e = .returned (.int .i64 u0) ∧ ∃ n, w' = W.drewN n := fun a b c W hW => by
    have := look_any S hS fr to a b c 0 ht (by omega) hft W hW
    rw [hu0] at this
    exact this
  have H0 := Lib.hid hl0
  clear hl0
  by_cases h1 : u0 = -1
  · refine ⟨0, fun N a b c w hL ha hb hc hE hN => ?_⟩
    have HL := Lib.hid hL
    have q0 : (u0 == -1) = true := beq_iff_eq.2 h1
    clear hL hE h1 hu0
    go_enter Tryz.func100, Tryz.ntmps100
    go_wp2_with ((with_reducible refine (H0.out _ _ _ _ HL.out).mono ?_); rintro e w2 ⟨rfl, n2, rfl⟩)
    go_ret
    exact ⟨rfl, belN (Below.refl _ _) _⟩
  · have hto1 : 1 ≤ to := by
      have : fr + 0 < to := by
        unfold seenAt at hu0
        split at hu0
        · assumption
        · exact absurd hu0.symm h1
      omega
    have q0 : (u0 == -1) = false := beq_eq_false_iff_ne.2 h1
    obtain ⟨⟨ng, i1⟩, hsg⟩ : ∃ R, signOf (seenAt S fr to) 0 = R := ⟨_, rfl⟩
    have hi1 : i1 ≤ 1 := by
      have : (signOf (seenAt S fr to) 0).2 ≤ 1 := by
        unfold signOf
        split
        · exact Nat.le_refl _
        · split
          · exact Nat.le_refl _
          · exact Nat.zero_le _
      rw [hsg] at this
      exact this
    have hsn : ∀ a b c W, LookS S fr to a b c W → Calls Tryz.prog 112 #[.func (.func 98) #[] #[.pointer (some ⟨a, 0, none⟩), .pointer (some ⟨b, 0, none⟩), .pointer (some ⟨c, 0, none⟩)], .int .i64 0] W fun e w' => e = .returned (.tuple #[.bool ng, .int .i64 (i1 : Int)]) ∧ ∃ n, w' = W.drewN n := fun a b c W hW => by
      have := signAt_any S hS fr to a b c 0 ht hft (by omega) W hW
      rw [hsg] at this
      exact this
    have HSN := Lib.hid hsn
    obtain ⟨v1, ok, hun⟩ := unsigned_all hLd S hS fr to i1 ht hft hto (by omega)
    have HUN := Lib.hid hun
    have hnn := nan_one
    clear hsn hun hsg hu0 h1
    cases ok
    · refine ⟨9221120237041090561, fun N a b c w hL ha hb hc hE hN => ?_⟩
      have HL := Lib.hid hL
      have HE := Lib.hid hE
      clear hL hE
      go_enter Tryz.func100, Tryz.ntmps100
      go_wp2_with (first | ((with_reducible refine (H0.out _ _ _ _ HL.out).mono ?_); rintro e w2 ⟨rfl, n2, rfl⟩) | (go_at_call 112; refine (HSN.out _ _ _ _ (HL.out.drewN _)).mono ?_; rintro e1 w1 ⟨rfl, n1, rfl⟩) | (go_at_call 113; refine (HUN.out N _ _ _ _ (HL.out.drewN _) ha hb hc (HE.out.keep (belN (Below.refl _ _) _) hN) hN).mono ?_; rintro e1 w1 ⟨rfl, hb4⟩; have HB4 := Lib.hid hb4; clear hb4) | (go_at_call 49; refine (hnn _).mono ?_; rintro e1 w5 ⟨rfl, rfl⟩))
      go_ret
      exact ⟨rfl, (belN (Below.refl _ _) _).trans HB4.out⟩
    · cases ng
      · refine ⟨v1, fun N a b c w hL ha hb hc hE hN => ?_⟩
        have HL := Lib.hid hL
        have HE := Lib.hid hE
        clear hL hE
        go_enter Tryz.func100, Tryz.ntmps100
        go_wp2_with (first | ((with_reducible refine (H0.out _ _ _ _ HL.out).mono ?_); rintro e w2 ⟨rfl, n2, rfl⟩) | (go_at_call 112; refine (HSN.out _ _ _ _ (HL.out.drewN _)).mono ?_; rintro e1 w1 ⟨rfl, n1, rfl⟩) | (go_at_call 113; refine (HUN.out N _ _ _ _ (HL.out.drewN _) ha hb hc (HE.out.keep (belN (Below.refl _ _) _) hN) hN).mono ?_; rintro e1 w1 ⟨rfl, hb4⟩; have HB4 := Lib.hid hb4; clear hb4))
        go_ret
        exact ⟨rfl, (belN (Below.refl _ _) _).trans HB4.out⟩
      · refine ⟨Op.negFloat .f64 v1, fun N a b c w hL ha hb hc hE hN => ?_⟩
        have HL := Lib.hid hL
        have HE := Lib.hid hE
        clear hL hE
        have hng : ∀ W : World, (Op.unary .neg (.float .f64 v1)).run Tryz.prog W = .ok (.float .f64 (Op.negFloat .f64 v1)) W := fun W => rfl
        generalize Op.negFloat .f64 v1 = nv at *
        go_enter Tryz.func100, Tryz.ntmps100
        go_wp2_with (first | ((with_reducible refine (H0.out _ _ _ _ HL.out).mono ?_); rintro e w2 ⟨rfl, n2, rfl⟩) | (go_at_call 112; refine (HSN.out _ _ _ _ (HL.out.drewN _)).mono ?_; rintro e1 w1 ⟨rfl, n1, rfl⟩) | (go_at_call 113; refine (HUN.out N _ _ _ _ (HL.out.drewN _) ha hb hc (HE.out.keep (belN (Below.refl _ _) _) hN) hN).mono ?_; rintro e1 w1 ⟨rfl, hb4⟩; have HB4 := Lib.hid hb4; clear hb4))
        go_ret
        exact ⟨rfl, (belN (Below.refl _ _) _).trans HB4.out⟩
end Go.Proofs.YtelphbcdjfdjpaaGreatDoor
namespace Go.Proofs.YtelphbcdjfdjpaaGreatDoor
open Go.RowKit
set_option linter.all false

theorem number_size (w : World) (n M : Nat) (hM : w.heap.size = M) (a b c : Obj) : M + 1 + 1 < ((((w.alloc a).drewN n).alloc b).alloc c).heap.size := by
  rw [heap_size, heap_size]
  show M + 1 + 1 < (w.alloc a).heap.size + 1 + 1
  rw [heap_size]
  omega
set_option maxHeartbeats 8000000 in
theorem number_all (hLd : LdOk) (S : ByteArray) (hS : S.size ≤ 1800000) : ∃ v : Nat, ∀ (N : Nat) (w : World), NumEnv N w → N ≤ w.heap.size →
    Calls Tryz.prog 82 #[.string S] w fun e w' => e = .returned (.float .f64 v) ∧ Below w.heap.size w w' := by
  obtain ⟨l, hl⟩ : ∃ l, S.size / 2 = l := ⟨_, rfl⟩
  have hbt := between_any S hS
  rw [hl] at hbt
  obtain ⟨fr, hfr⟩ : ∃ fr, betA (U.unitAt (ls S)) l l 0 = fr := ⟨_, rfl⟩
  have hfl : fr ≤ l := by rw [← hfr]; exact betA_le _ _ _ _ (by omega)
  rw [hfr] at hbt
  obtain ⟨to, hto⟩ : ∃ to, betB (U.unitAt (ls S)) fr l l = to := ⟨_, rfl⟩
  have htl : fr ≤ to ∧ to ≤ l := by rw [← hto]; exact betB_le _ _ _ _ hfl
  rw [hto] at hbt
  obtain ⟨v, hv⟩ := said_all hLd S (by omega) fr to (by omega) htl.1 (by omega)
  refine ⟨v, fun N w hE hN => ?_⟩
  obtain ⟨M, hM⟩ : ∃ M, w.heap.size = M := ⟨_, rfl⟩
  have hsd : ∀ W, Below w.heap.size w W → M + 1 + 1 < W.heap.size → W.cell? ⟨M, 0, none⟩ = some (.string S) → W.cell? ⟨M + 1, 0, none⟩ = some (.int .i64 (fr : Int)) → W.cell? ⟨M + 1 + 1, 0, none⟩ = some (.int .i64 (to : Int)) → Calls Tryz.prog 100 #[.func (.func 98) #[] #[.pointer (some ⟨M, 0, none⟩), .pointer (some ⟨M + 1, 0, none⟩), .pointer (some ⟨M + 1 + 1, 0, none⟩)]] W fun e w' => e = .returned (.float .f64 v) ∧ Below w.heap.size w w' := fun W hW hs h0 h1 h2 => by
    refine (hv N M (M + 1) (M + 1 + 1) W ⟨h0, h1, h2⟩ (by omega) (by omega) hs (hE.keep hW hN) (Nat.le_trans hN hW.size)).mono ?_
    rintro e w' ⟨rfl, hb⟩
    exact ⟨rfl, hW.trans (hb.mono hW.size)⟩
  have hnc := fun n => number_cells w n M hM (.string S) (.int .i64 (fr : Int)) (.int .i64 (to : Int)) 9 3 3 _ rfl
  have HNC := Lib.hid hnc
  have HSD := Lib.hid hsd
  have hM2 := Lib.hid hM
  clear hnc hsd hv hE hfr hto hl
  go_enter Tryz.func82, Tryz.ntmps82
  go_wp2_with (first | (go_at_call 97; refine (hbt _).mono ?_; rintro e w' ⟨rfl, n, rfl⟩) | (go_at_call 100; refine (HSD.out _ ((HNC.out _).2.2.2 0) (number_size w _ M hM2.out _ _ _) (HNC.out _).1 (HNC.out _).2.1 (HNC.out _).2.2.1).mono ?_; rintro e w9 ⟨rfl, hb9⟩))
  go_ret
  exact ⟨rfl, hb9⟩
end Go.Proofs.YtelphbcdjfdjpaaGreatDoor
namespace Go.Proofs.YtelphbcdjfdjpaaGreatDoor
open Go.RowKit
set_option linter.all false

def absF (b : Nat) : Nat := (bits .andNot .u64 (b : Int) 9223372036854775808).toNat
theorem abs_all (b : Nat) (w : World) : Calls Tryz.prog 148 #[.float .f64 b] w fun e w' => e = .returned (.float .f64 (absF b)) ∧ w = w' := by
  have x1 := x_bits
  have x2 := x_from
  unfold absF
  go_enter Tryz.func148, Tryz.ntmps148
  go_wp2
  go_ret
  exact ⟨rfl, rfl⟩
def infF (b : Nat) : Bool := FloatKind.f64.format.order (absF b) 9218868437227405311 == some Ordering.gt
theorem isInf_all (b : Nat) (w : World) : Calls Tryz.prog 142 #[.float .f64 b, .int .i64 0] w fun e w' => e = .returned (.bool (infF b)) ∧ w = w' := by
  have ha := abs_all
  unfold infF
  generalize absF = g at *
  go_enter Tryz.func142, Tryz.ntmps142
  go_wp2_with (go_at_call 148; refine (ha _ _).mono ?_; rintro e w' ⟨rfl, rfl⟩)
  go_ret
  exact ⟨rfl, rfl⟩
def nanF (b : Nat) : Bool := !(FloatKind.f64.format.order b b == some Ordering.eq)
theorem isNaN_all (b : Nat) (w : World) : Calls Tryz.prog 143 #[.float .f64 b] w fun e w' => e = .returned (.bool (nanF b)) ∧ w = w' := by
  unfold nanF
  go_enter Tryz.func143, Tryz.ntmps143
  go_wp2
  go_ret
  exact ⟨rfl, rfl⟩
theorem copysign_all (b c : Nat) (w : World) : Calls Tryz.prog 145 #[.float .f64 b, .float .f64 c] w fun e w' => e = .returned (.float .f64 (bits .or .u64 (bits .andNot .u64 (b : Int) 9223372036854775808) (bits .and .u64 (c : Int) 9223372036854775808)).toNat) ∧ w = w' := by
  have x1 := x_bits
  have x2 := x_from
  go_enter Tryz.func145, Tryz.ntmps145
  go_wp2
  go_ret
  exact ⟨rfl, rfl⟩
theorem inf_neg (w : World) : Calls Tryz.prog 72 #[.int .i64 (-1)] w fun e w' => e = .returned (.float .f64 18442240474082181120) ∧ w = w' := by
  have x2 := x_from
  go_enter Tryz.func72, Tryz.ntmps72
  go_wp2
  go_ret
  exact ⟨rfl, rfl⟩
theorem normalize_all (b : Nat) (hb : NoNan b) : ∃ (f : Nat) (e : Int), (e = 0 ∨ e = -52) ∧ ∀ w, Calls Tryz.prog 144 #[.float .f64 b] w fun r w' => r = .returned (.tuple #[.float .f64 f, .int .i64 e]) ∧ w = w' := by
  have ha := abs_all b
  obtain ⟨r, hr, -⟩ := mul_some b 4841369599423283200 hb (nz_of _ (by kernel_rfl))
  have hm := fun (T : TypeId) (W : World) => run_mul T b 4841369599423283200 r hr W
  clear hr
  generalize absF b = g at *
  cases hq : (FloatKind.f64.format.order g 4503599627370496 == some Ordering.lt)
  · refine ⟨b, 0, .inl rfl, fun w => ?_⟩
    clear hm
    go_enter Tryz.func144, Tryz.ntmps144
    go_wp2_with (go_at_call 148; refine (ha _).mono ?_; rintro e w' ⟨rfl, rfl⟩)
    go_ret2
    exact ⟨rfl, rfl⟩
  · refine ⟨r, -52, .inr rfl, fun w => ?_⟩
    go_enter Tryz.func144, Tryz.ntmps144
    go_wp2_with (go_at_call 148; refine (ha _).mono ?_; rintro e w' ⟨rfl, rfl⟩)
    go_ret2
    exact ⟨rfl, rfl⟩
end Go.Proofs.YtelphbcdjfdjpaaGreatDoor
