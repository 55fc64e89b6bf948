/- How many bytes of a text are a number: the program's small functions. Conditions: those that each theorem names. -/
import Derived.Test.YthakjbmheoojeaaGreatDoorL2b
namespace Go.Proofs.YthakjbmheoojeaaGreatDoor
open Go.RowKit
set_option linter.all false

theorem past_le (p : Nat → Bool) (l : List UInt8) : X.past p l ≤ l.length := by
  unfold X.past
  exact List.Sublist.length_le (List.takeWhile_sublist _)
theorem g_pos {l : List UInt8} {i : Nat} (h : U.g l i ≠ 0) : i < l.length := by
  rcases Nat.lt_or_ge i l.length with h' | h'
  · exact h'
  · exact absurd (g_out l i h') h
theorem first_byte (l : List UInt8) (h0 : 0 < l.length) : ∃ b0 : UInt8, b0.toNat = U.g l 0 ∧ ∀ h, (bs l)[0]'h = b0 := by
  refine ⟨l[0], ?_, fun h => bs_get l 0 h h0⟩
  unfold U.g
  rw [List.getD_eq_getElem?_getD, List.getElem?_eq_getElem h0]
  rfl

theorem sixteens_any (l : List UInt8) (hl : l.length ≤ 65536) (h0 : 0 < l.length) (w : World) :
    Calls Tryz.prog 93 #[.string (bs l)] w fun e w' => e = .returned (.int .i64 (X.sixteensSize l : Int)) ∧ w = w' := by
  have hb := byteAt_any l (by omega) 1 (by omega)
  have h16 : X.sixteensSize l = if U.g l 0 = 48 ∧ (U.g l 1 = 120 ∨ U.g l 1 = 88) then (if X.past X.six (l.drop 2) = 0 then 0 else 2 + X.past X.six (l.drop 2)) else 0 := rfl
  have hx := U.g_lt l 1
  have hp : U.g l 1 ≠ 0 → ∀ w, Calls Tryz.prog 34 #[.string (bs l), .int .i64 2, .func (.func 107) #[] #[]] w fun e w' => e = .returned (.int .i64 ((2 + X.past X.six (l.drop 2) : Nat) : Int)) ∧ w = w' := by
    intro h w
    have := g_pos h
    exact past_six l (by omega) 2 (by omega) _ rfl w
  have hsz := bs_size l
  have hz0 : 0 < (bs l).size := by omega
  obtain ⟨b0, e0, hb0⟩ := first_byte l h0
  have hb0' := hb0 hz0
  have hv : b0.toNat < 256 := UInt8.toNat_lt _
  have hle := past_le X.six (l.drop 2)
  have hdl : (l.drop 2).length ≤ 65536 := by rw [List.length_drop]; omega
  generalize X.past X.six (l.drop 2) = n at h16 hp hle
  generalize X.sixteensSize l = R at h16 ⊢
  generalize U.g l 1 = x at hb h16 hp hx
  rw [← e0] at h16
  have hn : n ≤ 65536 := by omega
  clear hle hdl hb0 hsz
  generalize bs l = S at hb hp hz0 hb0' ⊢
  by_cases c0 : b0.toNat = 48
  · by_cases c1 : x = 120 ∨ x = 88
    · rw [if_pos ⟨c0, c1⟩] at h16
      have hp' := hp (by omega)
      obtain ⟨m, hm⟩ : ∃ m, 2 + n = m := ⟨_, rfl⟩
      rw [hm] at hp' h16
      have hm2 : m ≤ 65538 := by omega
      by_cases cn : n = 0
      · rw [if_pos cn] at h16
        have hm3 : m = 2 := by omega
        subst hm3 h16
        have hp'' : ∀ w, Calls Tryz.prog 34 #[.string S, .int .i64 2, .func (.func 107) #[] #[]] w fun e w' => e = .returned (.int .i64 2) ∧ w = w' := hp'
        clear hp hp' hm
        rcases c1 with rfl | rfl
        · have hb' : ∀ w, Calls Tryz.prog 33 #[.string S, .int .i64 1] w fun e w' => e = .returned (.int .u8 120) ∧ w = w' := hb
          go_enter Tryz.func93, Tryz.ntmps93
          go_wp2_with (first | (go_at_call 33; refine (hb' _).mono ?_; rintro e w' ⟨rfl, rfl⟩) | (go_at_call 34; refine (hp'' _).mono ?_; rintro e w' ⟨rfl, rfl⟩))
          go_ret
          exact ⟨rfl, rfl⟩
        · have hb' : ∀ w, Calls Tryz.prog 33 #[.string S, .int .i64 1] w fun e w' => e = .returned (.int .u8 88) ∧ w = w' := hb
          go_enter Tryz.func93, Tryz.ntmps93
          go_wp2_with (first | (go_at_call 33; refine (hb' _).mono ?_; rintro e w' ⟨rfl, rfl⟩) | (go_at_call 34; refine (hp'' _).mono ?_; rintro e w' ⟨rfl, rfl⟩))
          go_ret
          exact ⟨rfl, rfl⟩
      · rw [if_neg cn] at h16
        have hm3 : ¬ (m : Int) = 2 := by omega
        subst h16
        clear hp hm
        rcases c1 with rfl | rfl
        · have hb' : ∀ w, Calls Tryz.prog 33 #[.string S, .int .i64 1] w fun e w' => e = .returned (.int .u8 120) ∧ w = w' := hb
          go_enter Tryz.func93, Tryz.ntmps93
          go_wp2_with (first | (go_at_call 33; refine (hb' _).mono ?_; rintro e w' ⟨rfl, rfl⟩) | (go_at_call 34; refine (hp' _).mono ?_; rintro e w' ⟨rfl, rfl⟩))
          go_ret
          exact ⟨rfl, rfl⟩
        · have hb' : ∀ w, Calls Tryz.prog 33 #[.string S, .int .i64 1] w fun e w' => e = .returned (.int .u8 88) ∧ w = w' := hb
          go_enter Tryz.func93, Tryz.ntmps93
          go_wp2_with (first | (go_at_call 33; refine (hb' _).mono ?_; rintro e w' ⟨rfl, rfl⟩) | (go_at_call 34; refine (hp' _).mono ?_; rintro e w' ⟨rfl, rfl⟩))
          go_ret
          exact ⟨rfl, rfl⟩
    · rw [if_neg (by omega)] at h16
      subst h16
      have i1 : ((x : Int) != 120) = true := bne_iff_ne.2 (by omega)
      have i2 : ((x : Int) != 88) = true := bne_iff_ne.2 (by omega)
      have i0 : (b0.toNat : Int) = 48 := by omega
      clear hp c1 c0
      go_enter Tryz.func93, Tryz.ntmps93
      go_wp2_with (go_at_call 33; refine (hb _).mono ?_; rintro e w' ⟨rfl, rfl⟩)
      go_ret
      exact ⟨rfl, rfl⟩
  · rw [if_neg (by omega)] at h16
    subst h16
    have i0 : ¬ (b0.toNat : Int) = 48 := by omega
    clear hp c0
    go_enter Tryz.func93, Tryz.ntmps93
    go_wp2_with (go_at_call 33; refine (hb _).mono ?_; rintro e w' ⟨rfl, rfl⟩)
    all_goals (go_ret; exact ⟨rfl, rfl⟩)

theorem whole_any (l : List UInt8) (hl : l.length ≤ 65536) (h0 : 0 < l.length) (w : World) :
    Calls Tryz.prog 94 #[.string (bs l)] w fun e w' => e = .returned (.int .i64 (X.wholeSize l : Int)) ∧ w = w' := by
  have hp := past_digit l (by omega) 0 (by omega) (X.past X.digit l) (by rw [Nat.zero_add]; rfl)
  have hr : X.wholeSize l = if U.g l 0 = 48 then 1 else X.past X.digit l := rfl
  have hsz := bs_size l
  have hz0 : 0 < (bs l).size := by omega
  obtain ⟨b0, e0, hb0⟩ := first_byte l h0
  have hb0' := hb0 hz0
  have hv : b0.toNat < 256 := UInt8.toNat_lt _
  rw [← e0] at hr
  generalize X.past X.digit l = n at hp hr
  generalize X.wholeSize l = R at hr ⊢
  clear hsz hb0
  generalize bs l = S at hp hz0 hb0' ⊢
  by_cases c0 : b0.toNat = 48
  · rw [if_pos c0] at hr
    subst hr
    have i0 : (b0.toNat : Int) = 48 := by omega
    clear c0 hp
    go_enter Tryz.func94, Tryz.ntmps94
    go_wp2
    go_ret
    exact ⟨rfl, rfl⟩
  · rw [if_neg c0] at hr
    subst hr
    have i0 : ¬ (b0.toNat : Int) = 48 := by omega
    clear c0
    go_enter Tryz.func94, Tryz.ntmps94
    go_wp2_with (go_at_call 34; refine (hp _).mono ?_; rintro e w' ⟨rfl, rfl⟩)
    go_ret
    exact ⟨rfl, rfl⟩

theorem power_any (l : List UInt8) (hl : l.length ≤ 65536) (w : World) :
    Calls Tryz.prog 95 #[.string (bs l)] w fun e w' => e = .returned (.int .i64 (X.powerSize l : Int)) ∧ w = w' := by
  have hb0 := byteAt_any l (by omega) 0 (by omega)
  have hb1 := byteAt_any l (by omega) 1 (by omega)
  have hr : X.powerSize l = if U.g l 0 = 101 ∨ U.g l 0 = 69 then (if X.past X.digit (l.drop (X.powerDigits l)) = 0 then 0 else X.powerDigits l + X.past X.digit (l.drop (X.powerDigits l))) else 0 := rfl
  have hd : X.powerDigits l = if U.g l 1 = 43 ∨ U.g l 1 = 45 then 2 else 1 := rfl
  have hx := U.g_lt l 0
  have hy := U.g_lt l 1
  have hle := past_le X.digit (l.drop (X.powerDigits l))
  rw [List.length_drop] at hle
  have hp : U.g l 0 ≠ 0 → ∀ w, Calls Tryz.prog 34 #[.string (bs l), .int .i64 (X.powerDigits l : Int), .func (.func 57) #[] #[]] w fun e w' => e = .returned (.int .i64 ((X.powerDigits l + X.past X.digit (l.drop (X.powerDigits l)) : Nat) : Int)) ∧ w = w' := by
    intro h w
    refine past_digit l (by omega) _ ?_ _ rfl w
    rw [hd]
    split
    · have := g_pos (l := l) (i := 1) (by omega); omega
    · have := g_pos h; omega
  generalize X.past X.digit (l.drop (X.powerDigits l)) = n at hr hp hle
  generalize X.powerSize l = R at hr ⊢
  generalize X.powerDigits l = d at hr hd hp hle
  generalize U.g l 0 = x at hb0 hr hx hp
  generalize U.g l 1 = y at hb1 hd hy
  generalize bs l = S at hb0 hb1 hp ⊢
  have hb0 : ∀ w, Calls Tryz.prog 33 #[.string S, .int .i64 0] w fun e w' => e = .returned (.int .u8 (x : Int)) ∧ w = w' := hb0
  have hb1 : ∀ w, Calls Tryz.prog 33 #[.string S, .int .i64 1] w fun e w' => e = .returned (.int .u8 (y : Int)) ∧ w = w' := hb1
  by_cases cx : x = 101 ∨ x = 69
  · rw [if_pos cx] at hr
    have hp' := hp (by omega)
    obtain ⟨m, hm⟩ : ∃ m, d + n = m := ⟨_, rfl⟩
    rw [hm] at hp' hr
    have hm2 : m ≤ 65540 := by have : d ≤ 2 := (by rw [hd]; split <;> omega); omega
    have hdm : ((m : Int) == (d : Int)) = decide (n = 0) := by
      rw [Bool.eq_iff_iff, beq_iff_eq, decide_eq_true_eq]; omega
    have hx1 : ((x : Int) != 101 && (x : Int) != 69) = false := by rcases cx with rfl | rfl <;> rfl
    have hR : R = if n = 0 then 0 else m := hr
    clear hp hr
    by_cases cy : y = 43 ∨ y = 45
    · rw [if_pos cy] at hd
      subst hd
      have hp' : ∀ w, Calls Tryz.prog 34 #[.string S, .int .i64 2, .func (.func 57) #[] #[]] w fun e w' => e = .returned (.int .i64 (m : Int)) ∧ w = w' := hp'
      have hdm : ((m : Int) == 2) = decide (n = 0) := hdm
      have HR := Lib.hid hR
      rcases cx with rfl | rfl <;> rcases cy with rfl | rfl
      all_goals
        have hb0 : ∀ w, Calls Tryz.prog 33 #[.string S, .int .i64 0] w fun e w' => e = .returned (.int .u8 _) ∧ w = w' := hb0
        have hb1 : ∀ w, Calls Tryz.prog 33 #[.string S, .int .i64 1] w fun e w' => e = .returned (.int .u8 _) ∧ w = w' := hb1
        by_cases cn : n = 0
        · have i3 : (m : Int) = 2 := by omega
          rw [if_pos cn] at hR
          subst hR
          clear hdm cn HR
          go_enter Tryz.func95, Tryz.ntmps95
          go_wp2_with (first | (go_at_call 33; first | ((with_reducible refine (hb0 _).mono ?_); rintro e w' ⟨rfl, rfl⟩) | ((with_reducible refine (hb1 _).mono ?_); rintro e w' ⟨rfl, rfl⟩)) | (go_at_call 34; refine (hp' _).mono ?_; rintro e w' ⟨rfl, rfl⟩))
          go_ret
          exact ⟨rfl, rfl⟩
        · have i3 : ¬ (m : Int) = 2 := by omega
          rw [if_neg cn] at hR
          subst hR
          clear hdm cn HR
          go_enter Tryz.func95, Tryz.ntmps95
          go_wp2_with (first | (go_at_call 33; first | ((with_reducible refine (hb0 _).mono ?_); rintro e w' ⟨rfl, rfl⟩) | ((with_reducible refine (hb1 _).mono ?_); rintro e w' ⟨rfl, rfl⟩)) | (go_at_call 34; refine (hp' _).mono ?_; rintro e w' ⟨rfl, rfl⟩))
          go_ret
          exact ⟨rfl, rfl⟩
    · rw [if_neg cy] at hd
      subst hd
      have hp' : ∀ w, Calls Tryz.prog 34 #[.string S, .int .i64 1, .func (.func 57) #[] #[]] w fun e w' => e = .returned (.int .i64 (m : Int)) ∧ w = w' := hp'
      have y1 : ((y : Int) == 43) = false := beq_eq_false_iff_ne.2 (by omega)
      have y2 : ((y : Int) == 45) = false := beq_eq_false_iff_ne.2 (by omega)
      rcases cx with rfl | rfl
      all_goals
        by_cases cn : n = 0
        · have i3 : (m : Int) = 1 := by omega
          rw [if_pos cn] at hR
          subst hR
          clear hdm cn cy
          go_enter Tryz.func95, Tryz.ntmps95
          go_wp2_with (first | (go_at_call 33; first | ((with_reducible refine (hb0 _).mono ?_); rintro e w' ⟨rfl, rfl⟩) | ((with_reducible refine (hb1 _).mono ?_); rintro e w' ⟨rfl, rfl⟩)) | (go_at_call 34; refine (hp' _).mono ?_; rintro e w' ⟨rfl, rfl⟩))
          go_ret
          exact ⟨rfl, rfl⟩
        · have i3 : ¬ (m : Int) = 1 := by omega
          rw [if_neg cn] at hR
          subst hR
          clear hdm cn cy
          go_enter Tryz.func95, Tryz.ntmps95
          go_wp2_with (first | (go_at_call 33; first | ((with_reducible refine (hb0 _).mono ?_); rintro e w' ⟨rfl, rfl⟩) | ((with_reducible refine (hb1 _).mono ?_); rintro e w' ⟨rfl, rfl⟩)) | (go_at_call 34; refine (hp' _).mono ?_; rintro e w' ⟨rfl, rfl⟩))
          go_ret
          exact ⟨rfl, rfl⟩
  · rw [if_neg cx] at hr
    subst hr
    have i1 : ((x : Int) != 101) = true := bne_iff_ne.2 (by omega)
    have i2 : ((x : Int) != 69) = true := bne_iff_ne.2 (by omega)
    clear cx hp hd
    go_enter Tryz.func95, Tryz.ntmps95
    go_wp2_with (go_at_call 33; first | ((with_reducible refine (hb0 _).mono ?_); rintro e w' ⟨rfl, rfl⟩) | ((with_reducible refine (hb1 _).mono ?_); rintro e w' ⟨rfl, rfl⟩))
    all_goals (go_ret; exact ⟨rfl, rfl⟩)
end Go.Proofs.YthakjbmheoojeaaGreatDoor
