/- How many bytes of a text are a number: the program's small functions. Conditions: those that each theorem names. A character at a text's place, as a wide text; a unit; a unit by its digits of sixteen. Conditions: those that each theorem names. -/
import Derived.Test.YtelphbcdjfdjpaaGreatDoorZ10
namespace Go.Proofs.YtelphbcdjfdjpaaGreatDoor
open Go.RowKit
set_option linter.all false

theorem past_le (p : Nat → Bool) (l : List UInt8) : X.past p l ≤ l.length := by
  unfold X.past
  exact List.Sublist.length_le (List.takeWhile_sublist _)
theorem g_pos {l : List UInt8} {i : Nat} (h : U.g l i ≠ 0) : i < l.length := by
  rcases Nat.lt_or_ge i l.length with h' | h'
  · exact h'
  · exact absurd (g_out l i h') h
theorem first_byte (l : List UInt8) (h0 : 0 < l.length) : ∃ b0 : UInt8, b0.toNat = U.g l 0 ∧ ∀ h, (bs l)[0]'h = b0 := by
  refine ⟨l[0], ?_, fun h => bs_get l 0 h h0⟩
  unfold U.g
  rw [List.getD_eq_getElem?_getD, List.getElem?_eq_getElem h0]
  rfl

theorem sixteens_any (l : List UInt8) (hl : l.length ≤ 65536) (h0 : 0 < l.length) (w : World) :
    Calls Tryz.prog 93 #[.string (bs l)] w fun e w' => e = .returned (.int .i64 (X.sixteensSize l : Int)) ∧ w = w' := by
  have hb := byteAt_any l (by omega) 1 (by omega)
  have h16 : X.sixteensSize l = if U.g l 0 = 48 ∧ (U.g l 1 = 120 ∨ U.g l 1 = 88) then (if X.past X.six (l.drop 2) = 0 then 0 else 2 + X.past X.six (l.drop 2)) else 0 := rfl
  have hx := U.g_lt l 1
  have hp : U.g l 1 ≠ 0 → ∀ w, Calls Tryz.prog 34 #[.string (bs l), .int .i64 2, .func (.func 107) #[] #[]] w fun e w' => e = .returned (.int .i64 ((2 + X.past X.six (l.drop 2) : Nat) : Int)) ∧ w = w' := by
    intro h w
    have := g_pos h
    exact past_six l (by omega) 2 (by omega) _ rfl w
  have hsz := bs_size l
  have hz0 : 0 < (bs l).size := by omega
  obtain ⟨b0, e0, hb0⟩ := first_byte l h0
  have hb0' := hb0 hz0
  have hv : b0.toNat < 256 := UInt8.toNat_lt _
  have hle := past_le X.six (l.drop 2)
  have hdl : (l.drop 2).length ≤ 65536 := by rw [List.length_drop]; omega
  generalize X.past X.six (l.drop 2) = n at h16 hp hle
  generalize X.sixteensSize l = R at h16 ⊢
  generalize U.g l 1 = x at hb h16 hp hx
  rw [← e0] at h16
  have hn : n ≤ 65536 := by omega
  clear hle hdl hb0 hsz
  generalize bs l = S at hb hp hz0 hb0' ⊢
  by_cases c0 : b0.toNat = 48
  · by_cases c1 : x = 120 ∨ x = 88
    · rw [if_pos ⟨c0, c1⟩] at h16
      have hp' := hp (by omega)
      obtain ⟨m, hm⟩ : ∃ m, 2 + n = m := ⟨_, rfl⟩
      rw [hm] at hp' h16
      have hm2 : m ≤ 65538 := by omega
      by_cases cn : n = 0
      · rw [if_pos cn] at h16
        have hm3 : m = 2 := by omega
        subst hm3 h16
        have hp'' : ∀ w, Calls Tryz.prog 34 #[.string S, .int .i64 2, .func (.func 107) #[] #[]] w fun e w' => e = .returned (.int .i64 2) ∧ w = w' := hp'
        clear hp hp' hm
        rcases c1 with rfl | rfl
        · have hb' : ∀ w, Calls Tryz.prog 33 #[.string S, .int .i64 1] w fun e w' => e = .returned (.int .u8 120) ∧ w = w' := hb
          go_enter Tryz.func93, Tryz.ntmps93
          go_wp2_with (first | (go_at_call 33; refine (hb' _).mono ?_; rintro e w' ⟨rfl, rfl⟩) | (go_at_call 34; refine (hp'' _).mono ?_; rintro e w' ⟨rfl, rfl⟩))
          go_ret
          exact ⟨rfl, rfl⟩
        · have hb' : ∀ w, Calls Tryz.prog 33 #[.string S, .int .i64 1] w fun e w' => e = .returned (.int .u8 88) ∧ w = w' := hb
          go_enter Tryz.func93, Tryz.ntmps93
          go_wp2_with (first | (go_at_call 33; refine (hb' _).mono ?_; rintro e w' ⟨rfl, rfl⟩) | (go_at_call 34; refine (hp'' _).mono ?_; rintro e w' ⟨rfl, rfl⟩))
          go_ret
          exact ⟨rfl, rfl⟩
      · rw [if_neg cn] at h16
        have hm3 : ¬ (m : Int) = 2 := by omega
        subst h16
        clear hp hm
        rcases c1 with rfl | rfl
        · have hb' : ∀ w, Calls Tryz.prog 33 #[.string S, .int .i64 1] w fun e w' => e = .returned (.int .u8 120) ∧ w = w' := hb
          go_enter Tryz.func93, Tryz.ntmps93
          go_wp2_with (first | (go_at_call 33; refine (hb' _).mono ?_; rintro e w' ⟨rfl, rfl⟩) | (go_at_call 34; refine (hp' _).mono ?_; rintro e w' ⟨rfl, rfl⟩))
          go_ret
          exact ⟨rfl, rfl⟩
        · have hb' : ∀ w, Calls Tryz.prog 33 #[.string S, .int .i64 1] w fun e w' => e = .returned (.int .u8 88) ∧ w = w' := hb
          go_enter Tryz.func93, Tryz.ntmps93
          go_wp2_with (first | (go_at_call 33; refine (hb' _).mono ?_; rintro e w' ⟨rfl, rfl⟩) | (go_at_call 34; refine (hp' _).mono ?_; rintro e w' ⟨rfl, rfl⟩))
          go_ret
          exact ⟨rfl, rfl⟩
    · rw [if_neg (by omega)] at h16
      subst h16
      have i1 : ((x : Int) != 120) = true := bne_iff_ne.2 (by omega)
      have i2 : ((x : Int) != 88) = true := bne_iff_ne.2 (by omega)
      have i0 : (b0.toNat : Int) = 48 := by omega
      clear hp c1 c0
      go_enter Tryz.func93, Tryz.ntmps93
      go_wp2_with (go_at_call 33; refine (hb _).mono ?_; rintro e w' ⟨rfl, rfl⟩)
      go_ret
      exact ⟨rfl, rfl⟩
  · rw [if_neg (by omega)] at h16
    subst h16
    have i0 : ¬ (b0.toNat : Int) = 48 := by omega
    clear hp c0
    go_enter Tryz.func93, Tryz.ntmps93
    go_wp2_with (go_at_call 33; refine (hb _).mono ?_; rintro e w' ⟨rfl, rfl⟩)
    all_goals (go_ret; exact ⟨rfl, rfl⟩)

theorem whole_any (l : List UInt8) (hl : l.length ≤ 65536) (h0 : 0 < l.length) (w : World) :
    Calls Tryz.prog 94 #[.string (bs l)] w fun e w' => e = .returned (.int .i64 (X.wholeSize l : Int)) ∧ w = w' := by
  have hp := past_digit l (by omega) 0 (by omega) (X.past X.digit l) (by rw [Nat.zero_add]; rfl)
  have hr : X.wholeSize l = if U.g l 0 = 48 then 1 else X.past X.digit l := rfl
  have hsz := bs_size l
  have hz0 : 0 < (bs l).size := by omega
  obtain ⟨b0, e0, hb0⟩ := first_byte l h0
  have hb0' := hb0 hz0
  have hv : b0.toNat < 256 := UInt8.toNat_lt _
  rw [← e0] at hr
  generalize X.past X.digit l = n at hp hr
  generalize X.wholeSize l = R at hr ⊢
  clear hsz hb0
  generalize bs l = S at hp hz0 hb0' ⊢
  by_cases c0 : b0.toNat = 48
  · rw [if_pos c0] at hr
    subst hr
    have i0 : (b0.toNat : Int) = 48 := by omega
    clear c0 hp
    go_enter Tryz.func94, Tryz.ntmps94
    go_wp2
    go_ret
    exact ⟨rfl, rfl⟩
  · rw [if_neg c0] at hr
    subst hr
    have i0 : ¬ (b0.toNat : Int) = 48 := by omega
    clear c0
    go_enter Tryz.func94, Tryz.ntmps94
    go_wp2_with (go_at_call 34; refine (hp _).mono ?_; rintro e w' ⟨rfl, rfl⟩)
    go_ret
    exact ⟨rfl, rfl⟩

theorem power_any (l : List UInt8) (hl : l.length ≤ 65536) (w : World) :
    Calls Tryz.prog 95 #[.string (bs l)] w fun e w' => e = .returned (.int .i64 (X.powerSize l : Int)) ∧ w = w' := by
  have hb0 := byteAt_any l (by omega) 0 (by omega)
  have hb1 := byteAt_any l (by omega) 1 (by omega)
  have hr : X.powerSize l = if U.g l 0 = 101 ∨ U.g l 0 = 69 then (if X.past X.digit (l.drop (X.powerDigits l)) = 0 then 0 else X.powerDigits l + X.past X.digit (l.drop (X.powerDigits l))) else 0 := rfl
  have hd : X.powerDigits l = if U.g l 1 = 43 ∨ U.g l 1 = 45 then 2 else 1 := rfl
  have hx := U.g_lt l 0
  have hy := U.g_lt l 1
  have hle := past_le X.digit (l.drop (X.powerDigits l))
  rw [List.length_drop] at hle
  have hp : U.g l 0 ≠ 0 → ∀ w, Calls Tryz.prog 34 #[.string (bs l), .int .i64 (X.powerDigits l : Int), .func (.func 57) #[] #[]] w fun e w' => e = .returned (.int .i64 ((X.powerDigits l + X.past X.digit (l.drop (X.powerDigits l)) : Nat) : Int)) ∧ w = w' := by
    intro h w
    refine past_digit l (by omega) _ ?_ _ rfl w
    rw [hd]
    split
    · have := g_pos (l := l) (i := 1) (by omega); omega
    · have := g_pos h; omega
  generalize X.past X.digit (l.drop (X.powerDigits l)) = n at hr hp hle
  generalize X.powerSize l = R at hr ⊢
  generalize X.powerDigits l = d at hr hd hp hle
  generalize U.g l 0 = x at hb0 hr hx hp
  generalize U.g l 1 = y at hb1 hd hy
  generalize bs l = S at hb0 hb1 hp ⊢
  have hb0 : ∀ w, Calls Tryz.prog 33 #[.string S, .int .i64 0] w fun e w' => e = .returned (.int .u8 (x : Int)) ∧ w = w' := hb0
  have hb1 : ∀ w, Calls Tryz.prog 33 #[.string S, .int .i64 1] w fun e w' => e = .returned (.int .u8 (y : Int)) ∧ w = w' := hb1
  by_cases cx : x = 101 ∨ x = 69
  · rw [if_pos cx] at hr
    have hp' := hp (by omega)
    obtain ⟨m, hm⟩ : ∃ m, d + n = m := ⟨_, rfl⟩
    rw [hm] at hp' hr
    have hm2 : m ≤ 65540 := by have : d ≤ 2 := (by rw [hd]; split <;> omega); omega
    have hdm : ((m : Int) == (d : Int)) = decide (n = 0) := by
      rw [Bool.eq_iff_iff, beq_iff_eq, decide_eq_true_eq]; omega
    have hx1 : ((x : Int) != 101 && (x : Int) != 69) = false := by rcases cx with rfl | rfl <;> rfl
    have hR : R = if n = 0 then 0 else m := hr
    clear hp hr
    by_cases cy : y = 43 ∨ y = 45
    · rw [if_pos cy] at hd
      subst hd
      have hp' : ∀ w, Calls Tryz.prog 34 #[.string S, .int .i64 2, .func (.func 57) #[] #[]] w fun e w' => e = .returned (.int .i64 (m : Int)) ∧ w = w' := hp'
      have hdm : ((m : Int) == 2) = decide (n = 0) := hdm
      have HR := Lib.hid hR
      rcases cx with rfl | rfl <;> rcases cy with rfl | rfl
      all_goals
        have hb0 : ∀ w, Calls Tryz.prog 33 #[.string S, .int .i64 0] w fun e w' => e = .returned (.int .u8 _) ∧ w = w' := hb0
        have hb1 : ∀ w, Calls Tryz.prog 33 #[.string S, .int .i64 1] w fun e w' => e = .returned (.int .u8 _) ∧ w = w' := hb1
        by_cases cn : n = 0
        · have i3 : (m : Int) = 2 := by omega
          rw [if_pos cn] at hR
          subst hR
          clear hdm cn HR
          go_enter Tryz.func95, Tryz.ntmps95
          go_wp2_with (first | (go_at_call 33; first | ((with_reducible refine (hb0 _).mono ?_); rintro e w' ⟨rfl, rfl⟩) | ((with_reducible refine (hb1 _).mono ?_); rintro e w' ⟨rfl, rfl⟩)) | (go_at_call 34; refine (hp' _).mono ?_; rintro e w' ⟨rfl, rfl⟩))
          go_ret
          exact ⟨rfl, rfl⟩
        · have i3 : ¬ (m : Int) = 2 := by omega
          rw [if_neg cn] at hR
          subst hR
          clear hdm cn HR
          go_enter Tryz.func95, Tryz.ntmps95
          go_wp2_with (first | (go_at_call 33; first | ((with_reducible refine (hb0 _).mono ?_); rintro e w' ⟨rfl, rfl⟩) | ((with_reducible refine (hb1 _).mono ?_); rintro e w' ⟨rfl, rfl⟩)) | (go_at_call 34; refine (hp' _).mono ?_; rintro e w' ⟨rfl, rfl⟩))
          go_ret
          exact ⟨rfl, rfl⟩
    · rw [if_neg cy] at hd
      subst hd
      have hp' : ∀ w, Calls Tryz.prog 34 #[.string S, .int .i64 1, .func (.func 57) #[] #[]] w fun e w' => e = .returned (.int .i64 (m : Int)) ∧ w = w' := hp'
      have y1 : ((y : Int) == 43) = false := beq_eq_false_iff_ne.2 (by omega)
      have y2 : ((y : Int) == 45) = false := beq_eq_false_iff_ne.2 (by omega)
      rcases cx with rfl | rfl
      all_goals
        by_cases cn : n = 0
        · have i3 : (m : Int) = 1 := by omega
          rw [if_pos cn] at hR
          subst hR
          clear hdm cn cy
          go_enter Tryz.func95, Tryz.ntmps95
          go_wp2_with (first | (go_at_call 33; first | ((with_reducible refine (hb0 _).mono ?_); rintro e w' ⟨rfl, rfl⟩) | ((with_reducible refine (hb1 _).mono ?_); rintro e w' ⟨rfl, rfl⟩)) | (go_at_call 34; refine (hp' _).mono ?_; rintro e w' ⟨rfl, rfl⟩))
          go_ret
          exact ⟨rfl, rfl⟩
        · have i3 : ¬ (m : Int) = 1 := by omega
          rw [if_neg cn] at hR
          subst hR
          clear hdm cn cy
          go_enter Tryz.func95, Tryz.ntmps95
          go_wp2_with (first | (go_at_call 33; first | ((with_reducible refine (hb0 _).mono ?_); rintro e w' ⟨rfl, rfl⟩) | ((with_reducible refine (hb1 _).mono ?_); rintro e w' ⟨rfl, rfl⟩)) | (go_at_call 34; refine (hp' _).mono ?_; rintro e w' ⟨rfl, rfl⟩))
          go_ret
          exact ⟨rfl, rfl⟩
  · rw [if_neg cx] at hr
    subst hr
    have i1 : ((x : Int) != 101) = true := bne_iff_ne.2 (by omega)
    have i2 : ((x : Int) != 69) = true := bne_iff_ne.2 (by omega)
    clear cx hp hd
    go_enter Tryz.func95, Tryz.ntmps95
    go_wp2_with (go_at_call 33; first | ((with_reducible refine (hb0 _).mono ?_); rintro e w' ⟨rfl, rfl⟩) | ((with_reducible refine (hb1 _).mono ?_); rintro e w' ⟨rfl, rfl⟩))
    all_goals (go_ret; exact ⟨rfl, rfl⟩)
end Go.Proofs.YtelphbcdjfdjpaaGreatDoor
namespace Go.Proofs.YtelphbcdjfdjpaaGreatDoor
open Go.RowKit Go.Shelf
set_option linter.all false

theorem dec_zero (l : List UInt8) (h : (U.dec l).2 = 0) : U.dec l = (0, 0) := by
  unfold U.dec at h ⊢
  split at h
  · rename_i hc; rw [if_pos hc]
  · rename_i hc
    exfalso
    have hp : (U.decL l).2 ≠ 0 := by
      unfold U.decL Lib.decodeN
      repeat' split
      all_goals simp
    exact hp h
theorem nxt_any (N : Nat) (l : List UInt8) (hl : l.length ≤ 65536) (i : Nat) (hi : i ≤ l.length) (w : World) (h : Low N w) :
    Calls Tryz.prog 37 #[.string (bs l), .int .i64 (i : Int)] w fun e w' => e = .returned (.tuple #[.int .i64 ((U.dec (l.drop i)).1 : Int), .int .i64 ((U.dec (l.drop i)).2 : Int), .bool (decide ((U.dec (l.drop i)).2 ≠ 0))]) ∧ Below w.heap.size w w' := by
  have hsz := bs_size l
  obtain ⟨c, m, hd⟩ : ∃ c m, U.dec (l.drop i) = (c, m) := ⟨_, _, rfl⟩
  cases m with
  | zero =>
    have h0 := dec_zero (l.drop i) (by rw [hd])
    rw [hd] at h0
    have hn : nextAt (ls (bs l)) (i : Int) = (c, 0) := by
      show nextAt l (i : Int) = _
      unfold nextAt
      by_cases hlt : i < l.length
      · rw [if_pos ⟨by omega, by omega⟩]; simpa using hd
      · rw [if_neg (by omega)]; exact h0.symm
    rw [hd]
    obtain ⟨rfl, _⟩ := Prod.mk.inj h0
    exact next_no (bs l) (by omega) (i : Int) 0 hn w h.tabs
  | succ m =>
    rw [hd]
    have hlt : i < l.length := by
      rcases Nat.lt_or_ge i l.length with h' | h'
      · exact h'
      · rw [List.drop_eq_nil_of_le h', U.dec_nil] at hd; cases hd
    have := next_ok (bs l) (by omega) i (by omega) c m hd w h.tabs
    exact this

theorem wide_bs (N : Nat) (l : List UInt8) (hl : l.length ≤ 65536) (w : World) (h : Low N w) :
    Calls Tryz.prog 81 #[.string (bs l)] w fun e w' => e = .returned (.tuple #[.string (bs (wideL l)), .int .i64 (wideAt l : Int), .int .i64 (wideErr l : Int)]) ∧ Below w.heap.size w w' :=
  wide_any (bs l) (by rw [bs_size]; omega) w h.tabs
theorem char_wide (l : List UInt8) (c n : Nat) (h : U.dec l = (c, n + 1)) : wideL (l.take (n + 1)) = X.char8 l := by
  obtain ⟨h1, h2, h3⟩ := U.enc_dec l c n h
  have ht : l.take (n + 1) = U.n8 [c] := by
    rw [h3, List.take_left' h2]
    simp [U.n8]
  have hs := U.scan_n8 [c] [] (fun x hx => by simp at hx; subst hx; exact h1)
  rw [List.append_nil, U.scan_nil] at hs
  unfold wideL X.char8
  rw [ht, if_pos (by unfold full; rw [hs]; simp), hs, h]
  simp [U.w8]
theorem dec_take_le (l : List UInt8) : (l.take (U.dec l).2).length = (U.dec l).2 := by
  rw [List.length_take]
  have := U.dec_le l
  omega

theorem character_any (N : Nat) (l : List UInt8) (hl : l.length ≤ 65536) (hd : (U.dec l).2 ≠ 0) (w : World) (h : Low N w) :
    Calls Tryz.prog 91 #[.string (bs l), .int .i64 ((U.dec l).2 : Int)] w fun e w' => e = .returned (.string (bs (X.char8 l))) ∧ Below w.heap.size w w' := by
  obtain ⟨c, m, hdd⟩ : ∃ c m, U.dec l = (c, m + 1) := ⟨(U.dec l).1, (U.dec l).2 - 1, by apply Prod.ext <;> simp only; omega⟩
  have hw := wide_bs N (l.take (m + 1)) (by rw [List.length_take]; omega) w h
  rw [char_wide l c m hdd] at hw
  have hle := U.dec_le l
  rw [hdd] at hle ⊢
  have het := bs_take l (m + 1)
  have hsz := bs_size l
  simp only at hle
  rw [← het] at hw
  obtain ⟨k, hk⟩ : ∃ k, m + 1 = k := ⟨_, rfl⟩
  simp only [hk] at hw hle ⊢
  have hks : k ≤ (bs l).size := by omega
  have hz : (bs l).size ≤ 65536 := by omega
  clear het hdd hd hk hsz hle
  generalize bs l = S at hw hks hz ⊢
  generalize wideAt _ = p1 at hw
  generalize wideErr _ = p2 at hw
  go_enter Tryz.func91, Tryz.ntmps91
  go_wp2_with (go_at_call 81; refine hw.mono ?_; rintro e w' ⟨rfl, hb⟩)
  go_ret
  exact ⟨rfl, hb⟩

theorem back_cells (w : World) (C : Array Value) (l : List UInt8) (hC : C = (Lib.byteCells l).toArray) :
    (convert 87 9 (.slice (some ⟨w.heap.size, 0, none⟩) l.length l.length)).run Tryz.prog (w.alloc (.cells C 5)) = .ok (.string (bs l)) (w.alloc (.cells C 5)) := by
  refine run_convert_bytes_back (P := Tryz.prog) (w.alloc (.cells C 5)) 87 9 5 ⟨w.heap.size, 0, none⟩ l.length l Tryz.underlying87 Tryz.underlying5 Tryz.underlying9 (fun j hj => ?_)
  have : (w.alloc (.cells C 5)).cell? (Addr.add ⟨w.heap.size, 0, none⟩ j) = C[j]? := by
    unfold Addr.add
    split
    · rename_i h; subst h; rw [Lib.cell_of_heap (heap_new w (.cells C 5))]
    · rw [Lib.cell_of_heap (heap_new w (.cells C 5))]; simp
  rw [this, hC]
  simp [Lib.byteCells, hj]
set_option maxRecDepth 100000 in
theorem unitE_any (u : Nat) (hu : u < 65536) (w : World) :
    Calls Tryz.prog 103 #[.int .i64 (u : Int)] w fun e w' => e = .returned (.string (bs (U.be u))) ∧ Below w.heap.size w w' := by
  have h1 : IntKind.u8.wrap ((u : Int) / 256) = (u : Int) / 256 := by rw [IntKind.wrap_u8]; omega
  have h2 : IntKind.u8.wrap (u : Int) = (u : Int) % 256 := by rw [IntKind.wrap_u8]
  have hb := byteCells_be (u : Int) (by omega) (by omega)
  rw [Int.toNat_natCast] at hb
  have hc : (convert 87 9 (.slice (some ⟨w.heap.size, 0, none⟩) 2 2)).run Tryz.prog (w.alloc (.cells #[.int .u8 ((u : Int) / 256), .int .u8 ((u : Int) % 256)] 5)) = .ok (.string (bs (U.be u))) (w.alloc (.cells #[.int .u8 ((u : Int) / 256), .int .u8 ((u : Int) % 256)] 5)) :=
    back_cells w _ (U.be u) (by rw [hb])
  clear hu hb
  generalize bs (U.be u) = R at hc ⊢
  go_enter Tryz.func103, Tryz.ntmps103
  go_wp2
  go_ret
  exact ⟨rfl, (Below.refl _ _).alloc (Nat.le_refl _) _⟩

theorem coded_any (N : Nat) (l : List UInt8) (hl : l.length ≤ 65536) (d : Nat) (h24 : d = 2 ∨ d = 4) (w : World) (h : Low N w) :
    Calls Tryz.prog 104 #[.string (bs l), .int .i64 (d : Int)] w fun e w' => e = .returned (.tuple #[.string (bs (match X.coded l d with | some r => r.1 | none => [])), .int .i64 (match X.coded l d with | some r => (r.2 : Int) | none => 0)]) ∧ Below w.heap.size w w' := by
  have hsz := bs_size l
  by_cases hs : l.length < 1 + d
  · have hr : X.coded l d = none := by unfold X.coded; rw [if_pos hs]
    rw [hr]
    simp only
    have hlt : ((bs l).size : Int) < 1 + (d : Int) := by omega
    have hz : (bs l).size ≤ 65536 := by omega
    clear hs hsz hr
    generalize bs l = S at hlt hz ⊢
    go_enter Tryz.func104, Tryz.ntmps104
    go_wp2
    go_ret2
    exact ⟨rfl, Below.refl _ _⟩
  · have hr : X.coded l d = (X.hexv ((l.drop 1).take d) 0).map fun u => (U.be u, 1 + d) := by unfold X.coded; rw [if_neg hs]
    have htl : ((l.drop 1).take d).length = d := by rw [List.length_take, List.length_drop]; omega
    have h16 : (0 + 1) * 16 ^ ((l.drop 1).take d).length ≤ 65536 := by
      rw [htl]
      have : 16 ^ d ≤ 16 ^ 4 := Nat.pow_le_pow_right (by decide) (by omega)
      omega
    have hex : (bs l).extract 1 (1 + d) = bs ((l.drop 1).take d) := by rw [bs_extract]; simp
    have hpa := parse_any N (bs ((l.drop 1).take d)) (by rw [bs_size, htl]; omega) (by rw [bs_size, htl]; omega) w h
    rw [bs_list, pu_few _ _ h16, ← hex] at hpa
    have hlt : ¬ ((bs l).size : Int) < 1 + (d : Int) := by omega
    have hle : 1 + d ≤ (bs l).size := by omega
    have hz : (bs l).size ≤ 65536 := by omega
    have hu16 := fun n => hexv_lt _ 0 n h16
    rw [hr]
    generalize X.hexv ((l.drop 1).take d) 0 = r at hpa hu16 ⊢
    clear hs hsz hr htl h16 hex h
    generalize bs l = S at hlt hle hz hpa ⊢
    rcases h24 with rfl | rfl
    all_goals
      cases r with
      | none =>
        have hpa : Calls Tryz.prog 114 #[.string (S.extract 1 _), .int .i64 16, .int .i64 16] w fun e w' => (∃ v p, e = .returned (.tuple #[.int .u64 v, .iface 138 (.pointer p)])) ∧ Below w.heap.size w w' := hpa
        simp only [Option.map_none]
        go_enter Tryz.func104, Tryz.ntmps104
        go_wp2_with (go_at_call 114; refine hpa.mono ?_; rintro e w' ⟨⟨v, p, rfl⟩, hb⟩)
        go_ret2
        exact ⟨rfl, hb⟩
      | some n =>
        have hn := hu16 n rfl
        have hpa : Calls Tryz.prog 114 #[.string (S.extract 1 _), .int .i64 16, .int .i64 16] w fun e w' => e = .returned (.tuple #[.int .u64 (n : Int), .nilIface]) ∧ Below w.heap.size w w' := hpa
        have hun := unitE_any n hn
        have hwr : IntKind.i64.wrap (n : Int) = n := IntWalk.i64_in _ (by omega)
        simp only [Option.map_some]
        generalize bs (U.be n) = R at hun ⊢
        clear hn hu16
        go_enter Tryz.func104, Tryz.ntmps104
        go_wp2_with (first | (go_at_call 114; refine hpa.mono ?_; rintro e w1 ⟨rfl, hb⟩) | (go_at_call 103; refine (hun _).mono ?_; rintro e w2 ⟨rfl, hb2⟩))
        go_ret2
        exact ⟨rfl, hb.trans (hb2.mono hb.size)⟩
end Go.Proofs.YtelphbcdjfdjpaaGreatDoor
