/- What utf.Narrow's own character answers at a unit of a wide text. -/
import Derived.Test.YtalhpihoblhacaaDoorWideA
namespace Go.Proofs.YtalhpihoblhacaaDoor
open Go.RowKit Go.Shelf
set_option linter.unusedVariables false

namespace U
theorem us_length : ∀ (n : Nat) (l : List UInt8), l.length ≤ n → (us l).length = l.length / 2
  | _, [], _ => rfl
  | _, [_], _ => by simp [us]
  | 0, _ :: _ :: _, h => by simp at h
  | n + 1, a :: b :: r, h => by
    have := us_length n r (by simp only [List.length_cons] at h; omega)
    simp only [us, List.length_cons, this]
    omega
theorem us_at : ∀ (i : Nat) (l : List UInt8), 2 * i + 1 < l.length → (us l).getD i 0 = unitAt l i
  | _, [], h => by simp at h
  | _, [_], h => by simp at h
  | 0, a :: b :: r, _ => by simp [us, unitAt, g]
  | i + 1, a :: b :: r, h => by
    have := us_at i r (by simp only [List.length_cons] at h; omega)
    simp only [us, List.getD_cons_succ, this]
    unfold unitAt g
    rw [show 2 * (i + 1) = 2 * i + 1 + 1 by omega]
    simp only [List.getD_cons_succ]
theorem us_lt : ∀ (n : Nat) (l : List UInt8), l.length ≤ n → ∀ u ∈ us l, u < 65536
  | _, [], _ => fun u hu => by simp [us] at hu
  | _, [_], _ => fun u hu => by simp [us] at hu
  | 0, _ :: _ :: _, h => by simp at h
  | n + 1, a :: b :: r, h => fun u hu => by
    simp only [us, List.mem_cons] at hu
    rcases hu with rfl | hu
    · have := a.toNat_lt; have := b.toNat_lt; omega
    · exact us_lt n r (by simp only [List.length_cons] at h; omega) u hu
theorem unitAt_lt (l : List UInt8) (i : Nat) : unitAt l i < 65536 := by
  have := g_lt l (2 * i); have := g_lt l (2 * i + 1)
  unfold unitAt; omega
theorem drop_us (l : List UInt8) (i : Nat) (h : 2 * i + 1 < l.length) : (us l).drop i = unitAt l i :: (us l).drop (i + 1) := by
  have hl := us_length _ l (Nat.le_refl _)
  rw [List.drop_eq_getElem_cons (by omega), ← us_at i l h, List.getD_eq_getElem?_getD, List.getElem?_eq_getElem (by omega)]
  rfl
theorem headU_one (l : List UInt8) (i : Nat) (h : 2 * i + 1 < l.length) (h1 : unitAt l i < 55296 ∨ 57343 < unitAt l i) : headU ((us l).drop i) = (unitAt l i, 1) := by
  rw [drop_us l i h]
  match (us l).drop (i + 1) with
  | [] => simp only [headU]; rw [if_pos h1]
  | _ :: _ => simp only [headU]; rw [if_pos h1]
theorem headU_end (l : List UInt8) (i : Nat) (h : 2 * i + 1 < l.length) (h1 : 55296 ≤ unitAt l i ∧ unitAt l i ≤ 57343) (h2 : l.length / 2 ≤ i + 1) : headU ((us l).drop i) = (65533, 1) := by
  rw [drop_us l i h, List.drop_eq_nil_of_le (by rw [us_length _ l (Nat.le_refl _)]; exact h2)]
  simp only [headU]
  rw [if_neg (by omega)]
theorem headU_low (l : List UInt8) (i : Nat) (h : 2 * i + 1 < l.length) (h1 : 56320 ≤ unitAt l i ∧ unitAt l i ≤ 57343) : headU ((us l).drop i) = (65533, 1) := by
  rw [drop_us l i h]
  match (us l).drop (i + 1) with
  | [] => simp only [headU]; rw [if_neg (by omega)]
  | _ :: _ => simp only [headU]; rw [if_neg (by omega), if_neg (by omega)]
theorem headU_pair (l : List UInt8) (i : Nat) (h : 2 * (i + 1) + 1 < l.length) (h1 : 55296 ≤ unitAt l i ∧ unitAt l i < 56320) (h2 : 56320 ≤ unitAt l (i + 1) ∧ unitAt l (i + 1) ≤ 57343) :
    headU ((us l).drop i) = (65536 + (unitAt l i - 55296) * 1024 + (unitAt l (i + 1) - 56320), 2) := by
  rw [drop_us l i (by omega), drop_us l (i + 1) h]
  simp only [headU]
  rw [if_neg (by omega), if_pos (by omega)]
theorem headU_lone (l : List UInt8) (i : Nat) (h : 2 * (i + 1) + 1 < l.length) (h1 : 55296 ≤ unitAt l i ∧ unitAt l i < 56320) (h2 : unitAt l (i + 1) < 56320 ∨ 57343 < unitAt l (i + 1)) :
    headU ((us l).drop i) = (65533, 1) := by
  rw [drop_us l i (by omega), drop_us l (i + 1) h]
  simp only [headU]
  rw [if_neg (by omega), if_neg (by omega)]
end U

theorem ret_ii {k k' : IntKind} {a b c d : Int} (h1 : a = c) (h2 : b = d) : Ending.returned (.tuple #[.int k a, .int k' b]) = .returned (.tuple #[.int k c, .int k' d]) := by rw [h1, h2]
theorem below_of_drew {w : World} {B : Nat} (n : Nat) : Below B w (w.drewN n) := below_drewN (Below.refl _ _) n

set_option maxRecDepth 100000 in
set_option maxHeartbeats 2000000 in
theorem character_any (s : ByteArray) (hs : s.size ≤ 140737488355328) (i : Nat) (hi : 2 * i + 1 < s.size) (C N : Nat) (hh : U.headU ((U.us (ls s)).drop i) = (C, N)) (w : World) :
    Calls Tryd.prog 31 #[.string s, .int .i64 (i : Int)] w fun e w' => e = .returned (.tuple #[.int .i32 (C : Int), .int .i64 (N : Int)]) ∧ ∃ n, w' = w.drewN n := by
  have cu := unit_any s hs i hi
  have hl := ls_length s
  have hb := U.unitAt_lt (ls s) i
  have hb2 := U.unitAt_lt (ls s) (i + 1)
  obtain ⟨u, hu⟩ : ∃ u, U.unitAt (ls s) i = u := ⟨_, rfl⟩
  obtain ⟨v, hv⟩ : ∃ v, U.unitAt (ls s) (i + 1) = v := ⟨_, rfl⟩
  by_cases h1 : u < 55296 ∨ 57343 < u
  · have h := U.headU_one (ls s) i (by omega) (by rw [hu]; exact h1)
    rw [hh, hu] at h
    injection h with hC hN
    subst hC hN
    rw [hu] at cu hb
    clear hu hv hh hb2 hl
    rcases h1 with h1 | h1
    · have h1 : (C : Int) < 55296 := by omega
      go_enter Tryd.func31, Tryd.ntmps31
      go_wp2_with fail
      refine (cu _).mono ?_
      rintro e w' ⟨rfl, n, rfl⟩
      go_wp2
      go_ret2
      exact ⟨rfl, _, rfl⟩
    · have h1 : 57343 < (C : Int) := by omega
      have h3 : ¬ ((C : Int) < 55296) := by omega
      go_enter Tryd.func31, Tryd.ntmps31
      go_wp2_with fail
      refine (cu _).mono ?_
      rintro e w' ⟨rfl, n, rfl⟩
      go_wp2
      go_ret2
      exact ⟨rfl, _, rfl⟩
  · by_cases h2 : 56320 ≤ u
    · have h := U.headU_low (ls s) i (by omega) (by rw [hu]; omega)
      rw [hh] at h
      injection h with hC hN
      have HC := Lib.hid hC
      have HN := Lib.hid hN
      rw [hu] at cu hb
      clear hu hv hh hb2 hl hC hN
      have h2 : 56320 ≤ (u : Int) := by omega
      have h3 : (u : Int) ≤ 57343 := by omega
      have d1 : decide ((u : Int) < 55296) = false := decide_eq_false (by omega)
      have d2 : decide (57343 < (u : Int)) = false := decide_eq_false (by omega)
      have d3 : decide ((u : Int) < 56320) = false := decide_eq_false (by omega)
      clear h1 hb h2 h3
      go_enter Tryd.func31, Tryd.ntmps31
      go_wp2_with fail
      refine (cu _).mono ?_
      rintro e w' ⟨rfl, n, rfl⟩
      go_wp2
      go_ret2
      exact ⟨ret_ii (by have := HC.out; omega) (by have := HN.out; omega), _, rfl⟩
    · by_cases h4 : s.size / 2 ≤ i + 1
      · have h := U.headU_end (ls s) i (by omega) (by rw [hu]; omega) (by rw [hl]; exact h4)
        rw [hh] at h
        injection h with hC hN
        have HC := Lib.hid hC
        have HN := Lib.hid hN
        rw [hu] at cu hb
        clear hu hv hh hb2 hl hC hN
        have h2 : (u : Int) < 56320 := by omega
        have h3 : 55296 ≤ (u : Int) := by omega
        have h5 : (s.size : Int) / 2 ≤ (i : Int) + 1 := by omega
        have d1 : decide ((u : Int) < 55296) = false := decide_eq_false (by omega)
        have d2 : decide (57343 < (u : Int)) = false := decide_eq_false (by omega)
        have d3 : decide ((u : Int) < 56320) = true := decide_eq_true (by omega)
        have d4 : decide ((i : Int) + 1 < (s.size : Int) / 2) = false := decide_eq_false (by omega)
        clear h1 hb h2 h3 h5 h4
        go_enter Tryd.func31, Tryd.ntmps31
        go_wp2_with fail
        refine (cu _).mono ?_
        rintro e w' ⟨rfl, n, rfl⟩
        go_wp2
        go_ret2
        exact ⟨ret_ii (by have := HC.out; omega) (by have := HN.out; omega), _, rfl⟩
      · have cv := unit_any s hs (i + 1) (by omega)
        have e1 : ((i + 1 : Nat) : Int) = (i : Int) + 1 := by omega
        rw [e1] at cv
        have g2 : (u : Int) < 56320 := by omega
        have g3 : 55296 ≤ (u : Int) := by omega
        have g5 : (i : Int) + 1 < (s.size : Int) / 2 := by omega
        have d1 : decide ((u : Int) < 55296) = false := decide_eq_false (by omega)
        have d2 : decide (57343 < (u : Int)) = false := decide_eq_false (by omega)
        have d3 : decide ((u : Int) < 56320) = true := decide_eq_true (by omega)
        by_cases h5 : v < 56320 ∨ 57343 < v
        · have h := U.headU_lone (ls s) i (by omega) (by rw [hu]; omega) (by rw [hv]; exact h5)
          rw [hh] at h
          injection h with hC hN
          have HC := Lib.hid hC
          have HN := Lib.hid hN
          rw [hu] at cu hb
          rw [hv] at cv hb2
          clear hu hv hh hl hC hN e1
          rcases h5 with h5 | h5
          · have d4 : decide (56320 ≤ (v : Int)) = false := decide_eq_false (by omega)
            clear h5 h4 h2 h1 g2 g3
            go_enter Tryd.func31, Tryd.ntmps31
            go_wp2_with fail
            refine (cu _).mono ?_
            rintro e w' ⟨rfl, n, rfl⟩
            go_wp2_with (first | (go_at_call 18; refine (length_any s hs _).mono ?_; rintro e w' ⟨rfl, rfl⟩) | (go_at_call 34; refine (cv _).mono ?_; rintro e w' ⟨rfl, n2, rfl⟩))
            go_ret2
            exact ⟨ret_ii (by have := HC.out; omega) (by have := HN.out; omega), by first | exact ⟨_, rfl⟩ | exact ⟨_, World.drewN_drewN⟩⟩
          · have d4 : decide (56320 ≤ (v : Int)) = true := decide_eq_true (by omega)
            have d5 : decide ((v : Int) ≤ 57343) = false := decide_eq_false (by omega)
            clear h5 h4 h2 h1 g2 g3
            go_enter Tryd.func31, Tryd.ntmps31
            go_wp2_with fail
            refine (cu _).mono ?_
            rintro e w' ⟨rfl, n, rfl⟩
            go_wp2_with (first | (go_at_call 18; refine (length_any s hs _).mono ?_; rintro e w' ⟨rfl, rfl⟩) | (go_at_call 34; refine (cv _).mono ?_; rintro e w' ⟨rfl, n2, rfl⟩))
            go_ret2
            exact ⟨ret_ii (by have := HC.out; omega) (by have := HN.out; omega), by first | exact ⟨_, rfl⟩ | exact ⟨_, World.drewN_drewN⟩⟩
        · have h := U.headU_pair (ls s) i (by omega) (by rw [hu]; omega) (by rw [hv]; omega)
          rw [hh, hu, hv] at h
          injection h with hC hN
          have HC := Lib.hid hC
          have HN := Lib.hid hN
          rw [hu] at cu hb
          rw [hv] at cv hb2
          clear hu hv hh hl hC hN e1
          have g6 : 56320 ≤ (v : Int) := by omega
          have g7 : (v : Int) ≤ 57343 := by omega
          have d4 : decide (56320 ≤ (v : Int)) = true := decide_eq_true (by omega)
          have d5 : decide ((v : Int) ≤ 57343) = true := decide_eq_true (by omega)
          clear h5 h4 h2 h1
          go_enter Tryd.func31, Tryd.ntmps31
          go_wp2_with fail
          refine (cu _).mono ?_
          rintro e w' ⟨rfl, n, rfl⟩
          go_wp2_with (first | (go_at_call 18; refine (length_any s hs _).mono ?_; rintro e w' ⟨rfl, rfl⟩) | (go_at_call 34; refine (cv _).mono ?_; rintro e w' ⟨rfl, n2, rfl⟩))
          go_ret2
          refine ⟨ret_ii ?_ (by have := HN.out; omega), by first | exact ⟨_, rfl⟩ | exact ⟨_, World.drewN_drewN⟩⟩
          have := HC.out
          omega
end Go.Proofs.YtalhpihoblhacaaDoor
