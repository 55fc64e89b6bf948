/- A number's text, and how package strconv reads it: readFloat. Conditions: those that each theorem names. -/
import Derived.Test.YtelphbcdjfdjpaaGreatDoorZ6
namespace Go.Proofs.YtelphbcdjfdjpaaGreatDoor
open Go.RowKit
set_option linter.all false

/-- 0, a point, n digits (the first no 0), e, a sign or none, x digits. -/
structure NumT (S : ByteArray) (n : Nat) (D : Nat → Nat) (ng : Nat) (x : Nat) (E : Nat → Nat) : Prop where
  size : S.size = 3 + n + ng + x
  b0 : sb S 0 = 48
  b1 : sb S 1 = 46
  dg : ∀ i, i < n → sb S (2 + i) = D i ∧ PF.Dg (D i)
  first : D 0 ≠ 48
  n1 : 1 ≤ n
  n2 : n ≤ 790
  be : sb S (2 + n) = 101
  ng1 : ng ≤ 1
  bs : ng = 1 → sb S (3 + n) = 45
  ex : ∀ i, i < x → sb S (3 + n + ng + i) = E i ∧ PF.Dg (E i)
  x1 : 1 ≤ x
  x2 : x ≤ 30
/-- What the power's digits say. -/
def PF.ev (E : Nat → Nat) : Nat → Nat
  | 0 => 0
  | k + 1 => if PF.ev E k < 10000 then PF.ev E k * 10 + (E k - 48) else PF.ev E k
theorem PF.ev_le (E : Nat → Nat) (x : Nat) (hE : ∀ i, i < x → PF.Dg (E i)) : ∀ k, k ≤ x → PF.ev E k ≤ 100008
  | 0, _ => by show 0 ≤ _; omega
  | k + 1, h => by
    have := PF.ev_le E x hE k (by omega)
    obtain ⟨d1, d2⟩ := hE k (by omega)
    unfold PF.ev
    split <;> omega
def PF.rtr (D : Nat → Nat) : Nat → Bool
  | 0 => false
  | j + 1 => PF.rtr D j || (decide (19 ≤ j) && D j != 48)
def PF.pw (n ng x : Nat) (E : Nat → Nat) : Int := (if ng = 1 then -(PF.ev E x : Int) else (PF.ev E x : Int))
theorem sb_idx (S : ByteArray) (y : Int) (i : Nat) (hy : (i : Int) = y) (hi : i < S.size) : ∃ (h : y.toNat < S.size), ∀ e, S[y.toNat]'h = e → e.toNat = sb S i := by
  have hiy : y.toNat = i := by omega
  refine ⟨by omega, fun e he => ?_⟩
  rw [← he, ← sb_at S i hi]
  congr 1
  simp only [hiy]
theorem lower_e (w : World) : Calls Tryz.prog 128 #[.int .u8 101] w fun e w' => e = .returned (.int .u8 101) ∧ w = w' := by
  have hb : bits .or .u8 101 32 = 101 := by kernel_rfl
  go_enter Tryz.func128, Tryz.ntmps128
  go_wp2
  go_ret
  exact ⟨rfl, rfl⟩
def RfSt (D : Nat → Nat) (n i : Nat) (v2 v5 v13 v14 v15 v16 v17 : Value) : Prop :=
  (i = 0 ∧ v2 = .int .u64 0 ∧ v5 = .bool false ∧ v13 = .bool false ∧ v14 = .bool false ∧ v15 = .int .i64 0 ∧ v16 = .int .i64 0 ∧ v17 = .int .i64 0) ∨
  (i = 1 ∧ v2 = .int .u64 0 ∧ v5 = .bool false ∧ v13 = .bool false ∧ v14 = .bool true ∧ v15 = .int .i64 0 ∧ v16 = .int .i64 0 ∧ v17 = .int .i64 (-1)) ∨
  ∃ j, i = j + 2 ∧ j ≤ n ∧ v2 = .int .u64 (PF.val D (min j 19) : Nat) ∧ v5 = .bool (PF.rtr D j) ∧ v13 = .bool true ∧ v14 = .bool true ∧ v15 = .int .i64 (j : Int) ∧ v16 = .int .i64 ((min j 19 : Nat) : Int) ∧ v17 = .int .i64 0
set_option maxHeartbeats 16000000 in
set_option maxRecDepth 100000 in
theorem readFloat_any (S : ByteArray) (n : Nat) (D : Nat → Nat) (ng x : Nat) (E : Nat → Nat) (h : NumT S n D ng x E) (w : World) :
    Calls Tryz.prog 158 #[.string S] w fun e w' => e = .returned (.tuple #[.int .u64 (PF.val D (min n 19) : Nat), .int .i64 (PF.pw n ng x E - (min n 19 : Nat)), .bool false, .bool (PF.rtr D n), .bool false, .int .i64 (S.size : Int), .bool true]) ∧ ∃ m, w' = w.drewN m := by
  have HN := Lib.hid h
  obtain ⟨sz, hsz⟩ : ∃ sz : Int, (S.size : Int) = sz := ⟨_, rfl⟩
  have hlow := lower_e
  have hs := h.size
  have hn1 := h.n1
  have hx1 := h.x1
  have hl3 : 0 < S.size := by omega
  have hl4 : 1 < S.size := by omega
  obtain ⟨e0, he0⟩ : ∃ e0, S[0]'hl3 = e0 := ⟨_, rfl⟩
  obtain ⟨e1, he1⟩ : ∃ e1, S[1]'hl4 = e1 := ⟨_, rfl⟩
  have hv0 : e0.toNat = 48 := by rw [← he0, sb_at S 0 (by omega), h.b0]
  have hv1 : e1.toNat = 46 := by rw [← he1, sb_at S 1 (by omega), h.b1]
  have hl1 : (0 : Int) < (S.size : Int) := by omega
  have hl2 : (2 : Int) < (S.size : Int) := by omega
  have hl5 : (1 : Int) < (S.size : Int) := by omega
  have hlo : ∀ W, Calls Tryz.prog 128 #[.int .u8 46] W fun e w' => e = .returned (.int .u8 46) ∧ W = w' := fun W => by
    have hb : bits .or .u8 46 32 = 46 := by kernel_rfl
    go_enter Tryz.func128, Tryz.ntmps128
    go_wp2
    go_ret
    exact ⟨rfl, rfl⟩
  have HS := Lib.hid hs
  have hne : ¬ S = ByteArray.empty := fun e => by rw [e] at hl3; exact absurd hl3 (by decide)
  clear h hs hn1 hx1 hsz
  go_enter Tryz.func158, Tryz.ntmps158
  go_wp2
  go_step3
  go_wp2_with (go_at_call 128; refine (hlo _).mono ?_; rintro e1 w9 ⟨rfl, rfl⟩)
  go_step3
  go_wp2
  go_loopg [2, 5, 7, 9, 13, 14, 15, 16, 17] S.size (fun g v2 v5 v7 v9 v13 v14 v15 v16 v17 wr => ∃ (i : Nat), i + g = S.size ∧ i ≤ n + 2 ∧ v7 = .int .i64 (i : Int) ∧ v9 = .bool false ∧ RfSt D n i v2 v5 v13 v14 v15 v16 v17 ∧ ∃ m, wr = w.drewN m)
  case atStart => exact ⟨0, by omega, by omega, rfl, rfl, .inl ⟨rfl, rfl, rfl, rfl, rfl, rfl, rfl, rfl⟩, 0, rfl⟩
  case round =>
    clear hv0 hv1 he0 he1 hl1 hl2 hl5 hl3 hl4 hlo hne
    obtain ⟨i, hig, hin, rfl, rfl, hst, m, rfl⟩ := hrel
    have hs := HS.out
    have hx1 := HN.out.x1
    obtain ⟨y, hy⟩ : ∃ y : Int, (i : Int) = y := ⟨_, rfl⟩
    rw [hy]
    obtain ⟨hyl, hyb⟩ := sb_idx S y i hy (by omega)
    obtain ⟨b, hb⟩ : ∃ b, S[y.toNat]'hyl = b := ⟨_, rfl⟩
    have hbv := hyb b hb
    have hl0 : 0 ≤ y := by omega
    have hl1 : y < (S.size : Int) := by omega
    obtain ⟨y2, hy2⟩ : ∃ y2 : Int, y + 1 = y2 := ⟨_, rfl⟩
    have g1 : IntKind.i64.wrap (y + 1) = y2 := by rw [IntWalk.i64_in _ (by have := HN.out.n2; omega), hy2]
    have g2 : wrap64 (y + 1) = y2 := by have := HN.out.n2; unfold wrap64; omega
    clear hyb
    rcases hst with ⟨rfl, rfl, rfl, rfl, rfl, rfl, rfl, rfl⟩ | ⟨rfl, rfl, rfl, rfl, rfl, rfl, rfl, rfl⟩ | ⟨j, rfl, hjn, rfl, rfl, rfl, rfl, rfl, rfl, rfl⟩
    · rw [HN.out.b0] at hbv
      have HY2 := Lib.hid (show ((0 + 1 : Nat) : Int) = y2 by omega)
      have HI := Lib.hid (show 1 + (gk - 1) = S.size ∧ gk - 1 < gk by omega)
      clear hy hy2 hig hs hx1 hin hlow
      go_wp2
      go_roundg (gk - 1)
      case measure => exact HI.out.2
      case rel => exact ⟨1, HI.out.1, by omega, by rw [← HY2.out], rfl, .inr (.inl ⟨rfl, rfl, rfl, rfl, rfl, rfl, rfl, rfl⟩), _, rfl⟩
    · rw [HN.out.b1] at hbv
      have HI := Lib.hid (show 2 + (gk - 1) = S.size ∧ gk - 1 < gk by omega)
      have HY2 := Lib.hid (show ((1 + 1 : Nat) : Int) = y2 by omega)
      clear hy hy2 hig hs hx1 hin hlow
      go_wp2
      go_roundg (gk - 1)
      case measure => exact HI.out.2
      case rel => exact ⟨2, HI.out.1, by omega, by rw [← HY2.out], rfl, .inr (.inr ⟨0, rfl, by omega, rfl, rfl, rfl, rfl, rfl, rfl, rfl⟩), _, rfl⟩
    · by_cases hj : j < n
      · obtain ⟨hd1, hd2⟩ := HN.out.dg j hj
        rw [show j + 2 = 2 + j by omega, hd1] at hbv
        obtain ⟨d, hd⟩ : ∃ d, D j = d := ⟨_, rfl⟩
        have hfirst : j = 0 → d ≠ 48 := fun e => by rw [← hd, e]; exact HN.out.first
        have hdg := hd2
        unfold PF.Dg at hdg
        rw [hd] at hbv hdg
        obtain ⟨xz, hxz⟩ : ∃ xz : Int, (d : Int) = xz := ⟨_, rfl⟩
        have hbz : (b.toNat : Int) = xz := by omega
        obtain ⟨jz, hjz⟩ : ∃ jz : Int, (j : Int) = jz := ⟨_, rfl⟩
        obtain ⟨j2, hj2⟩ : ∃ j2 : Int, jz + 1 = j2 := ⟨_, rfl⟩
        have g3 : IntKind.i64.wrap (jz + 1) = j2 := by rw [IntWalk.i64_in _ (by have := HN.out.n2; omega), hj2]
        have g4 : wrap64 (jz + 1) = j2 := by have := HN.out.n2; unfold wrap64; omega
        have t1 : (xz == 95) = false := beq_eq_false_iff_ne.2 (by omega)
        have t2 : (xz == 46) = false := beq_eq_false_iff_ne.2 (by omega)
        have t3 : 48 ≤ xz := by omega
        have t4 : xz ≤ 57 := by omega
        have HI := Lib.hid (show j + 1 + 2 + (gk - 1) = S.size ∧ gk - 1 < gk ∧ j + 1 + 2 ≤ n + 2 ∧ j + 1 ≤ n by omega)
        have HY2 := Lib.hid (show ((j + 1 + 2 : Nat) : Int) = y2 by omega)
        have HJ2 := Lib.hid (show ((j + 1 : Nat) : Int) = j2 by omega)
        have hDall : ∀ i, i < n → PF.Dg (D i) := fun i hi => (HN.out.dg i hi).2
        have htr : PF.rtr D (j + 1) = (PF.rtr D j || (decide (19 ≤ j) && d != 48)) := by show (PF.rtr D j || (decide (19 ≤ j) && D j != 48)) = _; rw [hd]
        by_cases h19 : j < 19
        · have hm1 : min j 19 = j := by omega
          have hm2 : min (j + 1) 19 = j + 1 := by omega
          have hv := PF.val_lt D j (fun i hi => hDall i (by omega))
          have hp : 10 ^ j ≤ 10 ^ 18 := Nat.pow_le_pow_right (by omega) (by omega)
          obtain ⟨M, hM⟩ : ∃ M, PF.val D j = M := ⟨_, rfl⟩
          have hM2 : PF.val D (j + 1) = 10 * M + (d - 48) := by rw [← hM, ← hd]; rfl
          rw [hM] at hv
          rw [hm1, hM, hjz]
          obtain ⟨M2, hM3⟩ : ∃ M2, 10 * M + (d - 48) = M2 := ⟨_, rfl⟩
          have hjl : jz < 19 := by omega
          obtain ⟨mz, hmz⟩ : ∃ mz : Int, (M : Int) = mz := ⟨_, rfl⟩
          obtain ⟨m1, hmz1⟩ : ∃ m1 : Int, mz * 10 = m1 := ⟨_, rfl⟩
          obtain ⟨x8, hx8⟩ : ∃ x8 : Int, xz - 48 = x8 := ⟨_, rfl⟩
          have g5 : IntKind.u64.wrap (mz * 10) = m1 := by rw [IntWalk.u64_in _ (by omega), hmz1]
          have g6 : IntKind.u8.wrap (xz - 48) = x8 := by rw [IntWalk.u8_in _ (by omega), hx8]
          have g7 : IntKind.u64.wrap x8 = x8 := IntWalk.u64_in _ (by omega)
          have g8 : IntKind.u64.wrap (m1 + x8) = (M2 : Int) := by rw [IntWalk.u64_in _ (by omega)]; omega
          rw [hmz]
          have hres : Hid (PF.val D (min (j + 1) 19) = M2 ∧ PF.rtr D (j + 1) = PF.rtr D j ∧ ((min (j + 1) 19 : Nat) : Int) = j2) := Lib.hid (by
            rw [hm2]
            refine ⟨by rw [hM2, hM3], ?_, by omega⟩
            rw [htr, decide_eq_false (by omega)]
            simp)
          obtain ⟨tj, htj⟩ : ∃ tj, PF.rtr D j = tj := ⟨_, rfl⟩
          rw [htj] at hres ⊢
          by_cases h48 : d = 48
          · have t5 : (xz == 48) = true := beq_iff_eq.2 (by omega)
            have t6 : (jz == 0) = false := beq_eq_false_iff_ne.2 (by intro e; exact hfirst (by omega) h48)
            clear hbv hy hy2 hjz hj2 hig hs hx1 hin hlow hd1 hd2 hd hfirst hdg hxz hDall htr h48 hm1 hm2 hv hp hM hM2 hM3 hmz hmz1 hx8 htj
            go_wp2
            go_roundg (gk - 1)
            case measure => exact HI.out.2.1
            case rel => exact ⟨j + 1 + 2, HI.out.1, HI.out.2.2.1, by rw [HY2.out], rfl, .inr (.inr ⟨j + 1, rfl, HI.out.2.2.2, by rw [hres.out.1], by rw [hres.out.2.1], rfl, rfl, by rw [HJ2.out], by rw [hres.out.2.2], rfl⟩), _, rfl⟩
          · have t5 : (xz == 48) = false := beq_eq_false_iff_ne.2 (by omega)
            clear hbv hy hy2 hjz hj2 hig hs hx1 hin hlow hd1 hd2 hd hfirst hdg hxz hDall htr h48 hm1 hm2 hv hp hM hM2 hM3 hmz hmz1 hx8 htj
            go_wp2
            go_roundg (gk - 1)
            case measure => exact HI.out.2.1
            case rel => exact ⟨j + 1 + 2, HI.out.1, HI.out.2.2.1, by rw [HY2.out], rfl, .inr (.inr ⟨j + 1, rfl, HI.out.2.2.2, by rw [hres.out.1], by rw [hres.out.2.1], rfl, rfl, by rw [HJ2.out], by rw [hres.out.2.2], rfl⟩), _, rfl⟩
        · have hm1 : min j 19 = 19 := by omega
          have hm2 : min (j + 1) 19 = 19 := by omega
          rw [hm1, hjz]
          have hjl : ¬ (19 : Int) < 19 := by omega
          obtain ⟨M, hM⟩ : ∃ M, PF.val D 19 = M := ⟨_, rfl⟩
          rw [hM]
          have t6 : (jz == 0) = false := beq_eq_false_iff_ne.2 (by omega)
          obtain ⟨tj, htj⟩ : ∃ tj, PF.rtr D j = tj := ⟨_, rfl⟩
          rw [htj]
          by_cases h48 : d = 48
          · have t5 : (xz == 48) = true := beq_iff_eq.2 (by omega)
            have t7 : (xz != 48) = false := by rw [bne, t5]; rfl
            have hres : Hid (PF.val D (min (j + 1) 19) = M ∧ PF.rtr D (j + 1) = tj ∧ ((min (j + 1) 19 : Nat) : Int) = 19) := Lib.hid (by
              rw [hm2]
              refine ⟨hM, ?_, rfl⟩
              rw [htr, htj, h48]
              simp)
            clear hbv hy hy2 hjz hj2 hig hs hx1 hin hlow hd1 hd2 hd hfirst hdg hxz hDall htr h48 hm1 hm2 hM htj h19
            go_wp2
            go_roundg (gk - 1)
            case measure => exact HI.out.2.1
            case rel => exact ⟨j + 1 + 2, HI.out.1, HI.out.2.2.1, by rw [HY2.out], rfl, .inr (.inr ⟨j + 1, rfl, HI.out.2.2.2, by rw [hres.out.1], by rw [hres.out.2.1], rfl, rfl, by rw [HJ2.out], by rw [hres.out.2.2], rfl⟩), _, rfl⟩
          · have t5 : (xz == 48) = false := beq_eq_false_iff_ne.2 (by omega)
            have t7 : (xz != 48) = true := by rw [bne, t5]; rfl
            have hres : Hid (PF.val D (min (j + 1) 19) = M ∧ PF.rtr D (j + 1) = true ∧ ((min (j + 1) 19 : Nat) : Int) = 19) := Lib.hid (by
              rw [hm2]
              refine ⟨hM, ?_, rfl⟩
              rw [htr, decide_eq_true (by omega), bne_iff_ne.2 h48]
              simp)
            clear hbv hy hy2 hjz hj2 hig hs hx1 hin hlow hd1 hd2 hd hfirst hdg hxz hDall htr h48 hm1 hm2 hM htj h19
            go_wp2
            go_roundg (gk - 1)
            case measure => exact HI.out.2.1
            case rel => exact ⟨j + 1 + 2, HI.out.1, HI.out.2.2.1, by rw [HY2.out], rfl, .inr (.inr ⟨j + 1, rfl, HI.out.2.2.2, by rw [hres.out.1], by rw [hres.out.2.1], rfl, rfl, by rw [HJ2.out], by rw [hres.out.2.2], rfl⟩), _, rfl⟩
      · have hjn2 : j = n := by omega
        subst hjn2
        rw [show j + 2 = 2 + j by omega, HN.out.be] at hbv
        obtain ⟨tj, htj⟩ : ∃ tj, PF.rtr D j = tj := ⟨_, rfl⟩
        obtain ⟨M, hM⟩ : ∃ M, PF.val D (min j 19) = M := ⟨_, rfl⟩
        obtain ⟨kz, hkz⟩ : ∃ kz : Int, ((min j 19 : Nat) : Int) = kz := ⟨_, rfl⟩
        rw [htj, hM, hkz]
        have hMpos : 1 ≤ M := by
          have h1 := HN.out.n1
          have := PF.val_ge D (min j 19) (fun i hi => (HN.out.dg i (by omega)).2) HN.out.first (by omega)
          have hp : 1 ≤ 10 ^ (min j 19 - 1) := Nat.pow_pos (by omega)
          omega
        obtain ⟨Mz, hMz⟩ : ∃ Mz : Int, (M : Int) = Mz := ⟨_, rfl⟩
        rw [hMz]
        have hMn : (Mz != 0) = true := bne_iff_ne.2 (by omega)
        have hx2 := HN.out.x2
        have hn2 := HN.out.n2
        have hng1 := HN.out.ng1
        have hkb : 0 ≤ kz ∧ kz ≤ 19 := by omega
        obtain ⟨hyl2, hyb2⟩ := sb_idx S y2 (3 + j) (by omega) (by omega)
        obtain ⟨b2, hb2⟩ : ∃ b2, S[y2.toNat]'hyl2 = b2 := ⟨_, rfl⟩
        have hbv2 := hyb2 b2 hb2
        have hl2 : 0 ≤ y2 := by omega
        have hl3 : y2 < (S.size : Int) := by omega
        have hl4 : ¬ (S.size : Int) ≤ y2 := by omega
        have HJ := Lib.hid hs
        have HKB := Lib.hid hkb
        have HYY := Lib.hid (show y2 = 3 + (j : Int) by omega)
        obtain ⟨jz, hjz⟩ : ∃ jz : Int, (j : Int) = jz := ⟨_, rfl⟩
        rw [hjz]
        obtain ⟨sz, hsz⟩ : ∃ sz : Int, (S.size : Int) = sz := ⟨_, rfl⟩
        have HM := Lib.hid hM
        have HMZ := Lib.hid hMz
        have HTJ := Lib.hid htj
        have HKZ := Lib.hid hkz
        by_cases hn0 : ng = 0
        · have hdg := (HN.out.ex 0 hx1)
          unfold PF.Dg at hdg
          rw [hn0] at hdg
          simp only [Nat.add_zero] at hdg
          rw [hdg.1] at hbv2
          obtain ⟨xz, hxz⟩ : ∃ xz : Int, (E 0 : Int) = xz := ⟨_, rfl⟩
          have hbz : (b2.toNat : Int) = xz := by omega
          have v1 : (xz == 43) = false := beq_eq_false_iff_ne.2 (by omega)
          have v2 : (xz == 45) = false := beq_eq_false_iff_ne.2 (by omega)
          have v3 : ¬ xz < 48 := by omega
          have v4 : ¬ 57 < xz := by omega
          have HY3 := Lib.hid (show ((3 + j + ng + 0 : Nat) : Int) = y2 by omega)
          clear hbv2 hy hy2 hjz hkz hkb hMz hMpos hM htj hig hs hx1 hin hjn hx2 hn2 hng1 hyb2 hsz hdg hxz hj
          go_wp2_with (go_at_call 128; refine (hlow _).mono ?_; rintro e1 w9 ⟨rfl, rfl⟩)
          go_loopg [7, 9, 20] x (fun g v7 v9 v20 wr => ∃ F k : Nat, F = g ∧ k + F = x ∧ v7 = .int .i64 ((3 + j + ng + k : Nat) : Int) ∧ v9 = .bool false ∧ v20 = .int .i64 (PF.ev E k : Int) ∧ ∃ q, wr = w.drewN q)
          case atStart => exact ⟨x, 0, rfl, by omega, by rw [HY3.out], rfl, rfl, _, rfl⟩
          case round =>
            clear hbv hbz v1 v2 v3 v4 hl0 hl1 g1 g2 hl2 hl3 hl4 HY3 HYY hlow
            obtain ⟨F, k, hFg, hkF, rfl, rfl, rfl, q, rfl⟩ := hrel
            obtain ⟨y4, hy4⟩ : ∃ y4 : Int, ((3 + j + ng + k : Nat) : Int) = y4 := ⟨_, rfl⟩
            rw [hy4]
            have hs := HJ.out
            have hx2 := HN.out.x2
            have hn2 := HN.out.n2
            have hng1 := HN.out.ng1
            have hevl := PF.ev_le E x (fun i hi => (HN.out.ex i hi).2) k (by omega)
            by_cases hk : k < x
            · obtain ⟨hd1, hd2⟩ := HN.out.ex k hk
              obtain ⟨hyl4, hyb4⟩ := sb_idx S y4 (3 + j + ng + k) hy4 (by omega)
              obtain ⟨b4, hb4⟩ : ∃ b4, S[y4.toNat]'hyl4 = b4 := ⟨_, rfl⟩
              have hbv4 := hyb4 b4 hb4
              rw [hd1] at hbv4
              obtain ⟨d, hd⟩ : ∃ d, E k = d := ⟨_, rfl⟩
              unfold PF.Dg at hd2
              rw [hd] at hbv4 hd2
              obtain ⟨xz, hxz⟩ : ∃ xz : Int, (d : Int) = xz := ⟨_, rfl⟩
              have hbz : (b4.toNat : Int) = xz := by omega
              have u1 : (xz == 95) = false := beq_eq_false_iff_ne.2 (by omega)
              have u2 : 48 ≤ xz := by omega
              have u3 : xz ≤ 57 := by omega
              have u4 : 0 ≤ y4 := by omega
              have u5 : y4 < (S.size : Int) := by omega
              obtain ⟨y5, hy5⟩ : ∃ y5 : Int, y4 + 1 = y5 := ⟨_, rfl⟩
              have u6 : IntKind.i64.wrap (y4 + 1) = y5 := by rw [IntWalk.i64_in _ (by omega), hy5]
              have u7 : wrap64 (y4 + 1) = y5 := by unfold wrap64; omega
              have HI := Lib.hid (show k + 1 + (F - 1) = x ∧ F - 1 < F ∧ F = gk by omega)
              have HY5 := Lib.hid (show ((3 + j + ng + (k + 1) : Nat) : Int) = y5 by omega)
              have hev : PF.ev E (k + 1) = if PF.ev E k < 10000 then PF.ev E k * 10 + (d - 48) else PF.ev E k := by show (if PF.ev E k < 10000 then PF.ev E k * 10 + (E k - 48) else PF.ev E k) = _; rw [hd]
              obtain ⟨e, he⟩ : ∃ e, PF.ev E k = e := ⟨_, rfl⟩
              rw [he] at hev hevl ⊢
              obtain ⟨ez, hez⟩ : ∃ ez : Int, (e : Int) = ez := ⟨_, rfl⟩
              rw [hez]
              by_cases h4 : e < 10000
              · rw [if_pos h4] at hev
                have u8 : ez < 10000 := by omega
                obtain ⟨e2, he2⟩ : ∃ e2, e * 10 + (d - 48) = e2 := ⟨_, rfl⟩
                rw [he2] at hev
                obtain ⟨z1, hz1⟩ : ∃ z1 : Int, ez * 10 = z1 := ⟨_, rfl⟩
                obtain ⟨z2, hz2⟩ : ∃ z2 : Int, z1 + xz = z2 := ⟨_, rfl⟩
                have p1 : IntKind.i64.wrap (ez * 10) = z1 := by rw [IntWalk.i64_in _ (by omega), hz1]
                have p2 : IntKind.i64.wrap xz = xz := IntWalk.i64_in _ (by omega)
                have p3 : IntKind.i64.wrap (z1 + xz) = z2 := by rw [IntWalk.i64_in _ (by omega), hz2]
                have p4 : IntKind.i64.wrap (z2 - 48) = (e2 : Int) := by rw [IntWalk.i64_in _ (by omega)]; omega
                have q1 : wrap64 (ez * 10) = z1 := by unfold wrap64; omega
                have q2 : wrap64 xz = xz := by unfold wrap64; omega
                have q3 : wrap64 (z1 + xz) = z2 := by unfold wrap64; omega
                have q4 : wrap64 (z2 - 48) = (e2 : Int) := by unfold wrap64; omega
                have HEV := Lib.hid hev
                clear hFg hkF hy4 hs hx2 hn2 hng1 hevl hk hd1 hd2 hyb4 hbv4 hd hxz hy5 hev he hez h4 he2 hz1 hz2
                go_wp2
                go_roundg (F - 1)
                case measure => have := HI.out; omega
                case rel => exact ⟨F - 1, k + 1, rfl, HI.out.1, by rw [HY5.out], rfl, by rw [HEV.out], _, rfl⟩
              · rw [if_neg h4] at hev
                have u8 : ¬ ez < 10000 := by omega
                have HEV := Lib.hid hev
                have HEZ := Lib.hid hez
                clear hFg hkF hy4 hs hx2 hn2 hng1 hevl hk hd1 hd2 hyb4 hbv4 hd hxz hy5 hev he hez h4
                go_wp2
                go_roundg (F - 1)
                case measure => have := HI.out; omega
                case rel => exact ⟨F - 1, k + 1, rfl, HI.out.1, by rw [HY5.out], rfl, by rw [HEV.out, HEZ.out], _, rfl⟩
            · have hkx : k = x := by omega
              subst hkx
              have u5 : ¬ y4 < (S.size : Int) := by omega
              have hye : y4 = (S.size : Int) := by omega
              obtain ⟨e, he⟩ : ∃ e, PF.ev E k = e := ⟨_, rfl⟩
              rw [he] at hevl ⊢
              obtain ⟨ez, hez⟩ : ∃ ez : Int, (e : Int) = ez := ⟨_, rfl⟩
              rw [hez]
              have hkb := HKB.out
              obtain ⟨nez, hnez⟩ : ∃ nez : Int, -ez = nez := ⟨_, rfl⟩
              obtain ⟨pz, hpz⟩ : ∃ pz : Int, ez - kz = pz := ⟨_, rfl⟩
              have p1 : IntKind.i64.wrap ez = ez := IntWalk.i64_in _ (by omega)
              have p2 : IntKind.i64.wrap (-ez) = nez := by rw [IntWalk.i64_in _ (by omega), hnez]
              have p3 : IntKind.i64.wrap nez = nez := IntWalk.i64_in _ (by omega)
              have p4 : IntKind.i64.wrap (ez - kz) = pz := by rw [IntWalk.i64_in _ (by omega), hpz]
              have q1 : wrap64 ez = ez := by unfold wrap64; omega
              have q2 : wrap64 (-ez) = nez := by unfold wrap64; omega
              have q3 : wrap64 nez = nez := by unfold wrap64; omega
              have q4 : wrap64 (ez - kz) = pz := by unfold wrap64; omega
              have hpw : Hid (PF.pw j ng k E - ((min j 19 : Nat) : Int) = pz) := Lib.hid (by
                unfold PF.pw
                rw [he, hez, HKZ.out]
                rw [if_neg (by omega)]; omega)
              have HE := Lib.hid hye
              clear hFg hkF hy4 hs hx2 hn2 hng1 hevl hk hye he hez hkb hnez hpz
              go_wp2
              (repeat rw [Exit.noGoto_ret])
              refine bodyPost_ret (v := .tuple #[.int .u64 Mz, .int .i64 pz, .bool false, .bool tj, .bool false, .int .i64 y4, .bool true]) ?_ rfl ?_
              · simp [results, Tryz.results158, go_sem]
              refine ⟨?_, _, rfl⟩
              rw [hpw.out, HM.out, HMZ.out, HTJ.out, ← HE.out]
        · have hng : ng = 1 := by omega
          rw [HN.out.bs hng] at hbv2
          obtain ⟨y3, hy3⟩ : ∃ y3 : Int, y2 + 1 = y3 := ⟨_, rfl⟩
          have g5 : IntKind.i64.wrap (y2 + 1) = y3 := by rw [IntWalk.i64_in _ (by omega), hy3]
          have g6 : wrap64 (y2 + 1) = y3 := by unfold wrap64; omega
          obtain ⟨hyl3, hyb3⟩ := sb_idx S y3 (3 + j + ng + 0) (by omega) (by omega)
          obtain ⟨b3, hb3⟩ : ∃ b3, S[y3.toNat]'hyl3 = b3 := ⟨_, rfl⟩
          have hbv3 := hyb3 b3 hb3
          have hdg := HN.out.ex 0 hx1
          unfold PF.Dg at hdg
          rw [hdg.1] at hbv3
          obtain ⟨xz, hxz⟩ : ∃ xz : Int, (E 0 : Int) = xz := ⟨_, rfl⟩
          have hbz : (b3.toNat : Int) = xz := by omega
          have v3 : ¬ xz < 48 := by omega
          have v4 : ¬ 57 < xz := by omega
          have hm2 : 0 ≤ y3 := by omega
          have hm3 : y3 < (S.size : Int) := by omega
          have hm4 : ¬ (S.size : Int) ≤ y3 := by omega
          have HY3 := Lib.hid (show ((3 + j + ng + 0 : Nat) : Int) = y3 by omega)
          clear hbv3 hy hy2 hjz hkz hkb hMz hMpos hM htj hig hs hx1 hin hjn hx2 hn2 hng1 hyb2 hyb3 hsz hdg hxz hj hy3
          go_wp2_with (go_at_call 128; refine (hlow _).mono ?_; rintro e1 w9 ⟨rfl, rfl⟩)
          go_loopg [7, 9, 20] x (fun g v7 v9 v20 wr => ∃ F k : Nat, F = g ∧ k + F = x ∧ v7 = .int .i64 ((3 + j + ng + k : Nat) : Int) ∧ v9 = .bool false ∧ v20 = .int .i64 (PF.ev E k : Int) ∧ ∃ q, wr = w.drewN q)
          case atStart => exact ⟨x, 0, rfl, by omega, by rw [HY3.out], rfl, rfl, _, rfl⟩
          case round =>
            clear hbv hbz hbv2 v3 v4 hl0 hl1 g1 g2 g5 g6 hl2 hl3 hl4 hm2 hm3 hm4 HY3 HYY hlow
            obtain ⟨F, k, hFg, hkF, rfl, rfl, rfl, q, rfl⟩ := hrel
            obtain ⟨y4, hy4⟩ : ∃ y4 : Int, ((3 + j + ng + k : Nat) : Int) = y4 := ⟨_, rfl⟩
            rw [hy4]
            have hs := HJ.out
            have hx2 := HN.out.x2
            have hn2 := HN.out.n2
            have hng1 := HN.out.ng1
            have hevl := PF.ev_le E x (fun i hi => (HN.out.ex i hi).2) k (by omega)
            by_cases hk : k < x
            · obtain ⟨hd1, hd2⟩ := HN.out.ex k hk
              obtain ⟨hyl4, hyb4⟩ := sb_idx S y4 (3 + j + ng + k) hy4 (by omega)
              obtain ⟨b4, hb4⟩ : ∃ b4, S[y4.toNat]'hyl4 = b4 := ⟨_, rfl⟩
              have hbv4 := hyb4 b4 hb4
              rw [hd1] at hbv4
              obtain ⟨d, hd⟩ : ∃ d, E k = d := ⟨_, rfl⟩
              unfold PF.Dg at hd2
              rw [hd] at hbv4 hd2
              obtain ⟨xz, hxz⟩ : ∃ xz : Int, (d : Int) = xz := ⟨_, rfl⟩
              have hbz : (b4.toNat : Int) = xz := by omega
              have u1 : (xz == 95) = false := beq_eq_false_iff_ne.2 (by omega)
              have u2 : 48 ≤ xz := by omega
              have u3 : xz ≤ 57 := by omega
              have u4 : 0 ≤ y4 := by omega
              have u5 : y4 < (S.size : Int) := by omega
              obtain ⟨y5, hy5⟩ : ∃ y5 : Int, y4 + 1 = y5 := ⟨_, rfl⟩
              have u6 : IntKind.i64.wrap (y4 + 1) = y5 := by rw [IntWalk.i64_in _ (by omega), hy5]
              have u7 : wrap64 (y4 + 1) = y5 := by unfold wrap64; omega
              have HI := Lib.hid (show k + 1 + (F - 1) = x ∧ F - 1 < F ∧ F = gk by omega)
              have HY5 := Lib.hid (show ((3 + j + ng + (k + 1) : Nat) : Int) = y5 by omega)
              have hev : PF.ev E (k + 1) = if PF.ev E k < 10000 then PF.ev E k * 10 + (d - 48) else PF.ev E k := by show (if PF.ev E k < 10000 then PF.ev E k * 10 + (E k - 48) else PF.ev E k) = _; rw [hd]
              obtain ⟨e, he⟩ : ∃ e, PF.ev E k = e := ⟨_, rfl⟩
              rw [he] at hev hevl ⊢
              obtain ⟨ez, hez⟩ : ∃ ez : Int, (e : Int) = ez := ⟨_, rfl⟩
              rw [hez]
              by_cases h4 : e < 10000
              · rw [if_pos h4] at hev
                have u8 : ez < 10000 := by omega
                obtain ⟨e2, he2⟩ : ∃ e2, e * 10 + (d - 48) = e2 := ⟨_, rfl⟩
                rw [he2] at hev
                obtain ⟨z1, hz1⟩ : ∃ z1 : Int, ez * 10 = z1 := ⟨_, rfl⟩
                obtain ⟨z2, hz2⟩ : ∃ z2 : Int, z1 + xz = z2 := ⟨_, rfl⟩
                have p1 : IntKind.i64.wrap (ez * 10) = z1 := by rw [IntWalk.i64_in _ (by omega), hz1]
                have p2 : IntKind.i64.wrap xz = xz := IntWalk.i64_in _ (by omega)
                have p3 : IntKind.i64.wrap (z1 + xz) = z2 := by rw [IntWalk.i64_in _ (by omega), hz2]
                have p4 : IntKind.i64.wrap (z2 - 48) = (e2 : Int) := by rw [IntWalk.i64_in _ (by omega)]; omega
                have q1 : wrap64 (ez * 10) = z1 := by unfold wrap64; omega
                have q2 : wrap64 xz = xz := by unfold wrap64; omega
                have q3 : wrap64 (z1 + xz) = z2 := by unfold wrap64; omega
                have q4 : wrap64 (z2 - 48) = (e2 : Int) := by unfold wrap64; omega
                have HEV := Lib.hid hev
                clear hFg hkF hy4 hs hx2 hn2 hng1 hevl hk hd1 hd2 hyb4 hbv4 hd hxz hy5 hev he hez h4 he2 hz1 hz2
                go_wp2
                go_roundg (F - 1)
                case measure => have := HI.out; omega
                case rel => exact ⟨F - 1, k + 1, rfl, HI.out.1, by rw [HY5.out], rfl, by rw [HEV.out], _, rfl⟩
              · rw [if_neg h4] at hev
                have u8 : ¬ ez < 10000 := by omega
                have HEV := Lib.hid hev
                have HEZ := Lib.hid hez
                clear hFg hkF hy4 hs hx2 hn2 hng1 hevl hk hd1 hd2 hyb4 hbv4 hd hxz hy5 hev he hez h4
                go_wp2
                go_roundg (F - 1)
                case measure => have := HI.out; omega
                case rel => exact ⟨F - 1, k + 1, rfl, HI.out.1, by rw [HY5.out], rfl, by rw [HEV.out, HEZ.out], _, rfl⟩
            · have hkx : k = x := by omega
              subst hkx
              have u5 : ¬ y4 < (S.size : Int) := by omega
              have hye : y4 = (S.size : Int) := by omega
              obtain ⟨e, he⟩ : ∃ e, PF.ev E k = e := ⟨_, rfl⟩
              rw [he] at hevl ⊢
              obtain ⟨ez, hez⟩ : ∃ ez : Int, (e : Int) = ez := ⟨_, rfl⟩
              rw [hez]
              have hkb := HKB.out
              obtain ⟨nez, hnez⟩ : ∃ nez : Int, -ez = nez := ⟨_, rfl⟩
              obtain ⟨pz, hpz⟩ : ∃ pz : Int, nez - kz = pz := ⟨_, rfl⟩
              have p1 : IntKind.i64.wrap ez = ez := IntWalk.i64_in _ (by omega)
              have p2 : IntKind.i64.wrap (-ez) = nez := by rw [IntWalk.i64_in _ (by omega), hnez]
              have p3 : IntKind.i64.wrap nez = nez := IntWalk.i64_in _ (by omega)
              have p4 : IntKind.i64.wrap (nez - kz) = pz := by rw [IntWalk.i64_in _ (by omega), hpz]
              have q1 : wrap64 ez = ez := by unfold wrap64; omega
              have q2 : wrap64 (-ez) = nez := by unfold wrap64; omega
              have q3 : wrap64 nez = nez := by unfold wrap64; omega
              have q4 : wrap64 (nez - kz) = pz := by unfold wrap64; omega
              have hpw : Hid (PF.pw j ng k E - ((min j 19 : Nat) : Int) = pz) := Lib.hid (by
                unfold PF.pw
                rw [he, hez, HKZ.out]
                rw [if_pos hng]; omega)
              have HE := Lib.hid hye
              clear hFg hkF hy4 hs hx2 hn2 hng1 hevl hk hye he hez hkb hnez hpz
              go_wp2
              (repeat rw [Exit.noGoto_ret])
              refine bodyPost_ret (v := .tuple #[.int .u64 Mz, .int .i64 pz, .bool false, .bool tj, .bool false, .int .i64 y4, .bool true]) ?_ rfl ?_
              · simp [results, Tryz.results158, go_sem]
              refine ⟨?_, _, rfl⟩
              rw [hpw.out, HM.out, HMZ.out, HTJ.out, ← HE.out]
end Go.Proofs.YtelphbcdjfdjpaaGreatDoor
