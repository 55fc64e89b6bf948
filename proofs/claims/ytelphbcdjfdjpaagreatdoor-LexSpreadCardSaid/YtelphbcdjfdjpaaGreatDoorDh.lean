/- A shift to the right of the long form. Conditions: those that each theorem names. -/
import Derived.Test.YtelphbcdjfdjpaaGreatDoorZ5
import Derived.Laws.Bits64b
namespace Go.Proofs.YtelphbcdjfdjpaaGreatDoor
open Go.RowKit
set_option linter.all false

theorem PF.rs0_pow (k : Nat) : ∀ f r n, r ≤ (PF.rs0 k f r n).1 ∧ (PF.rs0 k f r n).2 = n * 10 ^ ((PF.rs0 k f r n).1 - r) := by
  intro f
  induction f with
  | zero =>
    intro r n
    refine ⟨Nat.le_refl _, ?_⟩
    show n = n * 10 ^ (r - r)
    rw [Nat.sub_self]; simp
  | succ f ih =>
    intro r n
    unfold PF.rs0
    by_cases h : n / 2 ^ k = 0
    · rw [if_pos h]
      obtain ⟨a, b⟩ := ih (r + 1) (n * 10)
      refine ⟨by omega, ?_⟩
      rw [b, Nat.mul_assoc, ← Nat.pow_succ']
      congr 2
      omega
    · rw [if_neg h]
      refine ⟨Nat.le_refl _, ?_⟩
      show n = n * 10 ^ (r - r)
      rw [Nat.sub_self]; simp
theorem PF.rs0_le (k f r n : Nat) (hk : k ≤ 60) (h1 : 1 ≤ n) (h2 : n < 10 * 2 ^ k) (h3 : 2 ^ k ≤ n + f) : (PF.rs0 k f r n).1 ≤ r + 19 := by
  obtain ⟨a, b⟩ := PF.rs0_pow k f r n
  have c := (PF.rs0_spec k f r n h1 h2 h3).2.2.1
  rw [b] at c
  have hp : 2 ^ k ≤ 2 ^ 60 := Nat.pow_le_pow_right (by omega) hk
  have d : 10 ^ ((PF.rs0 k f r n).1 - r) < 10 ^ 20 := by
    have : 10 ^ ((PF.rs0 k f r n).1 - r) ≤ n * 10 ^ ((PF.rs0 k f r n).1 - r) := Nat.le_mul_of_pos_left _ h1
    omega
  have := (Nat.pow_lt_pow_iff_right (by omega : 1 < 10)).1 d
  omega
theorem PF.rs1_le (D : Nat → Nat) (nd k : Nat) (hk : k ≤ 60) (hD : ∀ i, i < nd → PF.Dg (D i)) (h0 : D 0 ≠ 48) (hnd : 1 ≤ nd) : ∀ f r n, r + f = nd → (r = 0 ∧ n = 0 ∨ 1 ≤ r ∧ 1 ≤ n ∧ n < 10 * 2 ^ k) → (PF.rs1 D nd k f r n).1 ≤ nd + 19 := by
  intro f
  induction f with
  | zero =>
    intro r n hr h
    have h : 1 ≤ r ∧ 1 ≤ n ∧ n < 10 * 2 ^ k := by
      rcases h with ⟨a, _⟩ | h
      · omega
      · exact h
    have := PF.rs0_le k (2 ^ k) r n hk h.2.1 h.2.2 (by omega)
    show (PF.rs0 k (2 ^ k) r n).1 ≤ _
    omega
  | succ f ih =>
    intro r n hr h
    unfold PF.rs1
    by_cases hz : n / 2 ^ k = 0
    · rw [if_pos hz, if_neg (by omega)]
      have hlt : n < 2 ^ k := (Nat.div_eq_zero_iff_lt (Nat.pow_pos (by omega))).1 hz
      obtain ⟨d1, d2⟩ := hD r (by omega)
      refine ih (r + 1) _ (by omega) (.inr ⟨by omega, ?_, by omega⟩)
      rcases h with ⟨a, b⟩ | h
      · subst a
        omega
      · omega
    · rw [if_neg hz]
      show r ≤ _
      omega
theorem mask_and (n k : Nat) (hn : n < 18446744073709551616) (hk : 2 ^ k ≤ 18446744073709551616) (m : Int) (hm : m = ((2 ^ k - 1 : Nat) : Int)) : bits .and .u64 (n : Int) m = ((n % 2 ^ k : Nat) : Int) := by
  have h := bits_and_u64_nat n (2 ^ k - 1) hn (by have : 0 < 2 ^ k := Nat.pow_pos (by omega); omega)
  rw [Nat.and_two_pow_sub_one_eq_mod] at h
  rw [hm]
  exact h
theorem rs3_succ (k f w n : Nat) (D : Nat → Nat) (t : Bool) : PF.rs3 k (f + 1) w n D t = if n = 0 then (D, w, t) else if w < 800 then PF.rs3 k f (w + 1) (n % 2 ^ k * 10) (PF.upd D w (n / 2 ^ k + 48)) t else PF.rs3 k f w (n % 2 ^ k * 10) D (t || decide (0 < n / 2 ^ k)) := rfl
set_option maxHeartbeats 8000000 in
theorem rsh_any (B b k : Nat) (c : PF.Dc) (hB : B ≤ b) (hk : k ≤ 60) (hc : PF.Good c) (hdp : -1000000000 ≤ c.dp ∧ c.dp ≤ 1000000000) (w : World) (h : DecAt b c.D c.nd c.dp c.tr w) :
    Calls Tryz.prog 191 #[.pointer (some ⟨b, 0, none⟩), .int .u64 (k : Int)] w fun e w' => e = .returned (.tuple #[]) ∧ DecAt b (PF.rsh k c).D (PF.rsh k c).nd (PF.rsh k c).dp (PF.rsh k c).tr w' ∧ Below B w w' := by
  obtain ⟨L, hL⟩ : ∃ L, PF.rsh k c = L := ⟨_, rfl⟩
  rw [hL]
  obtain ⟨A, hA⟩ : ∃ A, PF.rs1 c.D c.nd k c.nd 0 0 = A := ⟨_, rfl⟩
  have hL2 : PF.rshOf k c A = L := by rw [← hL, ← hA]; rfl
  obtain ⟨a1, a2, a3, -⟩ := PF.rs1_spec c.D c.nd k hc.dg hc.first hc.pos c.nd 0 0 (by omega) (.inl ⟨rfl, rfl⟩)
  have a5 := PF.rs1_le c.D c.nd k hk hc.dg hc.first hc.pos c.nd 0 0 (by omega) (.inl ⟨rfl, rfl⟩)
  rw [hA] at a1 a2 a3 a5
  obtain ⟨kk, hkk⟩ : ∃ kk : Int, (k : Int) = kk := ⟨_, rfl⟩
  rw [hkk]
  have hp0 : 0 < 2 ^ k := Nat.pow_pos (by omega)
  have hp1 : 2 ^ k ≤ 1152921504606846976 := by
    have := Nat.pow_le_pow_right (by omega : 1 ≤ 2) hk
    simpa using this
  have hpk : ((2 : Int) ^ kk.toNat) = ((2 ^ k : Nat) : Int) := by rw [← hkk]; simp
  have hk0 : 0 ≤ kk := by omega
  have H := Lib.hid h
  have HL := Lib.hid hL2
  have HA := Lib.hid hA
  have HC := Lib.hid hc
  obtain ⟨c0, c1, c2, c3, fz, cd⟩ := h.cells
  obtain ⟨nz, hnz⟩ : ∃ nz : Int, (c.nd : Int) = nz := ⟨_, rfl⟩
  have HNZ := Lib.hid hnz
  rw [hnz] at c0
  have f1 := fz 801
  have htop := hc.top
  have CD := Lib.hid cd
  have HA1 := Lib.hid a1
  have HA5 := Lib.hid a5
  have HA3 := Lib.hid a3
  obtain ⟨P, hP⟩ : ∃ P : Int, ((2 ^ k : Nat) : Int) = P := ⟨_, rfl⟩
  obtain ⟨mk, hmk⟩ : ∃ mk : Int, ((2 ^ k - 1 : Nat) : Int) = mk := ⟨_, rfl⟩
  have HP := Lib.hid hP.symm
  have HMK := Lib.hid hmk.symm
  have HPK := Lib.hid (show (2 : Int) ^ kk.toNat = P by rw [hpk, hP])
  have hc8 := Lib.hid htop
  have HKM := Lib.hid (show kk.toNat ≤ 64 by omega)
  have HPB := Lib.hid (show 1 ≤ P ∧ P ≤ 1152921504606846976 ∧ mk = P - 1 by omega)
  clear h hL hL2 hA c2 c3 fz cd hnz hc a1 a5 a3 hpk hP hmk hkk
  go_enter Tryz.func191, Tryz.ntmps191
  go_wp2
  go_loopg [4, 6, 7] c.nd (fun g v4 v6 v7 wr => ∃ (F r n : Nat), F = g ∧ v4 = .int .i64 (r : Int) ∧ v6 = .int .u64 (n : Int) ∧ r + F = c.nd ∧ n < 10 * 2 ^ k ∧ (1 ≤ r → 1 ≤ n) ∧ Hid (PF.rs1 c.D c.nd k F r n = A) ∧ w = wr)
  case atStart => exact ⟨c.nd, 0, 0, rfl, rfl, rfl, by omega, by omega, by omega, HA, rfl⟩
  case round =>
    obtain ⟨F, r, n, hFg, rfl, rfl, hrF, hn, hn1, hr1, rfl⟩ := hrel

    obtain ⟨y, hy⟩ : ∃ y : Int, (r : Int) = y := ⟨_, rfl⟩
    obtain ⟨z, hz⟩ : ∃ z : Int, (n : Int) = z := ⟨_, rfl⟩
    rw [hy, hz]
    obtain ⟨v, hv⟩ : ∃ v, n / 2 ^ k = v := ⟨_, rfl⟩
    have g1 : z / 2 ^ min kk.toNat 64 = (v : Int) := by rw [Nat.min_eq_left HKM.out, HPK.out, HP.out, ← hz, ← hv]; rfl
    by_cases hv0 : v = 0
    · have ht : ((v : Int) == 0) = true := by rw [hv0]; rfl
      have hnlt : n < 2 ^ k := (Nat.div_eq_zero_iff_lt hp0).1 (by rw [hv, hv0])
      by_cases hF0 : F = 0
      · have hnz := HNZ.out
        have hpos := HC.out.pos
        have ht1 : nz ≤ y := by omega
        have ht2 : (z == 0) = false := beq_eq_false_iff_ne.2 (by have := hn1 (by omega); omega)
        have hr2 : Hid (PF.rs0 k (2 ^ k) r n = A) := Lib.hid (by rw [← hr1.out, hF0]; rfl)
        have HR := Lib.hid (show r = c.nd by omega)
        have HN1 := Lib.hid (hn1 (by omega))
        have HN := Lib.hid hn
        have HZ := Lib.hid hz
        have HY := Lib.hid hy
        clear hF0 hr1 hn hn1 hnlt hrF hFg hv hv0 hnz hpos hy hz
        go_wp2
        go_loopg [4, 6] (2 ^ k) (fun g v4 v6 wr => ∃ (G r n : Nat), G = g ∧ v4 = .int .i64 (r : Int) ∧ v6 = .int .u64 (n : Int) ∧ r + G = c.nd + 2 ^ k ∧ 1 ≤ n ∧ n < 10 * 2 ^ k ∧ 2 ^ k ≤ n + G ∧ Hid (PF.rs0 k G r n = A) ∧ w = wr)
        case atStart => exact ⟨2 ^ k, r, n, rfl, by rw [HY.out], by rw [HZ.out], by rw [HR.out], HN1.out, HN.out, by omega, hr2, rfl⟩
        case round =>
          clear HY HZ HR HN1 HN hr2 ht1 ht2 g1 ht
          obtain ⟨G, r, n, hGg, rfl, rfl, hrG, hn1, hn, hnG, hr1, rfl⟩ := hrel
          obtain ⟨y, hy⟩ : ∃ y : Int, (r : Int) = y := ⟨_, rfl⟩
          obtain ⟨z, hz⟩ : ∃ z : Int, (n : Int) = z := ⟨_, rfl⟩
          rw [hy, hz]
          obtain ⟨v, hv⟩ : ∃ v, n / 2 ^ k = v := ⟨_, rfl⟩
          have g1 : z / 2 ^ min kk.toNat 64 = (v : Int) := by rw [Nat.min_eq_left HKM.out, HPK.out, HP.out, ← hz, ← hv]; rfl
          by_cases hv0 : v = 0
          · have ht : ((v : Int) == 0) = true := by rw [hv0]; rfl
            have hnlt : n < 2 ^ k := (Nat.div_eq_zero_iff_lt hp0).1 (by rw [hv, hv0])
            obtain ⟨f, hf⟩ : ∃ f, G = f + 1 := ⟨G - 1, by omega⟩
            have hr2 : Hid (PF.rs0 k f (r + 1) (n * 10) = A) := Lib.hid (by
              have h := hr1.out
              rw [hf] at h
              unfold PF.rs0 at h
              rw [hv, if_pos hv0] at h
              exact h)
            obtain ⟨y2, hy2⟩ : ∃ y2 : Int, y + 1 = y2 := ⟨_, rfl⟩
            obtain ⟨z2, hz2⟩ : ∃ z2 : Int, z * 10 = z2 := ⟨_, rfl⟩
            have g2 : IntKind.i64.wrap (y + 1) = y2 := by rw [IntWalk.i64_in _ (by omega), hy2]
            have g3 : wrap64 (y + 1) = y2 := by unfold wrap64; omega
            have g4 : IntKind.u64.wrap (z * 10) = z2 := by rw [IntWalk.u64_in _ (by omega), hz2]
            have HF := Lib.hid hf
            have HG := Lib.hid hGg
            have HY2 := Lib.hid (show ((r + 1 : Nat) : Int) = y2 by omega)
            have HZ2 := Lib.hid (show ((n * 10 : Nat) : Int) = z2 by omega)
            have HRG := Lib.hid (show r + 1 + f = c.nd + 2 ^ k by omega)
            have HN2 := Lib.hid (show 1 ≤ n * 10 ∧ n * 10 < 10 * 2 ^ k ∧ 2 ^ k ≤ n * 10 + f by omega)
            clear hf hGg hrG hn1 hn hnG hr1 hy hz hv hv0 hnlt hy2 hz2
            go_wp2
            go_roundg f
            case measure => have := HF.out; have := HG.out; omega
            case rel => exact ⟨f, r + 1, n * 10, rfl, by rw [HY2.out], by rw [HZ2.out], HRG.out, HN2.out.1, HN2.out.2.1, HN2.out.2.2, hr2, rfl⟩
          · have ht : ((v : Int) == 0) = false := beq_eq_false_iff_ne.2 (by omega)
            have hAe : Hid ((r, n) = A) := Lib.hid (by
              rw [← hr1.out]
              cases G with
              | zero => rfl
              | succ G => unfold PF.rs0; rw [if_neg (by omega)])
            obtain ⟨hAr, hAn⟩ : A.1 = r ∧ A.2 = n := by rw [← hAe.out]; exact ⟨rfl, rfl⟩
            have b1 := HA1.out
            have b2 := HA5.out
            have b3 := HA3.out
            rw [hAr] at b1 b2
            rw [hAn] at b3
            obtain ⟨y1, hy1⟩ : ∃ y1 : Int, y - 1 = y1 := ⟨_, rfl⟩
            obtain ⟨dz, hdz⟩ : ∃ dz : Int, c.dp - y1 = dz := ⟨_, rfl⟩
            have e1 : IntKind.i64.wrap (y - 1) = y1 := by rw [IntWalk.i64_in _ (by omega), hy1]
            have e2 : IntKind.i64.wrap (c.dp - y1) = dz := by rw [IntWalk.i64_in _ (by omega), hdz]
            have hPb := HPB.out
            have e3 : IntKind.u64.wrap (2 ^ min kk.toNat 64) = P := by rw [Nat.min_eq_left HKM.out, HPK.out, IntWalk.u64_in _ (by omega)]
            have e4 : IntKind.u64.wrap (P - 1) = mk := by rw [IntWalk.u64_in _ (by omega)]; omega
            have HY1 := Lib.hid (show dz = c.dp - ((r : Int) - 1) by omega)
            have HY := Lib.hid hy
            have HZ := Lib.hid hz
            have HB3 := Lib.hid b3
            have HB1 := Lib.hid b1
            have HB2 := Lib.hid b2
            have HAE := Lib.hid (show L = PF.cut (PF.rs3 k (k + 1) (PF.rs2 k (c.nd - r) r 0 n c.D).2.1 (PF.rs2 k (c.nd - r) r 0 n c.D).2.2 (PF.rs2 k (c.nd - r) r 0 n c.D).1 c.tr).1 (PF.rs3 k (k + 1) (PF.rs2 k (c.nd - r) r 0 n c.D).2.1 (PF.rs2 k (c.nd - r) r 0 n c.D).2.2 (PF.rs2 k (c.nd - r) r 0 n c.D).1 c.tr).2.1 (c.dp - ((r : Int) - 1)) (PF.rs3 k (k + 1) (PF.rs2 k (c.nd - r) r 0 n c.D).2.1 (PF.rs2 k (c.nd - r) r 0 n c.D).2.2 (PF.rs2 k (c.nd - r) r 0 n c.D).1 c.tr).2.2 by rw [← HL.out, ← hAe.out]; rfl)
            obtain ⟨Q2, hQ2⟩ : ∃ Q2, PF.rs2 k (c.nd - r) r 0 n c.D = Q2 := ⟨_, rfl⟩
            rw [hQ2] at HAE
            have HQ2 := Lib.hid hQ2
            clear hPb hQ2 hy hz hy1 hdz b1 b2 b3 hAr hAn hAe hr1 hn hn1 hrG hGg hnG hv hv0
            go_wp2
            go_loopg [4, 5, 6, 9, 10] (c.nd - r) (fun g v4 v5 v6 v9 v10 wr3 => ∃ (F r1 w1 n1 : Nat) (D : Nat → Nat), F = g ∧ v4 = .int .i64 (r1 : Int) ∧ v5 = .int .i64 (w1 : Int) ∧ v6 = .int .u64 (n1 : Int) ∧ (r1 + F = c.nd ∨ F = 0 ∧ c.nd ≤ r1) ∧ w1 < r1 ∧ w1 ≤ 800 ∧ r1 ≤ 900 ∧ n1 < 10 * 2 ^ k ∧ (∀ i, r1 ≤ i → i < c.nd → D i = c.D i) ∧ Hid (PF.rs2 k F r1 w1 n1 D = Q2) ∧ Hid (DecAt b D nz dz c.tr wr3) ∧ Hid (Below B w wr3))
            case atStart =>
              have := HB1.out
              have := HB2.out
              refine ⟨c.nd - r, r, 0, n, c.D, rfl, by rw [HY.out], rfl, by rw [HZ.out], by omega, by omega, by omega, by omega, HB3.out, fun _ _ _ => rfl, HQ2, Lib.hid ?_, Lib.hid ((Below.refl _ _).setCell (p := ⟨b, 801, none⟩) hB _)⟩
              have h := H.out
              rw [HNZ.out] at h
              exact h.setDp dz
            case round =>
              obtain ⟨F, r1, w1, n1, D, hFg, rfl, rfl, rfl, hrF, hwr, hw8, hr9, hn, hDs, hr2, hd, hb⟩ := hrel

              obtain ⟨y, hy⟩ : ∃ y : Int, (r1 : Int) = y := ⟨_, rfl⟩
              obtain ⟨x, hx⟩ : ∃ x : Int, (w1 : Int) = x := ⟨_, rfl⟩
              obtain ⟨z, hz⟩ : ∃ z : Int, (n1 : Int) = z := ⟨_, rfl⟩
              rw [hy, hz, hx]
              obtain ⟨c0, c1, c2, c3, fz, cd⟩ := hd.out.cells
              have hnz := HNZ.out
              by_cases hF0 : F = 0
              · have ht : ¬ y < nz := by omega
                have hend : Hid ((D, w1, n1) = Q2) := Lib.hid (by rw [← hr2.out, hF0]; rfl)
                have HX := Lib.hid hx
                have HZ := Lib.hid hz
                have HW8 := Lib.hid hw8
                have HN := Lib.hid hn
                clear hFg hrF hwr hr9 hDs hr2 hF0 hy hx hz hnz cd fz c1 c2 c3 hw8 hn
                obtain ⟨Q3, hQ3⟩ : ∃ Q3, PF.rs3 k (k + 1) Q2.2.1 Q2.2.2 Q2.1 c.tr = Q3 := ⟨_, rfl⟩
                have HL3 := HAE.out
                rw [hQ3] at HL3
                have HL4 := Lib.hid HL3
                have HQ3 := Lib.hid hQ3
                clear hQ3 HL3
                go_wp2
                go_loopg [5, 6, 11] (k + 1) (fun g v5 v6 v11 wr4 => ∃ (F w1 n1 : Nat) (D : Nat → Nat) (t : Bool), F = g ∧ v5 = .int .i64 (w1 : Int) ∧ v6 = .int .u64 (n1 : Int) ∧ F ≤ k + 1 ∧ w1 ≤ 800 ∧ n1 < 10 * 2 ^ k ∧ (F = 0 → n1 = 0) ∧ (1 ≤ F → 2 ^ (k + 1 - F) ∣ n1) ∧ Hid (PF.rs3 k F w1 n1 D t = Q3) ∧ Hid (DecAt b D nz dz t wr4) ∧ Hid (Below B w wr4))
                case atStart =>
                  refine ⟨k + 1, w1, n1, D, c.tr, rfl, by rw [HX.out], by rw [HZ.out], Nat.le_refl _, HW8.out, HN.out, fun h => absurd h (by omega), fun _ => by rw [Nat.sub_self]; exact Nat.one_dvd _, Lib.hid (by rw [← HQ3.out, ← hend.out]), hd, hb⟩
                case round =>
                  obtain ⟨F, w1, n1, D, t, hFg, rfl, rfl, hFk, hw8, hn, hF0, hdv, hr2, hd, hb⟩ := hrel
                  obtain ⟨x, hx⟩ : ∃ x : Int, (w1 : Int) = x := ⟨_, rfl⟩
                  obtain ⟨z, hz⟩ : ∃ z : Int, (n1 : Int) = z := ⟨_, rfl⟩
                  rw [hz, hx]
                  obtain ⟨c0, c1, c2, c3, fz, cd⟩ := hd.out.cells
                  by_cases hn0 : n1 = 0
                  · have ht : ¬ 0 < z := by omega
                    have hend2 : Hid ((D, w1, t) = Q3) := Lib.hid (by
                      rw [← hr2.out]
                      cases F with
                      | zero => rfl
                      | succ F => unfold PF.rs3; rw [if_pos hn0])
                    have f0 := fz 800
                    have htr := fun W (hW : DecAt b D (w1 : Int) dz t W) => trim_any B b D w1 dz t hB hw8 W hW
                    obtain ⟨Z, hZ⟩ : ∃ Z, (if PF.trimN D w1 = 0 then 0 else dz) = Z := ⟨_, rfl⟩
                    obtain ⟨Y, hY⟩ : ∃ Y, PF.trimN D w1 = Y := ⟨_, rfl⟩
                    rw [hZ, hY] at htr
                    have hfin : Hid (L.D = D ∧ L.nd = Y ∧ L.dp = Z ∧ L.tr = t) := Lib.hid (by
                      rw [HL4.out, ← hend2.out, ← hZ, ← hY, HY1.out]
                      exact ⟨rfl, rfl, rfl, rfl⟩)
                    rw [hx] at htr
                    have HTR := Lib.hid htr
                    have HX := Lib.hid hx
                    clear hFg hFk hw8 hn hF0 hdv hr2 hx hz hn0 fz cd c1 c2 c3 htr hZ hY
                    go_wp2_with (go_at_call 194; refine (HTR.out _ (hd.out.setNd x)).mono ?_; rintro e1 w9 ⟨rfl, hd9, hb9⟩)
                    go_end0
                    refine ⟨rfl, ?_, (hb.out.setCell (p := ⟨b, 800, none⟩) hB _).trans hb9⟩
                    rw [hfin.out.1, hfin.out.2.1, hfin.out.2.2.1, hfin.out.2.2.2]
                    exact hd9
                  · obtain ⟨f, hf⟩ : ∃ f, F = f + 1 := ⟨F - 1, by have := fun e => hn0 (hF0 e); omega⟩
                    have hr3 := hr2.out
                    rw [hf, rs3_succ, if_neg hn0] at hr3
                    obtain ⟨v, hv⟩ : ∃ v, n1 / 2 ^ k = v := ⟨_, rfl⟩
                    obtain ⟨u, hu⟩ : ∃ u, n1 % 2 ^ k = u := ⟨_, rfl⟩
                    have hdv0 := hdv (by omega)
                    have hdg : PF.Dg (v + 48) := by rw [← hv]; exact PF.dig_of hn
                    have hul : u < 2 ^ k := by rw [← hu]; exact Nat.mod_lt _ hp0
                    have hz2 : Hid (f = 0 → u * 10 = 0) := Lib.hid (fun e => by
                      rw [hf, e] at hdv0
                      have e2 : 2 ^ k ∣ n1 := by simpa using hdv0
                      rw [← hu, Nat.mod_eq_zero_of_dvd e2])
                    have hdv2 : Hid (1 ≤ f → 2 ^ (k + 1 - f) ∣ u * 10) := Lib.hid (fun h1 => by
                      obtain ⟨m, hm⟩ : ∃ m, k + 1 - f = m + 1 := ⟨k - f, by omega⟩
                      rw [show k + 1 - F = m by omega] at hdv0
                      rw [hm, Nat.pow_succ, ← hu]
                      refine Nat.mul_dvd_mul ?_ ⟨5, rfl⟩
                      exact (Nat.dvd_mod_iff (Nat.pow_dvd_pow 2 (by omega))).2 hdv0)
                    rw [hv, hu] at hr3
                    obtain ⟨sx, hsx⟩ : ∃ sx, v + 48 = sx := ⟨_, rfl⟩
                    obtain ⟨u1, hu1⟩ : ∃ u1, u * 10 = u1 := ⟨_, rfl⟩
                    rw [hsx, hu1] at hr3
                    rw [hu1] at hz2 hdv2
                    rw [hsx] at hdg
                    unfold PF.Dg at hdg
                    have g1 : z / 2 ^ min kk.toNat 64 = (v : Int) := by rw [Nat.min_eq_left HKM.out, HPK.out, HP.out, ← hz, ← hv]; rfl
                    have g2 : bits .and .u64 z mk = (u : Int) := by rw [← hz, ← hu]; exact mask_and n1 k (by omega) (by omega) mk HMK.out
                    have g3 : IntKind.u64.wrap ((v : Int) + 48) = (sx : Int) := by rw [IntWalk.u64_in _ (by omega)]; omega
                    have g4 : IntKind.u8.wrap (sx : Int) = (sx : Int) := IntWalk.u8_in _ (by omega)
                    have g5 : (sx : Int) % 256 = (sx : Int) := by omega
                    obtain ⟨x1, hx1⟩ : ∃ x1 : Int, x + 1 = x1 := ⟨_, rfl⟩
                    have g6 : IntKind.i64.wrap (x + 1) = x1 := by rw [IntWalk.i64_in _ (by omega), hx1]
                    have gd : wrap64 (x + 1) = x1 := by unfold wrap64; omega
                    have g7 : IntKind.u64.wrap ((u : Int) * 10) = (u1 : Int) := by rw [IntWalk.u64_in _ (by omega)]; omega
                    have hl2 : 0 ≤ x := by omega
                    have ht : 0 < z := by omega
                    have hwx : w1 = x.toNat := by omega
                    have f3 := fz 803
                    have fd := fz x.toNat
                    have hn3 : u1 < 10 * 2 ^ k := by omega
                    have HF := Lib.hid hf
                    have HG := Lib.hid hFg
                    have HFK := Lib.hid (show f ≤ k + 1 by omega)
                    have HX2 := Lib.hid (show ((w1 + 1 : Nat) : Int) = x1 by omega)
                    have HX := Lib.hid hx
                    have HW8 := Lib.hid hw8
                    by_cases h8 : x < 800
                    · have h8n : x.toNat < 800 := by omega
                      have hcq := cd x.toNat h8n
                      generalize (D x.toNat : Int) = dq at hcq
                      have hr4 : Hid (PF.rs3 k f (w1 + 1) u1 (PF.upd D x.toNat sx) t = Q3) := Lib.hid (by rw [if_pos (by omega)] at hr3; rw [← hwx]; exact hr3)
                      have HW9 := Lib.hid (show w1 + 1 ≤ 800 by omega)
                      clear hF0 hf hr3 hr2 hv hu hdv hsx hu1 hx1 hwx cd fz hw8 hFg hFk hx hz hul hn c1 c2 c3 hdv0 hdg hn0
                      go_wp2
                      go_roundg f
                      case measure => have := HF.out; have := HG.out; omega
                      case rel => exact ⟨f, w1 + 1, u1, _, t, rfl, by rw [HX2.out], rfl, HFK.out, HW9.out, hn3, hz2.out, hdv2.out, hr4, Lib.hid (hd.out.setD _ _ h8n), Lib.hid (hb.out.setCell (p := ⟨b, x.toNat, none⟩) hB _)⟩
                    · have hr4 : Hid (PF.rs3 k f w1 u1 D (t || decide (0 < v)) = Q3) := Lib.hid (by rw [if_neg (by omega)] at hr3; exact hr3)
                      obtain ⟨v', hv'⟩ : ∃ v' : Int, (v : Int) = v' := ⟨_, rfl⟩
                      rw [hv'] at g1 g3
                      by_cases hv1 : 0 < v
                      · have hvt : 0 < v' := by omega
                        have hr5 : Hid (PF.rs3 k f w1 u1 D true = Q3) := Lib.hid (by have h := hr4.out; rw [decide_eq_true hv1, Bool.or_true] at h; exact h)
                        clear hF0 hf hr3 hr2 hv hu hdv hsx hu1 hx1 hwx cd fz hw8 hFg hFk hx hz hul hn c1 c2 hdv0 hdg hn0 hv' hv1
                        go_wp2
                        go_roundg f
                        case measure => have := HF.out; have := HG.out; omega
                        case rel => exact ⟨f, w1, u1, D, true, rfl, by rw [HX.out], rfl, HFK.out, HW8.out, hn3, hz2.out, hdv2.out, hr5, Lib.hid (hd.out.setTr true), Lib.hid (hb.out.setCell (p := ⟨b, 803, none⟩) hB _)⟩
                      · have hvt : ¬ 0 < v' := by omega
                        have hr5 : Hid (PF.rs3 k f w1 u1 D t = Q3) := Lib.hid (by have h := hr4.out; rw [decide_eq_false hv1, Bool.or_false] at h; exact h)
                        clear hF0 hf hr3 hr2 hv hu hdv hsx hu1 hx1 hwx cd fz hw8 hFg hFk hx hz hul hn c1 c2 c3 hdv0 hdg hn0 hv' hv1
                        go_wp2
                        go_roundg f
                        case measure => have := HF.out; have := HG.out; omega
                        case rel => exact ⟨f, w1, u1, D, t, rfl, by rw [HX.out], rfl, HFK.out, HW8.out, hn3, hz2.out, hdv2.out, hr5, hd, hb⟩
              · obtain ⟨f, hf⟩ : ∃ f, F = f + 1 := ⟨F - 1, by omega⟩
                have hr3 := hr2.out
                rw [hf] at hr3
                unfold PF.rs2 at hr3
                have hDr := hDs r1 (Nat.le_refl _) (by omega)
                obtain ⟨d1, d2⟩ := HC.out.dg r1 (by omega)
                rw [hDr] at hr3
                obtain ⟨d, hdd⟩ : ∃ d, c.D r1 = d := ⟨_, rfl⟩
                have hci := cd r1 (by omega)
                rw [hDr, hdd] at hci
                rw [hdd] at hr3 d1 d2
                obtain ⟨v, hv⟩ : ∃ v, n1 / 2 ^ k = v := ⟨_, rfl⟩
                obtain ⟨u, hu⟩ : ∃ u, n1 % 2 ^ k = u := ⟨_, rfl⟩
                have hdv : PF.Dg (v + 48) := by rw [← hv]; exact PF.dig_of hn
                have hul : u < 2 ^ k := by rw [← hu]; exact Nat.mod_lt _ hp0
                rw [hv, hu] at hr3
                obtain ⟨sx, hsx⟩ : ∃ sx, v + 48 = sx := ⟨_, rfl⟩
                obtain ⟨n2, hn2⟩ : ∃ n2, u * 10 + (d - 48) = n2 := ⟨_, rfl⟩
                rw [hsx, hn2] at hr3
                rw [hsx] at hdv
                unfold PF.Dg at hdv
                have g1 : z / 2 ^ min kk.toNat 64 = (v : Int) := by rw [Nat.min_eq_left HKM.out, HPK.out, HP.out, ← hz, ← hv]; rfl
                have g2 : bits .and .u64 z mk = (u : Int) := by rw [← hz, ← hu]; exact mask_and n1 k (by omega) (by omega) mk HMK.out
                have g3 : IntKind.u64.wrap ((v : Int) + 48) = (sx : Int) := by rw [IntWalk.u64_in _ (by omega)]; omega
                have g4 : IntKind.u8.wrap (sx : Int) = (sx : Int) := IntWalk.u8_in _ (by omega)
                have g5 : (sx : Int) % 256 = (sx : Int) := by omega
                obtain ⟨x1, hx1⟩ : ∃ x1 : Int, x + 1 = x1 := ⟨_, rfl⟩
                have g6 : IntKind.i64.wrap (x + 1) = x1 := by rw [IntWalk.i64_in _ (by omega), hx1]
                obtain ⟨u1, hu1⟩ : ∃ u1, u * 10 = u1 := ⟨_, rfl⟩
                have g7 : IntKind.u64.wrap ((u : Int) * 10) = (u1 : Int) := by rw [IntWalk.u64_in _ (by omega)]; omega
                obtain ⟨u2, hu2⟩ : ∃ u2, u1 + d = u2 := ⟨_, rfl⟩
                have g8 : IntKind.u64.wrap ((u1 : Int) + (d : Int)) = (u2 : Int) := by rw [IntWalk.u64_in _ (by omega)]; omega
                have g9 : IntKind.u64.wrap ((u2 : Int) - 48) = (n2 : Int) := by rw [IntWalk.u64_in _ (by omega)]; omega
                have ga : IntKind.u64.wrap (d : Int) = (d : Int) := IntWalk.u64_in _ (by omega)
                obtain ⟨y2, hy2⟩ : ∃ y2 : Int, y + 1 = y2 := ⟨_, rfl⟩
                have gb : IntKind.i64.wrap (y + 1) = y2 := by rw [IntWalk.i64_in _ (by omega), hy2]
                have gc : wrap64 (y + 1) = y2 := by unfold wrap64; omega
                have gd : wrap64 (x + 1) = x1 := by unfold wrap64; omega
                have hl0 : 0 ≤ y := by omega
                have hl1 : y < 800 := by omega
                have hl2 : 0 ≤ x := by omega
                have hl3 : x < 800 := by omega
                have ht : y < nz := by omega
                have hry : r1 = y.toNat := by omega
                have hwx : w1 = x.toNat := by omega
                rw [hry] at hci
                have hcq := cd x.toNat (by omega)
                have fd := fz x.toNat
                generalize (D x.toNat : Int) = dq at hcq
                have hr4 : Hid (PF.rs2 k f (r1 + 1) (w1 + 1) n2 (PF.upd D x.toNat sx) = Q2) := Lib.hid (by rw [← hwx]; exact hr3)
                have hn3 : n2 < 10 * 2 ^ k := by omega
                have hDs2 : Hid (∀ i, r1 + 1 ≤ i → i < c.nd → PF.upd D x.toNat sx i = c.D i) := Lib.hid (fun i h1 h2 => by rw [PF.upd_ne _ _ _ _ (by omega)]; exact hDs i (by omega) h2)
                have HF := Lib.hid hf
                have HG := Lib.hid hFg
                have HRF := Lib.hid hrF
                have HWR := Lib.hid hwr
                have HY2 := Lib.hid (show ((r1 + 1 : Nat) : Int) = y2 by omega)
                have HX2 := Lib.hid (show ((w1 + 1 : Nat) : Int) = x1 by omega)
                have HXT := Lib.hid (show x.toNat < 800 by omega)
                have HR9 := Lib.hid (show r1 + 1 ≤ 900 by have := hc8.out; omega)
                have HW9 := Lib.hid (show w1 + 1 ≤ 800 by omega)
                clear hF0 hf hr3 hr2 hDr d1 d2 hdd hv hu hdv hsx hn2 hu1 hu2 hx1 hy2 hry hwx cd fz hDs hrF hwr hw8 hr9 hFg hy hx hz hul hn hnz c1 c2 c3
                go_wp2
                go_roundg f
                case measure => have := HF.out; have := HG.out; omega
                case rel => exact ⟨f, r1 + 1, w1 + 1, n2, _, rfl, by rw [HY2.out], by rw [HX2.out], rfl, by have := HF.out; have := HRF.out; omega, by have := HWR.out; omega, HW9.out, HR9.out, hn3, hDs2.out, hr4, Lib.hid (hd.out.setD _ _ HXT.out), Lib.hid (hb.out.setCell (p := ⟨b, x.toNat, none⟩) hB _)⟩
      · obtain ⟨f, hf⟩ : ∃ f, F = f + 1 := ⟨F - 1, by omega⟩
        have hnz := HNZ.out
        have ht1 : ¬ nz ≤ y := by omega
        have hr2 := hr1.out
        rw [hf] at hr2
        unfold PF.rs1 at hr2
        rw [hv, if_pos hv0, if_neg (by omega)] at hr2
        obtain ⟨d1, d2⟩ := HC.out.dg r (by omega)
        obtain ⟨d, hdd⟩ : ∃ d, c.D r = d := ⟨_, rfl⟩
        have hci := CD.out r (by omega)
        rw [hdd] at hci hr2 d1 d2
        have hry : r = y.toNat := by omega
        rw [hry] at hci
        have hl0 : 0 ≤ y := by omega
        have hl1 : y < 800 := by omega
        have hnew : 1 ≤ n * 10 + (d - 48) := by
          by_cases h0 : r = 0
          · have := HC.out.first
            rw [← h0, hdd] at this
            omega
          · have := hn1 (by omega); omega
        obtain ⟨n2, hn2⟩ : ∃ n2, n * 10 + (d - 48) = n2 := ⟨_, rfl⟩
        rw [hn2] at hr2 hnew
        obtain ⟨u1, hu1⟩ : ∃ u1 : Int, z * 10 = u1 := ⟨_, rfl⟩
        obtain ⟨u2, hu2⟩ : ∃ u2 : Int, u1 + d = u2 := ⟨_, rfl⟩
        have ga : IntKind.u64.wrap (d : Int) = (d : Int) := IntWalk.u64_in _ (by omega)
        have g7 : IntKind.u64.wrap (z * 10) = u1 := by rw [IntWalk.u64_in _ (by omega), hu1]
        have g8 : IntKind.u64.wrap (u1 + (d : Int)) = u2 := by rw [IntWalk.u64_in _ (by omega), hu2]
        have g9 : IntKind.u64.wrap (u2 - 48) = (n2 : Int) := by rw [IntWalk.u64_in _ (by omega)]; omega
        obtain ⟨y2, hy2⟩ : ∃ y2 : Int, y + 1 = y2 := ⟨_, rfl⟩
        have g2 : IntKind.i64.wrap (y + 1) = y2 := by rw [IntWalk.i64_in _ (by omega), hy2]
        have g3 : wrap64 (y + 1) = y2 := by unfold wrap64; omega
        have HR2 := Lib.hid hr2
        have HF := Lib.hid hf
        have HG := Lib.hid hFg
        have HY2 := Lib.hid (show ((r + 1 : Nat) : Int) = y2 by omega)
        have HRF := Lib.hid (show r + 1 + f = c.nd by omega)
        have HN2 := Lib.hid (show 1 ≤ n2 ∧ n2 < 10 * 2 ^ k by omega)
        clear hf hF0 hFg hrF hn1 hn hr1 hr2 hy hz hv hv0 hnlt hy2 hu1 hu2 hn2 hnz d1 d2 hdd hry hnew
        go_wp2
        go_roundg f
        case measure => have := HF.out; have := HG.out; omega
        case rel => exact ⟨f, r + 1, n2, rfl, by rw [HY2.out], rfl, HRF.out, HN2.out.2, fun _ => HN2.out.1, HR2, rfl⟩
    · have ht : ((v : Int) == 0) = false := beq_eq_false_iff_ne.2 (by omega)
      have hAe : Hid ((r, n) = A) := Lib.hid (by
        rw [← hr1.out]
        cases F with
        | zero => show _ = PF.rs0 k (2 ^ k) r n; obtain ⟨m, hm⟩ : ∃ m, 2 ^ k = m + 1 := ⟨2 ^ k - 1, by omega⟩; rw [hm]; unfold PF.rs0; rw [if_neg (by omega)]
        | succ F => unfold PF.rs1; rw [if_neg (by omega)])
      obtain ⟨hAr, hAn⟩ : A.1 = r ∧ A.2 = n := by rw [← hAe.out]; exact ⟨rfl, rfl⟩
      have b1 := HA1.out
      have b2 := HA5.out
      have b3 := HA3.out
      rw [hAr] at b1 b2
      rw [hAn] at b3
      obtain ⟨y1, hy1⟩ : ∃ y1 : Int, y - 1 = y1 := ⟨_, rfl⟩
      obtain ⟨dz, hdz⟩ : ∃ dz : Int, c.dp - y1 = dz := ⟨_, rfl⟩
      have e1 : IntKind.i64.wrap (y - 1) = y1 := by rw [IntWalk.i64_in _ (by omega), hy1]
      have e2 : IntKind.i64.wrap (c.dp - y1) = dz := by rw [IntWalk.i64_in _ (by omega), hdz]
      have hPb := HPB.out
      have e3 : IntKind.u64.wrap (2 ^ min kk.toNat 64) = P := by rw [Nat.min_eq_left HKM.out, HPK.out, IntWalk.u64_in _ (by omega)]
      have e4 : IntKind.u64.wrap (P - 1) = mk := by rw [IntWalk.u64_in _ (by omega)]; omega
      have HY1 := Lib.hid (show dz = c.dp - ((r : Int) - 1) by omega)
      have HY := Lib.hid hy
      have HZ := Lib.hid hz
      have HB3 := Lib.hid b3
      have HB1 := Lib.hid b1
      have HB2 := Lib.hid b2
      have HAE := Lib.hid (show L = PF.cut (PF.rs3 k (k + 1) (PF.rs2 k (c.nd - r) r 0 n c.D).2.1 (PF.rs2 k (c.nd - r) r 0 n c.D).2.2 (PF.rs2 k (c.nd - r) r 0 n c.D).1 c.tr).1 (PF.rs3 k (k + 1) (PF.rs2 k (c.nd - r) r 0 n c.D).2.1 (PF.rs2 k (c.nd - r) r 0 n c.D).2.2 (PF.rs2 k (c.nd - r) r 0 n c.D).1 c.tr).2.1 (c.dp - ((r : Int) - 1)) (PF.rs3 k (k + 1) (PF.rs2 k (c.nd - r) r 0 n c.D).2.1 (PF.rs2 k (c.nd - r) r 0 n c.D).2.2 (PF.rs2 k (c.nd - r) r 0 n c.D).1 c.tr).2.2 by rw [← HL.out, ← hAe.out]; rfl)
      obtain ⟨Q2, hQ2⟩ : ∃ Q2, PF.rs2 k (c.nd - r) r 0 n c.D = Q2 := ⟨_, rfl⟩
      rw [hQ2] at HAE
      have HQ2 := Lib.hid hQ2
      clear hPb hQ2 hy hz hy1 hdz b1 b2 b3 hAr hAn hAe hr1 hn hn1 hrF hFg hv hv0
      go_wp2
      go_loopg [4, 5, 6, 9, 10] (c.nd - r) (fun g v4 v5 v6 v9 v10 wr3 => ∃ (F r1 w1 n1 : Nat) (D : Nat → Nat), F = g ∧ v4 = .int .i64 (r1 : Int) ∧ v5 = .int .i64 (w1 : Int) ∧ v6 = .int .u64 (n1 : Int) ∧ (r1 + F = c.nd ∨ F = 0 ∧ c.nd ≤ r1) ∧ w1 < r1 ∧ w1 ≤ 800 ∧ r1 ≤ 900 ∧ n1 < 10 * 2 ^ k ∧ (∀ i, r1 ≤ i → i < c.nd → D i = c.D i) ∧ Hid (PF.rs2 k F r1 w1 n1 D = Q2) ∧ Hid (DecAt b D nz dz c.tr wr3) ∧ Hid (Below B w wr3))
      case atStart =>
        have := HB1.out
        have := HB2.out
        refine ⟨c.nd - r, r, 0, n, c.D, rfl, by rw [HY.out], rfl, by rw [HZ.out], by omega, by omega, by omega, by omega, HB3.out, fun _ _ _ => rfl, HQ2, Lib.hid ?_, Lib.hid ((Below.refl _ _).setCell (p := ⟨b, 801, none⟩) hB _)⟩
        have h := H.out
        rw [HNZ.out] at h
        exact h.setDp dz
      case round =>
        obtain ⟨F, r1, w1, n1, D, hFg, rfl, rfl, rfl, hrF, hwr, hw8, hr9, hn, hDs, hr2, hd, hb⟩ := hrel

        obtain ⟨y, hy⟩ : ∃ y : Int, (r1 : Int) = y := ⟨_, rfl⟩
        obtain ⟨x, hx⟩ : ∃ x : Int, (w1 : Int) = x := ⟨_, rfl⟩
        obtain ⟨z, hz⟩ : ∃ z : Int, (n1 : Int) = z := ⟨_, rfl⟩
        rw [hy, hz, hx]
        obtain ⟨c0, c1, c2, c3, fz, cd⟩ := hd.out.cells
        have hnz := HNZ.out
        by_cases hF0 : F = 0
        · have ht : ¬ y < nz := by omega
          have hend : Hid ((D, w1, n1) = Q2) := Lib.hid (by rw [← hr2.out, hF0]; rfl)
          have HX := Lib.hid hx
          have HZ := Lib.hid hz
          have HW8 := Lib.hid hw8
          have HN := Lib.hid hn
          clear hFg hrF hwr hr9 hDs hr2 hF0 hy hx hz hnz cd fz c1 c2 c3 hw8 hn
          obtain ⟨Q3, hQ3⟩ : ∃ Q3, PF.rs3 k (k + 1) Q2.2.1 Q2.2.2 Q2.1 c.tr = Q3 := ⟨_, rfl⟩
          have HL3 := HAE.out
          rw [hQ3] at HL3
          have HL4 := Lib.hid HL3
          have HQ3 := Lib.hid hQ3
          clear hQ3 HL3
          go_wp2
          go_loopg [5, 6, 11] (k + 1) (fun g v5 v6 v11 wr4 => ∃ (F w1 n1 : Nat) (D : Nat → Nat) (t : Bool), F = g ∧ v5 = .int .i64 (w1 : Int) ∧ v6 = .int .u64 (n1 : Int) ∧ F ≤ k + 1 ∧ w1 ≤ 800 ∧ n1 < 10 * 2 ^ k ∧ (F = 0 → n1 = 0) ∧ (1 ≤ F → 2 ^ (k + 1 - F) ∣ n1) ∧ Hid (PF.rs3 k F w1 n1 D t = Q3) ∧ Hid (DecAt b D nz dz t wr4) ∧ Hid (Below B w wr4))
          case atStart =>
            refine ⟨k + 1, w1, n1, D, c.tr, rfl, by rw [HX.out], by rw [HZ.out], Nat.le_refl _, HW8.out, HN.out, fun h => absurd h (by omega), fun _ => by rw [Nat.sub_self]; exact Nat.one_dvd _, Lib.hid (by rw [← HQ3.out, ← hend.out]), hd, hb⟩
          case round =>
            obtain ⟨F, w1, n1, D, t, hFg, rfl, rfl, hFk, hw8, hn, hF0, hdv, hr2, hd, hb⟩ := hrel
            obtain ⟨x, hx⟩ : ∃ x : Int, (w1 : Int) = x := ⟨_, rfl⟩
            obtain ⟨z, hz⟩ : ∃ z : Int, (n1 : Int) = z := ⟨_, rfl⟩
            rw [hz, hx]
            obtain ⟨c0, c1, c2, c3, fz, cd⟩ := hd.out.cells
            by_cases hn0 : n1 = 0
            · have ht : ¬ 0 < z := by omega
              have hend2 : Hid ((D, w1, t) = Q3) := Lib.hid (by
                rw [← hr2.out]
                cases F with
                | zero => rfl
                | succ F => unfold PF.rs3; rw [if_pos hn0])
              have f0 := fz 800
              have htr := fun W (hW : DecAt b D (w1 : Int) dz t W) => trim_any B b D w1 dz t hB hw8 W hW
              obtain ⟨Z, hZ⟩ : ∃ Z, (if PF.trimN D w1 = 0 then 0 else dz) = Z := ⟨_, rfl⟩
              obtain ⟨Y, hY⟩ : ∃ Y, PF.trimN D w1 = Y := ⟨_, rfl⟩
              rw [hZ, hY] at htr
              have hfin : Hid (L.D = D ∧ L.nd = Y ∧ L.dp = Z ∧ L.tr = t) := Lib.hid (by
                rw [HL4.out, ← hend2.out, ← hZ, ← hY, HY1.out]
                exact ⟨rfl, rfl, rfl, rfl⟩)
              rw [hx] at htr
              have HTR := Lib.hid htr
              have HX := Lib.hid hx
              clear hFg hFk hw8 hn hF0 hdv hr2 hx hz hn0 fz cd c1 c2 c3 htr hZ hY
              go_wp2_with (go_at_call 194; refine (HTR.out _ (hd.out.setNd x)).mono ?_; rintro e1 w9 ⟨rfl, hd9, hb9⟩)
              go_end0
              refine ⟨rfl, ?_, (hb.out.setCell (p := ⟨b, 800, none⟩) hB _).trans hb9⟩
              rw [hfin.out.1, hfin.out.2.1, hfin.out.2.2.1, hfin.out.2.2.2]
              exact hd9
            · obtain ⟨f, hf⟩ : ∃ f, F = f + 1 := ⟨F - 1, by have := fun e => hn0 (hF0 e); omega⟩
              have hr3 := hr2.out
              rw [hf, rs3_succ, if_neg hn0] at hr3
              obtain ⟨v, hv⟩ : ∃ v, n1 / 2 ^ k = v := ⟨_, rfl⟩
              obtain ⟨u, hu⟩ : ∃ u, n1 % 2 ^ k = u := ⟨_, rfl⟩
              have hdv0 := hdv (by omega)
              have hdg : PF.Dg (v + 48) := by rw [← hv]; exact PF.dig_of hn
              have hul : u < 2 ^ k := by rw [← hu]; exact Nat.mod_lt _ hp0
              have hz2 : Hid (f = 0 → u * 10 = 0) := Lib.hid (fun e => by
                rw [hf, e] at hdv0
                have e2 : 2 ^ k ∣ n1 := by simpa using hdv0
                rw [← hu, Nat.mod_eq_zero_of_dvd e2])
              have hdv2 : Hid (1 ≤ f → 2 ^ (k + 1 - f) ∣ u * 10) := Lib.hid (fun h1 => by
                obtain ⟨m, hm⟩ : ∃ m, k + 1 - f = m + 1 := ⟨k - f, by omega⟩
                rw [show k + 1 - F = m by omega] at hdv0
                rw [hm, Nat.pow_succ, ← hu]
                refine Nat.mul_dvd_mul ?_ ⟨5, rfl⟩
                exact (Nat.dvd_mod_iff (Nat.pow_dvd_pow 2 (by omega))).2 hdv0)
              rw [hv, hu] at hr3
              obtain ⟨sx, hsx⟩ : ∃ sx, v + 48 = sx := ⟨_, rfl⟩
              obtain ⟨u1, hu1⟩ : ∃ u1, u * 10 = u1 := ⟨_, rfl⟩
              rw [hsx, hu1] at hr3
              rw [hu1] at hz2 hdv2
              rw [hsx] at hdg
              unfold PF.Dg at hdg
              have g1 : z / 2 ^ min kk.toNat 64 = (v : Int) := by rw [Nat.min_eq_left HKM.out, HPK.out, HP.out, ← hz, ← hv]; rfl
              have g2 : bits .and .u64 z mk = (u : Int) := by rw [← hz, ← hu]; exact mask_and n1 k (by omega) (by omega) mk HMK.out
              have g3 : IntKind.u64.wrap ((v : Int) + 48) = (sx : Int) := by rw [IntWalk.u64_in _ (by omega)]; omega
              have g4 : IntKind.u8.wrap (sx : Int) = (sx : Int) := IntWalk.u8_in _ (by omega)
              have g5 : (sx : Int) % 256 = (sx : Int) := by omega
              obtain ⟨x1, hx1⟩ : ∃ x1 : Int, x + 1 = x1 := ⟨_, rfl⟩
              have g6 : IntKind.i64.wrap (x + 1) = x1 := by rw [IntWalk.i64_in _ (by omega), hx1]
              have gd : wrap64 (x + 1) = x1 := by unfold wrap64; omega
              have g7 : IntKind.u64.wrap ((u : Int) * 10) = (u1 : Int) := by rw [IntWalk.u64_in _ (by omega)]; omega
              have hl2 : 0 ≤ x := by omega
              have ht : 0 < z := by omega
              have hwx : w1 = x.toNat := by omega
              have f3 := fz 803
              have fd := fz x.toNat
              have hn3 : u1 < 10 * 2 ^ k := by omega
              have HF := Lib.hid hf
              have HG := Lib.hid hFg
              have HFK := Lib.hid (show f ≤ k + 1 by omega)
              have HX2 := Lib.hid (show ((w1 + 1 : Nat) : Int) = x1 by omega)
              have HX := Lib.hid hx
              have HW8 := Lib.hid hw8
              by_cases h8 : x < 800
              · have h8n : x.toNat < 800 := by omega
                have hcq := cd x.toNat h8n
                generalize (D x.toNat : Int) = dq at hcq
                have hr4 : Hid (PF.rs3 k f (w1 + 1) u1 (PF.upd D x.toNat sx) t = Q3) := Lib.hid (by rw [if_pos (by omega)] at hr3; rw [← hwx]; exact hr3)
                have HW9 := Lib.hid (show w1 + 1 ≤ 800 by omega)
                clear hF0 hf hr3 hr2 hv hu hdv hsx hu1 hx1 hwx cd fz hw8 hFg hFk hx hz hul hn c1 c2 c3 hdv0 hdg hn0
                go_wp2
                go_roundg f
                case measure => have := HF.out; have := HG.out; omega
                case rel => exact ⟨f, w1 + 1, u1, _, t, rfl, by rw [HX2.out], rfl, HFK.out, HW9.out, hn3, hz2.out, hdv2.out, hr4, Lib.hid (hd.out.setD _ _ h8n), Lib.hid (hb.out.setCell (p := ⟨b, x.toNat, none⟩) hB _)⟩
              · have hr4 : Hid (PF.rs3 k f w1 u1 D (t || decide (0 < v)) = Q3) := Lib.hid (by rw [if_neg (by omega)] at hr3; exact hr3)
                obtain ⟨v', hv'⟩ : ∃ v' : Int, (v : Int) = v' := ⟨_, rfl⟩
                rw [hv'] at g1 g3
                by_cases hv1 : 0 < v
                · have hvt : 0 < v' := by omega
                  have hr5 : Hid (PF.rs3 k f w1 u1 D true = Q3) := Lib.hid (by have h := hr4.out; rw [decide_eq_true hv1, Bool.or_true] at h; exact h)
                  clear hF0 hf hr3 hr2 hv hu hdv hsx hu1 hx1 hwx cd fz hw8 hFg hFk hx hz hul hn c1 c2 hdv0 hdg hn0 hv' hv1
                  go_wp2
                  go_roundg f
                  case measure => have := HF.out; have := HG.out; omega
                  case rel => exact ⟨f, w1, u1, D, true, rfl, by rw [HX.out], rfl, HFK.out, HW8.out, hn3, hz2.out, hdv2.out, hr5, Lib.hid (hd.out.setTr true), Lib.hid (hb.out.setCell (p := ⟨b, 803, none⟩) hB _)⟩
                · have hvt : ¬ 0 < v' := by omega
                  have hr5 : Hid (PF.rs3 k f w1 u1 D t = Q3) := Lib.hid (by have h := hr4.out; rw [decide_eq_false hv1, Bool.or_false] at h; exact h)
                  clear hF0 hf hr3 hr2 hv hu hdv hsx hu1 hx1 hwx cd fz hw8 hFg hFk hx hz hul hn c1 c2 c3 hdv0 hdg hn0 hv' hv1
                  go_wp2
                  go_roundg f
                  case measure => have := HF.out; have := HG.out; omega
                  case rel => exact ⟨f, w1, u1, D, t, rfl, by rw [HX.out], rfl, HFK.out, HW8.out, hn3, hz2.out, hdv2.out, hr5, hd, hb⟩
        · obtain ⟨f, hf⟩ : ∃ f, F = f + 1 := ⟨F - 1, by omega⟩
          have hr3 := hr2.out
          rw [hf] at hr3
          unfold PF.rs2 at hr3
          have hDr := hDs r1 (Nat.le_refl _) (by omega)
          obtain ⟨d1, d2⟩ := HC.out.dg r1 (by omega)
          rw [hDr] at hr3
          obtain ⟨d, hdd⟩ : ∃ d, c.D r1 = d := ⟨_, rfl⟩
          have hci := cd r1 (by omega)
          rw [hDr, hdd] at hci
          rw [hdd] at hr3 d1 d2
          obtain ⟨v, hv⟩ : ∃ v, n1 / 2 ^ k = v := ⟨_, rfl⟩
          obtain ⟨u, hu⟩ : ∃ u, n1 % 2 ^ k = u := ⟨_, rfl⟩
          have hdv : PF.Dg (v + 48) := by rw [← hv]; exact PF.dig_of hn
          have hul : u < 2 ^ k := by rw [← hu]; exact Nat.mod_lt _ hp0
          rw [hv, hu] at hr3
          obtain ⟨sx, hsx⟩ : ∃ sx, v + 48 = sx := ⟨_, rfl⟩
          obtain ⟨n2, hn2⟩ : ∃ n2, u * 10 + (d - 48) = n2 := ⟨_, rfl⟩
          rw [hsx, hn2] at hr3
          rw [hsx] at hdv
          unfold PF.Dg at hdv
          have g1 : z / 2 ^ min kk.toNat 64 = (v : Int) := by rw [Nat.min_eq_left HKM.out, HPK.out, HP.out, ← hz, ← hv]; rfl
          have g2 : bits .and .u64 z mk = (u : Int) := by rw [← hz, ← hu]; exact mask_and n1 k (by omega) (by omega) mk HMK.out
          have g3 : IntKind.u64.wrap ((v : Int) + 48) = (sx : Int) := by rw [IntWalk.u64_in _ (by omega)]; omega
          have g4 : IntKind.u8.wrap (sx : Int) = (sx : Int) := IntWalk.u8_in _ (by omega)
          have g5 : (sx : Int) % 256 = (sx : Int) := by omega
          obtain ⟨x1, hx1⟩ : ∃ x1 : Int, x + 1 = x1 := ⟨_, rfl⟩
          have g6 : IntKind.i64.wrap (x + 1) = x1 := by rw [IntWalk.i64_in _ (by omega), hx1]
          obtain ⟨u1, hu1⟩ : ∃ u1, u * 10 = u1 := ⟨_, rfl⟩
          have g7 : IntKind.u64.wrap ((u : Int) * 10) = (u1 : Int) := by rw [IntWalk.u64_in _ (by omega)]; omega
          obtain ⟨u2, hu2⟩ : ∃ u2, u1 + d = u2 := ⟨_, rfl⟩
          have g8 : IntKind.u64.wrap ((u1 : Int) + (d : Int)) = (u2 : Int) := by rw [IntWalk.u64_in _ (by omega)]; omega
          have g9 : IntKind.u64.wrap ((u2 : Int) - 48) = (n2 : Int) := by rw [IntWalk.u64_in _ (by omega)]; omega
          have ga : IntKind.u64.wrap (d : Int) = (d : Int) := IntWalk.u64_in _ (by omega)
          obtain ⟨y2, hy2⟩ : ∃ y2 : Int, y + 1 = y2 := ⟨_, rfl⟩
          have gb : IntKind.i64.wrap (y + 1) = y2 := by rw [IntWalk.i64_in _ (by omega), hy2]
          have gc : wrap64 (y + 1) = y2 := by unfold wrap64; omega
          have gd : wrap64 (x + 1) = x1 := by unfold wrap64; omega
          have hl0 : 0 ≤ y := by omega
          have hl1 : y < 800 := by omega
          have hl2 : 0 ≤ x := by omega
          have hl3 : x < 800 := by omega
          have ht : y < nz := by omega
          have hry : r1 = y.toNat := by omega
          have hwx : w1 = x.toNat := by omega
          rw [hry] at hci
          have hcq := cd x.toNat (by omega)
          have fd := fz x.toNat
          generalize (D x.toNat : Int) = dq at hcq
          have hr4 : Hid (PF.rs2 k f (r1 + 1) (w1 + 1) n2 (PF.upd D x.toNat sx) = Q2) := Lib.hid (by rw [← hwx]; exact hr3)
          have hn3 : n2 < 10 * 2 ^ k := by omega
          have hDs2 : Hid (∀ i, r1 + 1 ≤ i → i < c.nd → PF.upd D x.toNat sx i = c.D i) := Lib.hid (fun i h1 h2 => by rw [PF.upd_ne _ _ _ _ (by omega)]; exact hDs i (by omega) h2)
          have HF := Lib.hid hf
          have HG := Lib.hid hFg
          have HRF := Lib.hid hrF
          have HWR := Lib.hid hwr
          have HY2 := Lib.hid (show ((r1 + 1 : Nat) : Int) = y2 by omega)
          have HX2 := Lib.hid (show ((w1 + 1 : Nat) : Int) = x1 by omega)
          have HXT := Lib.hid (show x.toNat < 800 by omega)
          have HR9 := Lib.hid (show r1 + 1 ≤ 900 by have := hc8.out; omega)
          have HW9 := Lib.hid (show w1 + 1 ≤ 800 by omega)
          clear hF0 hf hr3 hr2 hDr d1 d2 hdd hv hu hdv hsx hn2 hu1 hu2 hx1 hy2 hry hwx cd fz hDs hrF hwr hw8 hr9 hFg hy hx hz hul hn hnz c1 c2 c3
          go_wp2
          go_roundg f
          case measure => have := HF.out; have := HG.out; omega
          case rel => exact ⟨f, r1 + 1, w1 + 1, n2, _, rfl, by rw [HY2.out], by rw [HX2.out], rfl, by have := HF.out; have := HRF.out; omega, by have := HWR.out; omega, HW9.out, HR9.out, hn3, hDs2.out, hr4, Lib.hid (hd.out.setD _ _ HXT.out), Lib.hid (hb.out.setCell (p := ⟨b, x.toNat, none⟩) hB _)⟩
end Go.Proofs.YtelphbcdjfdjpaaGreatDoor
