/- The long form's float: floatBits. Conditions: those that each theorem names. -/
import Derived.Test.YtelphbcdjfdjpaaGreatDoorZ6
namespace Go.Proofs.YtelphbcdjfdjpaaGreatDoor
open Go.RowKit
set_option linter.all false

def fbFrame (b : Nat) (v4 v5 v6 v7 : Value) (u : Nat → Value) : Array Value := #[.pointer (some ⟨b, 0, none⟩), .pointer (some ⟨10, 0, none⟩), u 2, u 3, v4, v5, v6, v7, u 8, u 9, u 10, u 11, u 12, u 13, u 14, u 15, u 16, u 17, u 18, u 19, u 20, u 21, u 22, u 23, u 24, u 25, u 26, u 27, u 28, u 29, u 30, u 31, u 32, u 33, u 34, u 35, u 36, u 37, u 38, u 39, u 40, u 41, u 42, u 43, u 44, u 45, u 46, u 47, u 48, u 49, u 50, u 51, u 52, u 53, u 54, u 55, u 56, u 57, u 58, u 59, u 60, u 61, u 62, u 63, u 64, u 65, u 66, u 67, u 68, u 69, u 70, u 71, u 72, u 73, u 74, u 75, u 76, u 77, u 78, u 79, u 80, u 81, u 82, u 83, u 84, u 85, u 86, u 87, u 88, u 89, u 90, u 91, u 92, u 93, u 94, u 95, u 96, u 97, u 98, u 99, u 100, u 101, u 102, u 103, u 104, u 105, u 106, u 107, u 108, u 109, u 110, u 111, u 112, u 113, u 114, u 115, u 116, u 117, u 118, u 119, u 120, u 121, u 122, u 123, u 124, u 125, u 126, u 127, u 128, u 129, u 130, u 131, u 132, u 133, u 134, u 135, u 136, u 137, u 138, u 139, u 140, u 141, u 142, u 143, u 144, u 145, u 146, u 147, u 148, u 149, u 150, u 151, u 152, u 153, u 154, u 155, u 156, u 157, u 158, u 159, u 160, u 161, u 162, u 163, u 164, u 165, u 166, u 167, u 168, u 169, u 170, u 171, u 172, u 173, u 174, u 175, u 176, u 177, u 178, u 179, u 180, u 181, u 182, u 183, u 184, u 185, u 186, u 187, u 188, u 189, u 190, u 191, u 192, u 193, u 194, u 195, u 196, u 197, u 198, u 199, u 200, u 201, u 202, u 203, u 204, u 205, u 206, u 207, u 208, u 209, u 210, u 211, u 212, u 213, u 214, u 215, u 216, u 217, u 218, u 219, u 220, u 221, u 222, u 223, u 224, u 225, u 226, u 227, u 228, u 229, u 230, u 231, u 232, u 233, u 234, u 235, u 236, u 237, u 238, u 239, u 240, u 241, u 242]
/-- At label out. -/
def FbJ0 (N B b : Nat) (w0 : World) (R : PF.Fb) (a : Act) (w : World) : Prop :=
  ∃ (u : Nat → Value) (m : Nat) (e : Int) (o : Bool), a = { tmps := fbFrame b (.int .u64 0) (.bool o) (.int .i64 e) (.int .u64 (m : Int)) u, defers := [] } ∧ (m, e, o) = R ∧ m ≤ 18446744073709551615 ∧ -10000000 ≤ e ∧ e ≤ 10000000 ∧ FT N w ∧ w.cell? ⟨b, 802, none⟩ = some (.bool false) ∧ Below B w0 w
theorem fbJ0_mk {N B b : Nat} {w0 : World} {R : PF.Fb} {w : World} (m : Nat) (e : Int) (o : Bool) (tm : Array Value) (h : tm = fbFrame b (.int .u64 0) (.bool o) (.int .i64 e) (.int .u64 (m : Int)) (fun i => tm.getD i undef)) (h1 : (m, e, o) = R) (h2 : m ≤ 18446744073709551615) (h3 : -10000000 ≤ e) (h4 : e ≤ 10000000) (h5 : FT N w) (h6 : w.cell? ⟨b, 802, none⟩ = some (.bool false)) (h7 : Below B w0 w) : FbJ0 N B b w0 R { tmps := tm, defers := [] } w :=
  ⟨_, m, e, o, by rw [← h], h1, h2, h3, h4, h5, h6, h7⟩
/-- At label overflow. -/
def FbJ1 (N B b : Nat) (w0 : World) (R : PF.Fb) (a : Act) (w : World) : Prop :=
  ∃ (u : Nat → Value) (v6 v7 : Value), a = { tmps := fbFrame b (.int .u64 0) (.bool false) v6 v7 u, defers := [] } ∧ PF.ovf = R ∧ FT N w ∧ w.cell? ⟨b, 802, none⟩ = some (.bool false) ∧ Below B w0 w
theorem fbJ1_mk {N B b : Nat} {w0 : World} {R : PF.Fb} {w : World} (v6 v7 : Value) (tm : Array Value) (h : tm = fbFrame b (.int .u64 0) (.bool false) v6 v7 (fun i => tm.getD i undef)) (h1 : PF.ovf = R) (h5 : FT N w) (h6 : w.cell? ⟨b, 802, none⟩ = some (.bool false)) (h7 : Below B w0 w) : FbJ1 N B b w0 R { tmps := tm, defers := [] } w :=
  ⟨_, v6, v7, by rw [← h], h1, h5, h6, h7⟩

theorem wrap64_big (e : Int) (h : -3000000 ≤ e ∧ e ≤ 3000000) : wrap64 (e + 1023) = e + 1023 := by unfold wrap64; omega
theorem ri2_le : ∀ f n, n ≤ 18446744073709551615 → PF.ri2 f n ≤ 18446744073709551615
  | 0, n, h => h
  | f + 1, n, _ => ri2_le f _ (by omega)
theorem ri1_le (D : Nat → Nat) : ∀ f i n, n ≤ 18446744073709551615 → PF.ri1 D f i n ≤ 18446744073709551615
  | 0, i, n, h => h
  | f + 1, i, n, _ => ri1_le D f _ _ (by omega)
theorem ri_le (c : PF.Dc) : PF.ri c ≤ 18446744073709551615 := by
  have h := ri2_le (c.dp.toNat - min c.dp.toNat c.nd) _ (ri1_le c.D (min c.dp.toNat c.nd) 0 0 (by omega))
  unfold PF.ri
  split
  · omega
  · split <;> omega
theorem FT.drw {N : Nat} {w : World} (h : FT N w) {n : Nat} : FT N (w.drewN n) := ⟨h.pow, h.cheat, h.info⟩
set_option maxHeartbeats 64000000 in
set_option maxRecDepth 100000 in
theorem floatBits_any (N B b : Nat) (c : PF.Dc) (hN : N ≤ B) (hB : B ≤ b) (hc : PF.Good c) (hdp : -200000 ≤ c.dp ∧ c.dp ≤ 200000) (w : World) (h : DcAt b c w) (hT : FT N w) :
    Calls Tryz.prog 165 #[.pointer (some ⟨b, 0, none⟩), .pointer (some ⟨10, 0, none⟩)] w fun e w' => e = .returned (.tuple #[.int .u64 (PF.fbv (PF.fbm c)), .bool (PF.fbm c).2.2]) ∧ Below B w w' := by
  obtain ⟨R, hR⟩ : ∃ R, PF.fbm c = R := ⟨_, rfl⟩
  rw [hR]
  obtain ⟨V, hV⟩ : ∃ V, PF.fbv R = V := ⟨_, rfl⟩
  rw [hV]
  obtain ⟨O, hO⟩ : ∃ O, R.2.2 = O := ⟨_, rfl⟩
  rw [hO]
  obtain ⟨c0, c1, c2, c3, fz, cd⟩ := DecAt.cells h
  have HR := Lib.hid hR
  have HV := Lib.hid hV
  have HO := Lib.hid hO
  have H := Lib.hid h
  have HT := Lib.hid hT
  have HC := Lib.hid hc
  clear hR hV hO fz cd c3 h hT hc
  have tail0 : ∀ (r0 : Code), True := fun _ => trivial
  go_enter Tryz.func165, Tryz.ntmps165
  go_wp2
  refine wp_scope_two (FbJ0 N B b w R) (FbJ1 N B b w R) rfl rfl ?_ ?_ ?_
  rotate_left
  · rintro a' W ⟨u, m, e, o, rfl, hr, hm, he1, he2, hft, hneg, hb⟩
    unfold fbFrame
    obtain ⟨j1, j2, j3, j4⟩ := hft.info
    go_wp2
    go_quiet (fail)
    go_wp2
    (repeat rw [Exit.noGoto_ret])
    go_ret2
    refine ⟨?_, dec_drewN hb _⟩
    rw [← HV.out, ← HO.out, ← hr]
    rfl
  · rintro a' W ⟨u, v6, v7, rfl, hr, hft, hneg, hb⟩
    unfold fbFrame
    obtain ⟨j1, j2, j3, j4⟩ := hft.info
    go_wp2
    go_quiet (fail)
    go_wp2
    go_step3
    go_wp2
    go_quiet (fail)
    go_wp2
    (repeat rw [Exit.noGoto_ret])
    go_ret2
    refine ⟨?_, dec_drewN hb _⟩
    rw [← HV.out, ← HO.out, ← hr]
    rfl
  obtain ⟨nz, hnz⟩ : ∃ nz : Int, (c.nd : Int) = nz := ⟨_, rfl⟩
  have hz : (nz == 0) = false := beq_eq_false_iff_ne.2 (by have := HC.out.pos; omega)
  obtain ⟨dz, hdz⟩ : ∃ dz : Int, c.dp = dz := ⟨_, rfl⟩
  obtain ⟨i0, i1, i2, i3⟩ := HT.out.info
  rw [hnz] at c0
  rw [hdz] at c1
  have HDZ := Lib.hid hdz
  clear hnz hdz
  by_cases h310 : 310 < dz
  · have hov : Hid (PF.ovf = R) := Lib.hid (by rw [← HR.out]; unfold PF.fbm; rw [HDZ.out, if_pos h310])
    go_wp2
    go_step3
    exact .inr ⟨rfl, fbJ1_mk _ _ _ rfl hov.out HT.out c2 (Below.refl _ _)⟩
  · by_cases h330 : dz < -330
    · have hov : Hid ((0, -1023, false) = R) := Lib.hid (by rw [← HR.out]; unfold PF.fbm; rw [HDZ.out, if_neg h310, if_pos h330])
      go_wp2
      go_step3
      exact .inl ⟨rfl, fbJ0_mk 0 _ _ _ rfl hov.out (by omega) (by omega) (by omega) HT.out c2 (Below.refl _ _)⟩
    · have hr3 : Hid (PF.g3 (PF.fb2 (PF.ms2 (PF.fb1 (PF.ms1 c) c 0).1) (PF.fb1 (PF.ms1 c) c 0).1 (PF.fb1 (PF.ms1 c) c 0).2).1 ((PF.fb2 (PF.ms2 (PF.fb1 (PF.ms1 c) c 0).1) (PF.fb1 (PF.ms1 c) c 0).1 (PF.fb1 (PF.ms1 c) c 0).2).2 - 1) = R) := Lib.hid (by rw [← HR.out]; unfold PF.fbm; rw [HDZ.out, if_neg h310, if_neg h330])
      obtain ⟨R1, hR1⟩ : ∃ R1, PF.fb1 (PF.ms1 c) c 0 = R1 := ⟨_, rfl⟩
      rw [hR1] at hr3
      have HR1 := Lib.hid hR1
      obtain ⟨M0, hM0⟩ : ∃ M0, PF.ms1 c = M0 := ⟨_, rfl⟩
      have hM0b : M0 ≤ 3109 := by
        rw [← hM0]
        unfold PF.ms1
        have := HDZ.out
        have := HC.out.dg 0 HC.out.pos
        unfold PF.Dg at this
        omega
      rw [hM0] at HR1
      have HM0 := Lib.hid hM0
      have HDB := Lib.hid (show -900 ≤ c.dp ∧ c.dp ≤ 310 by have := HDZ.out; omega)
      clear hR1 hM0
      go_wp2
      go_loopg [6, 8] M0 (fun g v6 v8 wr => ∃ (F : Nat) (c1 : PF.Dc) (e : Int), F = g ∧ v6 = .int .i64 e ∧ Hid (PF.Good c1) ∧ PF.ms1 c1 ≤ F ∧ F ≤ M0 ∧ 0 ≤ e ∧ e ≤ 27 * ((M0 : Int) - F) ∧ Hid (-900 ≤ c1.dp ∧ c1.dp ≤ 310) ∧ Hid (PF.fb1 F c1 e = R1) ∧ Hid (DcAt b c1 wr) ∧ Hid (FT N wr) ∧ Hid (Below B w wr))
      case atStart => exact ⟨M0, c, 0, rfl, rfl, HC, by rw [HM0.out]; exact Nat.le_refl _, Nat.le_refl _, Int.le_refl _, by omega, HDB, HR1, H, HT, Lib.hid (Below.refl _ _)⟩
      case round =>
        clear c0 c1 c2 HDZ h310 h330 i0 i1 i2 i3 hz
        obtain ⟨F, c1, e, hFg, rfl, hg, hms, hFM, he0, he1, hdb, hr1, hd, ht, hb⟩ := hrel
        obtain ⟨d0, d1, d2, d3, fz, cd⟩ := DecAt.cells hd.out
        obtain ⟨dz, hdz⟩ : ∃ dz : Int, c1.dp = dz := ⟨_, rfl⟩
        rw [hdz] at d1
        clear fz cd d0 d2 d3
        by_cases hpos : 0 < dz
        · obtain ⟨gt, ot, ct, t1, t2, t3, t4⟩ := ht.out.pow
          have hdb2 := hdb.out
          obtain ⟨l1, l2, l3⟩ := PF.fb1_less c1 hg.out (by omega)
          obtain ⟨s1, s2⟩ := PF.step_le c1.dp.toNat
          have hlow := PF.rsh_low (PF.stepOf c1.dp.toNat) c1 s1 (by omega) hg.out
          obtain ⟨f, hf⟩ : ∃ f, F = f + 1 := ⟨F - 1, by omega⟩
          have hr2 := hr1.out
          rw [hf] at hr2
          unfold PF.fb1 at hr2
          rw [if_pos (by omega)] at hr2
          have hsh := fun W (hW : DcAt b c1 W) => shiftR_any B b (PF.stepOf c1.dp.toNat) 0 c1 hB s1 (by omega) (by omega) hg.out (by omega) W hW
          have hst : PF.stepOf c1.dp.toNat = if 9 ≤ c1.dp.toNat then 27 else PF.stepOf c1.dp.toNat := by
            by_cases h9 : 9 ≤ c1.dp.toNat
            · rw [if_pos h9]; unfold PF.stepOf; rw [if_pos h9]
            · rw [if_neg h9]
          obtain ⟨st, hst0⟩ : ∃ st, PF.stepOf c1.dp.toNat = st := ⟨_, rfl⟩
          have hrn : PF.shrF 0 st c1 = PF.rsh st c1 := rfl
          rw [hst0] at l1 l2 l3 s1 s2 hlow hr2 hsh hst
          obtain ⟨c9, hc9⟩ : ∃ c9, PF.rsh st c1 = c9 := ⟨_, rfl⟩
          rw [hrn, hc9] at hsh
          rw [hc9] at l1 l2 l3 hlow hr2
          obtain ⟨sz, hsz⟩ : ∃ sz : Int, (st : Int) = sz := ⟨_, rfl⟩
          obtain ⟨mz, hmz⟩ : ∃ mz : Int, -(st : Int) = mz := ⟨_, rfl⟩
          rw [hmz] at hsh
          rw [hsz] at hr2
          obtain ⟨e2, he2⟩ : ∃ e2 : Int, e + sz = e2 := ⟨_, rfl⟩
          rw [he2] at hr2
          have w1 : IntKind.i64.wrap (-sz) = mz := by rw [IntWalk.i64_in _ (by omega)]; omega
          have w2 : IntKind.i64.wrap (e + sz) = e2 := by rw [IntWalk.i64_in _ (by omega), he2]
          have w3 : wrap64 (e + sz) = e2 := by unfold wrap64; omega
          have HSH := Lib.hid hsh
          have HF := Lib.hid hf
          have HG := Lib.hid hFg
          have HNEXT := Lib.hid (show PF.ms1 c9 ≤ f ∧ f ≤ M0 ∧ 0 ≤ e2 ∧ e2 ≤ 27 * ((M0 : Int) - f) ∧ -900 ≤ c9.dp ∧ c9.dp ≤ 310 by omega)
          have HR2 := Lib.hid hr2
          have HL1 := Lib.hid l1
          by_cases h9 : 9 ≤ dz
          · rw [if_pos (by omega)] at hst
            have h27 : sz = 27 := by omega
            have h9' : (9 : Int) ≤ dz := h9
            clear hsh hf hFg hr2 l1 l2 l3 hlow s1 s2 hst hst0 hrn hc9 hmz he2 hr1 hms hFM he0 he1 hdb hdb2 hdz t4 hg
            subst h27
            clear hsz
            go_wp2
            go_quiet (fail)
            go_wp2_with (go_at_call 184; refine (HSH.out _ (DecAt.drew hd.out _)).mono ?_; rintro e1 w9 ⟨rfl, hd9, hb9⟩)
            go_roundg f
            case measure => have := HF.out; have := HG.out; omega
            case rel =>
              obtain ⟨n1, n2, n3, n4, n5, n6⟩ := HNEXT.out
              exact ⟨f, c9, e2, rfl, rfl, HL1, n1, n2, n3, n4, Lib.hid ⟨n5, n6⟩, HR2, Lib.hid hd9, Lib.hid (ht.out.keep ((dec_drewN (Below.refl _ _) _).trans hb9) hN), Lib.hid ((dec_drewN hb.out _).trans hb9)⟩
          · have h9' : ¬ (9 : Int) ≤ dz := h9
            have t5 := t4 dz.toNat (by omega)
            rw [show dz = c1.dp from hdz.symm, hst0, hsz, hdz] at t5
            have hl0 : 0 ≤ dz := by omega
            have hl1 : dz < 9 := by omega
            clear hsh hf hFg hr2 l1 l2 l3 hlow s1 s2 hst hst0 hrn hc9 hmz he2 hr1 hms hFM he0 he1 hdb hdb2 hdz t4 hg hsz h9
            go_wp2
            go_quiet (fail)
            go_wp2
            go_quiet (fail)
            go_wp2_with (go_at_call 184; refine (HSH.out _ (DecAt.drew hd.out _)).mono ?_; rintro e1 w9 ⟨rfl, hd9, hb9⟩)
            go_roundg f
            case measure => have := HF.out; have := HG.out; omega
            case rel =>
              obtain ⟨n1, n2, n3, n4, n5, n6⟩ := HNEXT.out
              exact ⟨f, c9, e2, rfl, rfl, HL1, n1, n2, n3, n4, Lib.hid ⟨n5, n6⟩, HR2, Lib.hid hd9, Lib.hid (ht.out.keep ((dec_drewN (Below.refl _ _) _).trans hb9) hN), Lib.hid ((dec_drewN hb.out _).trans hb9)⟩
        · have hend : Hid ((c1, e) = R1) := Lib.hid (by
            rw [← hr1.out]
            cases F with
            | zero => rfl
            | succ F => unfold PF.fb1; rw [if_neg (by omega)])
          have hr4 := hr3.out
          rw [← hend.out] at hr4
          simp only at hr4
          obtain ⟨R2, hR2⟩ : ∃ R2, PF.fb2 (PF.ms2 c1) c1 e = R2 := ⟨_, rfl⟩
          rw [hR2] at hr4
          have HR4 := Lib.hid hr4
          obtain ⟨M1, hM1⟩ : ∃ M1, PF.ms2 c1 = M1 := ⟨_, rfl⟩
          have hM1b : M1 ≤ 9100 := by
            rw [← hM1]
            unfold PF.ms2
            have := hdb.out
            have := hg.out.dg 0 hg.out.pos
            unfold PF.Dg at this
            split <;> omega
          rw [hM1] at hR2
          have HR2 := Lib.hid hR2
          have HM1 := Lib.hid hM1
          have HE := Lib.hid (show 0 ≤ e ∧ e ≤ 90000 by omega)
          have HD0 := Lib.hid (show -900 ≤ c1.dp ∧ c1.dp ≤ 19 by have := hdb.out; omega)
          clear hR2 hM1 hr4 hend hr1 hms hFM he0 he1 hdb hdz hFg
          clear hr3 HR1 HM0 HDB
          go_wp2
          go_loopg [6, 9] M1 (fun g v6 v9 wr => ∃ (F : Nat) (c1 : PF.Dc) (e : Int), F = g ∧ v6 = .int .i64 e ∧ Hid (PF.Good c1) ∧ PF.ms2 c1 ≤ F ∧ F ≤ M1 ∧ -27 * ((M1 : Int) - F) ≤ e ∧ e ≤ 90000 ∧ Hid (-900 ≤ c1.dp ∧ c1.dp ≤ 19) ∧ Hid (PF.fb2 F c1 e = R2) ∧ Hid (DcAt b c1 wr) ∧ Hid (FT N wr) ∧ Hid (Below B w wr))
          case atStart => exact ⟨M1, c1, e, rfl, rfl, hg, by rw [HM1.out]; exact Nat.le_refl _, Nat.le_refl _, by have := HE.out; omega, by have := HE.out; omega, HD0, HR2, hd, ht, hb⟩
          case round =>
            clear hd ht hb hg HE HD0 HM1 hpos
            obtain ⟨F, c1, e, hFg, rfl, hg, hms, hFM, he0, he1, hdb, hr1, hd, ht, hb⟩ := hrel
            obtain ⟨d0, d1, d2, d3, fz, cd⟩ := DecAt.cells hd.out
            have dd := cd 0 (by omega)
            obtain ⟨dz, hdz⟩ : ∃ dz : Int, c1.dp = dz := ⟨_, rfl⟩
            rw [hdz] at d1
            obtain ⟨xd, hxd⟩ : ∃ xd : Int, (c1.D 0 : Int) = xd := ⟨_, rfl⟩
            rw [hxd] at dd
            clear fz cd d0 d3
            by_cases hun : PF.under c1 = true
            · obtain ⟨gt, ot, ct, t1, t2, t3, t4⟩ := ht.out.pow
              obtain ⟨l1, l2, l3, l4⟩ := PF.fb2_less c1 hg.out hun
              have hor2 : dz < 0 ∨ (¬ dz < 0 ∧ (dz == 0) = true ∧ xd < 53) := by
                unfold PF.under at hun
                simp only [Bool.or_eq_true, Bool.and_eq_true, decide_eq_true_eq] at hun
                rcases hun with h | ⟨h1, h2⟩
                · exact .inl (by omega)
                · exact .inr ⟨by omega, beq_iff_eq.2 (by omega), by omega⟩
              have hle : c1.dp ≤ 0 := by
                rcases hor2 with h | ⟨_, h, _⟩
                · omega
                · have := beq_iff_eq.1 h; omega
              have hdb2 := hdb.out
              obtain ⟨s1, s2⟩ := PF.step_le (-c1.dp).toNat
              obtain ⟨f, hf⟩ : ∃ f, F = f + 1 := by
                have : 1 ≤ PF.ms2 c1 := by unfold PF.ms2; rw [if_pos hle]; omega
                exact ⟨F - 1, by omega⟩
              have hr2 := hr1.out
              rw [hf] at hr2
              unfold PF.fb2 at hr2
              rw [if_pos hun] at hr2
              have hsh := fun W (hW : DcAt b c1 W) (hF : FT N W) => shiftL_row N B b (PF.stepOf (-c1.dp).toNat) c1 hB (by omega) (PF.step_row _) hg.out (by omega) W hW hF
              have hst : PF.stepOf (-c1.dp).toNat = if 9 ≤ (-c1.dp).toNat then 27 else PF.stepOf (-c1.dp).toNat := by
                by_cases h9 : 9 ≤ (-c1.dp).toNat
                · rw [if_pos h9]; unfold PF.stepOf; rw [if_pos h9]
                · rw [if_neg h9]
              obtain ⟨st, hst0⟩ : ∃ st, PF.stepOf (-c1.dp).toNat = st := ⟨_, rfl⟩
              rw [hst0] at l1 l2 l3 l4 s1 s2 hr2 hsh hst
              obtain ⟨c9, hc9⟩ : ∃ c9, PF.lsh (PF.rowOf st) c1 = c9 := ⟨_, rfl⟩
              rw [hc9] at l1 l2 l3 l4 hr2 hsh
              obtain ⟨sz, hsz⟩ : ∃ sz : Int, (st : Int) = sz := ⟨_, rfl⟩
              rw [hsz] at hr2 hsh
              obtain ⟨e2, he2⟩ : ∃ e2 : Int, e - sz = e2 := ⟨_, rfl⟩
              rw [he2] at hr2
              obtain ⟨nd, hnd⟩ : ∃ nd : Int, -dz = nd := ⟨_, rfl⟩
              have w1 : IntKind.i64.wrap (-dz) = nd := by rw [IntWalk.i64_in _ (by omega), hnd]
              have w2 : IntKind.i64.wrap (e - sz) = e2 := by rw [IntWalk.i64_in _ (by omega), he2]
              have w3 : wrap64 (e - sz) = e2 := by unfold wrap64; omega
              have w4 : wrap64 (-dz) = nd := by unfold wrap64; omega
              have HSH := Lib.hid hsh
              have HF := Lib.hid hf
              have HG := Lib.hid hFg
              have HNEXT := Lib.hid (show PF.ms2 c9 ≤ f ∧ f ≤ M1 ∧ -27 * ((M1 : Int) - f) ≤ e2 ∧ e2 ≤ 90000 ∧ -900 ≤ c9.dp ∧ c9.dp ≤ 19 by omega)
              have HR2 := Lib.hid hr2
              have HL1 := Lib.hid l1
              by_cases h9 : 9 ≤ nd
              · rw [if_pos (by omega)] at hst
                have h27 : sz = 27 := by omega
                clear hsh hf hFg hr2 l1 l2 l3 l4 s1 s2 hst hst0 hc9 he2 hr1 hms hFM he0 he1 hdb hdb2 hdz t4 hg hle hun hnd hxd
                subst h27
                clear hsz
                rcases hor2 with h | ⟨h, h2, h3⟩
                all_goals
                  go_wp2
                  go_quiet (fail)
                  go_wp2_with (go_at_call 184; refine (HSH.out _ (DecAt.drew hd.out _) ht.out.drw).mono ?_; rintro e1 w9 ⟨rfl, hd9, hb9⟩)
                  go_roundg f
                  case measure => have := HF.out; have := HG.out; omega
                  case rel =>
                    obtain ⟨n1, n2, n3, n4, n5, n6⟩ := HNEXT.out
                    exact ⟨f, c9, e2, rfl, rfl, HL1, n1, n2, n3, n4, Lib.hid ⟨n5, n6⟩, HR2, Lib.hid hd9, Lib.hid (ht.out.keep ((dec_drewN (Below.refl _ _) _).trans hb9) hN), Lib.hid ((dec_drewN hb.out _).trans hb9)⟩
              · have t5 := t4 nd.toNat (by omega)
                rw [show nd.toNat = (-c1.dp).toNat by omega, hst0, hsz, show (-c1.dp).toNat = nd.toNat by omega] at t5
                have hl0 : 0 ≤ nd := by omega
                have hl1 : nd < 9 := by omega
                clear hsh hf hFg hr2 l1 l2 l3 l4 s1 s2 hst hst0 hc9 he2 hr1 hms hFM he0 he1 hdb hdb2 hdz t4 hg hle hun hnd hxd hsz
                rcases hor2 with h | ⟨h, h2, h3⟩
                all_goals
                  go_wp2
                  go_quiet (fail)
                  go_wp2
                  go_quiet (fail)
                  go_wp2_with (go_at_call 184; refine (HSH.out _ (DecAt.drew hd.out _) ht.out.drw).mono ?_; rintro e1 w9 ⟨rfl, hd9, hb9⟩)
                  go_roundg f
                  case measure => have := HF.out; have := HG.out; omega
                  case rel =>
                    obtain ⟨n1, n2, n3, n4, n5, n6⟩ := HNEXT.out
                    exact ⟨f, c9, e2, rfl, rfl, HL1, n1, n2, n3, n4, Lib.hid ⟨n5, n6⟩, HR2, Lib.hid hd9, Lib.hid (ht.out.keep ((dec_drewN (Below.refl _ _) _).trans hb9) hN), Lib.hid ((dec_drewN hb.out _).trans hb9)⟩
            · have hun2 : PF.under c1 = false := by simpa using hun
              have hend : Hid ((c1, e) = R2) := Lib.hid (by
                rw [← hr1.out]
                cases F with
                | zero => rfl
                | succ F => unfold PF.fb2; rw [if_neg hun])
              have hr4 := HR4.out
              rw [← hend.out] at hr4
              simp only at hr4
              have htest : ¬ dz < 0 ∧ ((dz == 0) = false ∨ (dz == 0) = true ∧ ¬ xd < 53) := by
                unfold PF.under at hun2
                rw [Bool.or_eq_false_iff, Bool.and_eq_false_iff, decide_eq_false_iff_not, decide_eq_false_iff_not, decide_eq_false_iff_not] at hun2
                refine ⟨by omega, ?_⟩
                rcases hun2.2 with h | h
                · exact .inl (beq_eq_false_iff_ne.2 (by omega))
                · by_cases hz : dz = 0
                  · exact .inr ⟨beq_iff_eq.2 hz, by omega⟩
                  · exact .inl (beq_eq_false_iff_ne.2 hz)
              obtain ⟨hn0, hor⟩ := htest
              obtain ⟨e3, he3⟩ : ∃ e3 : Int, e - 1 = e3 := ⟨_, rfl⟩
              rw [he3] at hr4
              have hwe : IntKind.i64.wrap (e - 1) = e3 := by rw [IntWalk.i64_in _ (by omega), he3]
              have hwe2 : wrap64 (e - 1) = e3 := by unfold wrap64; omega
              obtain ⟨y1, y2, y3, y4⟩ := ht.out.info
              have HE3 := Lib.hid (show -250000 ≤ e3 ∧ e3 ≤ 90000 by omega)
              have HR4' := Lib.hid hr4
              clear hr4 hend hun hun2 hr1 hms hFM he0 he1 hdz he3 hxd hFg d2
              clear HR4
              by_cases hlow : e3 < -1022
              · obtain ⟨n, hn⟩ : ∃ n, (-1022 - e3).toNat = n := ⟨_, rfl⟩
                have hr5 : PF.g4 (PF.shrF 8000 n c1) (-1022) = R := by
                  have h := HR4'.out
                  unfold PF.g3 at h
                  rw [if_pos hlow, hn] at h
                  exact h
                have hsh := fun W (hW : DcAt b c1 W) => shiftR_any B b n 8000 c1 hB (by omega) (by have := HE3.out; omega) (by omega) hg.out (by have := hdb.out; omega) W hW
                obtain ⟨gg, gd1, gd2⟩ := PF.shrF_good 8000 n c1 (by omega) (by have := HE3.out; omega) hg.out
                obtain ⟨c3, hc3⟩ : ∃ c3, PF.shrF 8000 n c1 = c3 := ⟨_, rfl⟩
                rw [hc3] at hsh hr5 gg gd1 gd2
                obtain ⟨e4, he4⟩ : ∃ e4 : Int, (-1022 : Int) = e4 := ⟨_, rfl⟩
                rw [he4] at hr5
                obtain ⟨nz, hnz⟩ : ∃ nz : Int, (n : Int) = nz := ⟨_, rfl⟩
                obtain ⟨mz, hmz⟩ : ∃ mz : Int, -(n : Int) = mz := ⟨_, rfl⟩
                rw [hmz] at hsh
                have u1 : IntKind.i64.wrap (-1022 - e3) = nz := by rw [IntWalk.i64_in _ (by have := HE3.out; omega)]; omega
                have u2 : IntKind.i64.wrap (-nz) = mz := by rw [IntWalk.i64_in _ (by have := HE3.out; omega)]; omega
                have u3 : IntKind.i64.wrap (e3 + nz) = e4 := by rw [IntWalk.i64_in _ (by omega)]; omega
                have u4 : wrap64 (e3 + nz) = e4 := by unfold wrap64; omega
                have u5 : wrap64 (-1022 - e3) = nz := by have := HE3.out; unfold wrap64; omega
                have HSH := Lib.hid hsh
                have HR5 := Lib.hid hr5
                have HG3 := Lib.hid gg
                have HDP3 := Lib.hid (show -1000000000 ≤ c3.dp ∧ c3.dp ≤ 1000000000 by have := hdb.out; omega)
                have HE4 := Lib.hid (show -1022 ≤ e4 ∧ e4 ≤ 90000 by omega)
                clear hsh hr5 gg gd1 gd2 hc3 hnz hmz hn he4
                rcases hor with h | ⟨h, h2⟩
                all_goals
                  go_wp2_with (go_at_call 184; refine (HSH.out _ hd.out).mono ?_; rintro e1 W3 ⟨rfl, hd3, hb3⟩)
                  have HT3 := Lib.hid (ht.out.keep hb3 hN)
                  have HD3 := Lib.hid hd3
                  have HB3 := Lib.hid (hb.out.trans hb3)
                  clear hd3 hb3 hb hd ht
                  -- from here: c3, e4 in world W3
                  obtain ⟨p1, p2, p3, p4⟩ := HT3.out.info
                  have q802 := HD3.out.cells.2.2.1
                  have hw0 : IntKind.i64.wrap (e4 - -1023) = e4 + 1023 := by rw [IntWalk.i64_in _ (by have := HE4.out; omega)]; omega
                  have hw1 : IntKind.i64.wrap (e4 + 1023) = e4 + 1023 := IntWalk.i64_in _ (by have := HE4.out; omega)
                  have hws := wrap64_big e4 (by have := HE4.out; omega)
                  by_cases ho : 2047 ≤ e4 + 1023
                  · have hov : Hid (PF.ovf = R) := Lib.hid (by have h := HR5.out; unfold PF.g4 at h; rw [if_pos ho] at h; exact h)
                    go_quiet (fail)
                    go_wp2
                    go_step3
                    exact .inr ⟨rfl, fbJ1_mk _ _ _ rfl hov.out HT3.out.drw q802 (dec_drewN HB3.out _)⟩
                  · have hr6 := HR5.out
                    unfold PF.g4 at hr6
                    rw [if_neg ho] at hr6
                    have hsl := fun W (hW : DcAt b c3 W) (hF : FT N W) => shiftL_row N B b 53 c3 hB (by omega) PF.row_53 HG3.out HDP3.out W hW hF
                    obtain ⟨g9, -⟩ := PF.lsh_good _ c3 (PF.row_ok 53 PF.row_53) HG3.out
                    obtain ⟨c4, hc4⟩ : ∃ c4, PF.lsh (PF.rowOf 53) c3 = c4 := ⟨_, rfl⟩
                    rw [hc4] at hsl hr6 g9
                    have hri := fun W (hW : DcAt b c4 W) => ri_any b c4 g9 W hW
                    have hri64 := ri_le c4
                    obtain ⟨m, hm⟩ : ∃ m, PF.ri c4 = m := ⟨_, rfl⟩
                    rw [hm] at hri hr6 hri64
                    have HSL := Lib.hid hsl
                    have HRI := Lib.hid hri
                    have HR6 := Lib.hid hr6
                    clear hsl hri hr6 hm hc4 g9 q802
                    by_cases hbig : m = 9007199254740992
                    · have hr7 := HR6.out
                      subst hbig
                      unfold PF.g5 at hr7
                      rw [if_pos rfl] at hr7
                      have hx : bits .and .u64 4503599627370496 4503599627370496 = 4503599627370496 := by kernel_rfl
                      have hw4 : IntKind.i64.wrap (e4 + 1) = e4 + 1 := IntWalk.i64_in _ (by have := HE4.out; omega)
                      obtain ⟨b1, b2⟩ := HE4.out
                      have hw5 : IntKind.i64.wrap (e4 + 1 - -1023) = e4 + 1 + 1023 := by rw [IntWalk.i64_in _ (by omega)]; omega
                      have hw6 : IntKind.i64.wrap (e4 + 1 + 1023) = e4 + 1 + 1023 := IntWalk.i64_in _ (by omega)
                      by_cases ho2 : 2047 ≤ e4 + 1 + 1023
                      · have hov : Hid (PF.ovf = R) := Lib.hid (by rw [if_pos ho2] at hr7; exact hr7)
                        clear hr7
                        go_quiet (fail)
                        go_wp2_with (first | (go_at_call 184; refine (HSL.out _ (DecAt.drew HD3.out _) HT3.out.drw).mono ?_; rintro e1 w9 ⟨rfl, hd9, hb9⟩; have hft9 := HT3.out.keep ((dec_drewN (Below.refl _ _) _).trans hb9) hN; obtain ⟨k1, k2, k3, k4⟩ := hft9.info) | (go_at_call 185; refine (HRI.out _ hd9).mono ?_; rintro e1 w10 ⟨rfl, rfl⟩))
                        go_quiet (fail)
                        go_wp2
                        go_step3
                        exact .inr ⟨rfl, fbJ1_mk _ _ _ rfl hov.out hft9.drw hd9.cells.2.2.1 (dec_drewN ((dec_drewN HB3.out _).trans hb9) _)⟩
                      · have hfin : Hid ((4503599627370496, e4 + 1, false) = R) := Lib.hid (by rw [if_neg ho2] at hr7; unfold PF.fin at hr7; rw [if_neg (by rw [show ((4503599627370496 : Nat) : Int) = 4503599627370496 from rfl, hx]; decide)] at hr7; exact hr7)
                        clear hr7
                        go_quiet (fail)
                        go_wp2_with (first | (go_at_call 184; refine (HSL.out _ (DecAt.drew HD3.out _) HT3.out.drw).mono ?_; rintro e1 w9 ⟨rfl, hd9, hb9⟩; have hft9 := HT3.out.keep ((dec_drewN (Below.refl _ _) _).trans hb9) hN; obtain ⟨k1, k2, k3, k4⟩ := hft9.info) | (go_at_call 185; refine (HRI.out _ hd9).mono ?_; rintro e1 w10 ⟨rfl, rfl⟩))
                        go_quiet (fail)
                        go_wp2
                        go_step3
                        exact .inl ⟨rfl, fbJ0_mk 4503599627370496 _ _ _ rfl hfin.out (by omega) (by omega) (by omega) hft9.drw hd9.cells.2.2.1 (dec_drewN ((dec_drewN HB3.out _).trans hb9) _)⟩
                    · have hr7 := HR6.out
                      unfold PF.g5 at hr7
                      rw [if_neg hbig] at hr7
                      unfold PF.fin at hr7
                      have hmz : ((m : Int) == 9007199254740992) = false := beq_eq_false_iff_ne.2 (by omega)
                      by_cases hbit : bits .and .u64 (m : Int) 4503599627370496 = 0
                      · have hfin : Hid ((m, -1023, false) = R) := Lib.hid (by rw [if_pos hbit] at hr7; exact hr7)
                        have hbt : (bits .and .u64 (m : Int) 4503599627370496 == 0) = true := beq_iff_eq.2 hbit
                        clear hr7 hbig hbit
                        go_quiet (fail)
                        go_wp2_with (first | (go_at_call 184; refine (HSL.out _ (DecAt.drew HD3.out _) HT3.out.drw).mono ?_; rintro e1 w9 ⟨rfl, hd9, hb9⟩; have hft9 := HT3.out.keep ((dec_drewN (Below.refl _ _) _).trans hb9) hN; obtain ⟨k1, k2, k3, k4⟩ := hft9.info) | (go_at_call 185; refine (HRI.out _ hd9).mono ?_; rintro e1 w10 ⟨rfl, rfl⟩))
                        go_step3
                        exact .inl ⟨rfl, fbJ0_mk m _ _ _ rfl hfin.out hri64 (by omega) (by omega) hft9 hd9.cells.2.2.1 ((dec_drewN HB3.out _).trans hb9)⟩
                      · have hfin : Hid ((m, e4, false) = R) := Lib.hid (by rw [if_neg hbit] at hr7; exact hr7)
                        have hbt : (bits .and .u64 (m : Int) 4503599627370496 == 0) = false := beq_eq_false_iff_ne.2 hbit
                        clear hr7 hbig hbit
                        go_quiet (fail)
                        go_wp2_with (first | (go_at_call 184; refine (HSL.out _ (DecAt.drew HD3.out _) HT3.out.drw).mono ?_; rintro e1 w9 ⟨rfl, hd9, hb9⟩; have hft9 := HT3.out.keep ((dec_drewN (Below.refl _ _) _).trans hb9) hN; obtain ⟨k1, k2, k3, k4⟩ := hft9.info) | (go_at_call 185; refine (HRI.out _ hd9).mono ?_; rintro e1 w10 ⟨rfl, rfl⟩))
                        go_step3
                        exact .inl ⟨rfl, fbJ0_mk m _ _ _ rfl hfin.out hri64 (by have := HE4.out; omega) (by have := HE4.out; omega) hft9 hd9.cells.2.2.1 ((dec_drewN HB3.out _).trans hb9)⟩
              · have hr5 : PF.g4 c1 e3 = R := by
                  have h := HR4'.out
                  unfold PF.g3 at h
                  rw [if_neg hlow] at h
                  exact h
                have HR5 := Lib.hid hr5
                have HG3 := hg
                have HDP3 := Lib.hid (show -1000000000 ≤ c1.dp ∧ c1.dp ≤ 1000000000 by have := hdb.out; omega)
                have HE4 := Lib.hid (show -1022 ≤ e3 ∧ e3 ≤ 90000 by have := HE3.out; omega)
                have HT3 := ht
                have HD3 := hd
                have HB3 := hb
                clear hr5 hd hb ht hg hdb HE3
                rcases hor with h | ⟨h, h2⟩
                all_goals
                  -- from here: c1, e3 in world W3
                  obtain ⟨p1, p2, p3, p4⟩ := HT3.out.info
                  have q802 := HD3.out.cells.2.2.1
                  have hw0 : IntKind.i64.wrap (e3 - -1023) = e3 + 1023 := by rw [IntWalk.i64_in _ (by have := HE4.out; omega)]; omega
                  have hw1 : IntKind.i64.wrap (e3 + 1023) = e3 + 1023 := IntWalk.i64_in _ (by have := HE4.out; omega)
                  have hws := wrap64_big e3 (by have := HE4.out; omega)
                  by_cases ho : 2047 ≤ e3 + 1023
                  · have hov : Hid (PF.ovf = R) := Lib.hid (by have h := HR5.out; unfold PF.g4 at h; rw [if_pos ho] at h; exact h)
                    go_wp2
                    go_quiet (fail)
                    go_wp2
                    go_step3
                    exact .inr ⟨rfl, fbJ1_mk _ _ _ rfl hov.out HT3.out.drw q802 (dec_drewN HB3.out _)⟩
                  · have hr6 := HR5.out
                    unfold PF.g4 at hr6
                    rw [if_neg ho] at hr6
                    have hsl := fun W (hW : DcAt b c1 W) (hF : FT N W) => shiftL_row N B b 53 c1 hB (by omega) PF.row_53 HG3.out HDP3.out W hW hF
                    obtain ⟨g9, -⟩ := PF.lsh_good _ c1 (PF.row_ok 53 PF.row_53) HG3.out
                    obtain ⟨c4, hc4⟩ : ∃ c4, PF.lsh (PF.rowOf 53) c1 = c4 := ⟨_, rfl⟩
                    rw [hc4] at hsl hr6 g9
                    have hri := fun W (hW : DcAt b c4 W) => ri_any b c4 g9 W hW
                    have hri64 := ri_le c4
                    obtain ⟨m, hm⟩ : ∃ m, PF.ri c4 = m := ⟨_, rfl⟩
                    rw [hm] at hri hr6 hri64
                    have HSL := Lib.hid hsl
                    have HRI := Lib.hid hri
                    have HR6 := Lib.hid hr6
                    clear hsl hri hr6 hm hc4 g9 q802
                    by_cases hbig : m = 9007199254740992
                    · have hr7 := HR6.out
                      subst hbig
                      unfold PF.g5 at hr7
                      rw [if_pos rfl] at hr7
                      have hx : bits .and .u64 4503599627370496 4503599627370496 = 4503599627370496 := by kernel_rfl
                      have hw4 : IntKind.i64.wrap (e3 + 1) = e3 + 1 := IntWalk.i64_in _ (by have := HE4.out; omega)
                      obtain ⟨b1, b2⟩ := HE4.out
                      have hw5 : IntKind.i64.wrap (e3 + 1 - -1023) = e3 + 1 + 1023 := by rw [IntWalk.i64_in _ (by omega)]; omega
                      have hw6 : IntKind.i64.wrap (e3 + 1 + 1023) = e3 + 1 + 1023 := IntWalk.i64_in _ (by omega)
                      by_cases ho2 : 2047 ≤ e3 + 1 + 1023
                      · have hov : Hid (PF.ovf = R) := Lib.hid (by rw [if_pos ho2] at hr7; exact hr7)
                        clear hr7
                        go_wp2
                        go_quiet (fail)
                        go_wp2_with (first | (go_at_call 184; refine (HSL.out _ (DecAt.drew HD3.out _) HT3.out.drw).mono ?_; rintro e1 w9 ⟨rfl, hd9, hb9⟩; have hft9 := HT3.out.keep ((dec_drewN (Below.refl _ _) _).trans hb9) hN; obtain ⟨k1, k2, k3, k4⟩ := hft9.info) | (go_at_call 185; refine (HRI.out _ hd9).mono ?_; rintro e1 w10 ⟨rfl, rfl⟩))
                        go_quiet (fail)
                        go_wp2
                        go_step3
                        exact .inr ⟨rfl, fbJ1_mk _ _ _ rfl hov.out hft9.drw hd9.cells.2.2.1 (dec_drewN ((dec_drewN HB3.out _).trans hb9) _)⟩
                      · have hfin : Hid ((4503599627370496, e3 + 1, false) = R) := Lib.hid (by rw [if_neg ho2] at hr7; unfold PF.fin at hr7; rw [if_neg (by rw [show ((4503599627370496 : Nat) : Int) = 4503599627370496 from rfl, hx]; decide)] at hr7; exact hr7)
                        clear hr7
                        go_wp2
                        go_quiet (fail)
                        go_wp2_with (first | (go_at_call 184; refine (HSL.out _ (DecAt.drew HD3.out _) HT3.out.drw).mono ?_; rintro e1 w9 ⟨rfl, hd9, hb9⟩; have hft9 := HT3.out.keep ((dec_drewN (Below.refl _ _) _).trans hb9) hN; obtain ⟨k1, k2, k3, k4⟩ := hft9.info) | (go_at_call 185; refine (HRI.out _ hd9).mono ?_; rintro e1 w10 ⟨rfl, rfl⟩))
                        go_quiet (fail)
                        go_wp2
                        go_step3
                        exact .inl ⟨rfl, fbJ0_mk 4503599627370496 _ _ _ rfl hfin.out (by omega) (by omega) (by omega) hft9.drw hd9.cells.2.2.1 (dec_drewN ((dec_drewN HB3.out _).trans hb9) _)⟩
                    · have hr7 := HR6.out
                      unfold PF.g5 at hr7
                      rw [if_neg hbig] at hr7
                      unfold PF.fin at hr7
                      have hmz : ((m : Int) == 9007199254740992) = false := beq_eq_false_iff_ne.2 (by omega)
                      by_cases hbit : bits .and .u64 (m : Int) 4503599627370496 = 0
                      · have hfin : Hid ((m, -1023, false) = R) := Lib.hid (by rw [if_pos hbit] at hr7; exact hr7)
                        have hbt : (bits .and .u64 (m : Int) 4503599627370496 == 0) = true := beq_iff_eq.2 hbit
                        clear hr7 hbig hbit
                        go_wp2
                        go_quiet (fail)
                        go_wp2_with (first | (go_at_call 184; refine (HSL.out _ (DecAt.drew HD3.out _) HT3.out.drw).mono ?_; rintro e1 w9 ⟨rfl, hd9, hb9⟩; have hft9 := HT3.out.keep ((dec_drewN (Below.refl _ _) _).trans hb9) hN; obtain ⟨k1, k2, k3, k4⟩ := hft9.info) | (go_at_call 185; refine (HRI.out _ hd9).mono ?_; rintro e1 w10 ⟨rfl, rfl⟩))
                        go_step3
                        exact .inl ⟨rfl, fbJ0_mk m _ _ _ rfl hfin.out hri64 (by omega) (by omega) hft9 hd9.cells.2.2.1 ((dec_drewN HB3.out _).trans hb9)⟩
                      · have hfin : Hid ((m, e3, false) = R) := Lib.hid (by rw [if_neg hbit] at hr7; exact hr7)
                        have hbt : (bits .and .u64 (m : Int) 4503599627370496 == 0) = false := beq_eq_false_iff_ne.2 hbit
                        clear hr7 hbig hbit
                        go_wp2
                        go_quiet (fail)
                        go_wp2_with (first | (go_at_call 184; refine (HSL.out _ (DecAt.drew HD3.out _) HT3.out.drw).mono ?_; rintro e1 w9 ⟨rfl, hd9, hb9⟩; have hft9 := HT3.out.keep ((dec_drewN (Below.refl _ _) _).trans hb9) hN; obtain ⟨k1, k2, k3, k4⟩ := hft9.info) | (go_at_call 185; refine (HRI.out _ hd9).mono ?_; rintro e1 w10 ⟨rfl, rfl⟩))
                        go_step3
                        exact .inl ⟨rfl, fbJ0_mk m _ _ _ rfl hfin.out hri64 (by have := HE4.out; omega) (by have := HE4.out; omega) hft9 hd9.cells.2.2.1 ((dec_drewN HB3.out _).trans hb9)⟩
end Go.Proofs.YtelphbcdjfdjpaaGreatDoor
