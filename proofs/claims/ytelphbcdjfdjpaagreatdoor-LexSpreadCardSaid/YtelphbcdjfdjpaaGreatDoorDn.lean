/- A number's text becomes the long form: set. Conditions: those that each theorem names. -/
import Derived.Test.YtelphbcdjfdjpaaGreatDoorDm
import Derived.StillTailTactics
namespace Go.Proofs.YtelphbcdjfdjpaaGreatDoor
open Go.RowKit
set_option linter.all false

def setD (D : Nat → Nat) (j : Nat) : Nat → Nat := fun i => if i < j then D i else 0
theorem setD_next (D : Nat → Nat) (j : Nat) : PF.upd (setD D j) j (D j) = setD D (j + 1) := by
  funext i
  unfold PF.upd setD
  by_cases h : i = j
  · subst h
    rw [if_pos rfl, if_pos (by omega)]
  · rw [if_neg h]
    by_cases h2 : i < j
    · rw [if_pos h2, if_pos (by omega)]
    · rw [if_neg h2, if_neg (by omega)]
/-- The long form that a text becomes. -/
def PF.dcOf (n : Nat) (D : Nat → Nat) (ng x : Nat) (E : Nat → Nat) : PF.Dc := ⟨setD D n, n, PF.pw n ng x E, false⟩
def StSt (b : Nat) (D : Nat → Nat) (n i : Nat) (v6 v7 : Value) (w : World) : Prop :=
  (i = 0 ∧ v6 = .bool false ∧ v7 = .bool false ∧ DecAt b (setD D 0) 0 0 false w) ∨
  (i = 1 ∧ v6 = .bool false ∧ v7 = .bool true ∧ DecAt b (setD D 0) 0 (-1) false w) ∨
  ∃ j : Nat, i = j + 2 ∧ j ≤ n ∧ v6 = .bool true ∧ v7 = .bool true ∧ DecAt b (setD D j) (j : Int) 0 false w
theorem dec_drew {B : Nat} {a w : World} (h : Below B a w) : Below B a w.drew := ⟨h.os, h.tape, h.output, h.size, h.block⟩
set_option maxHeartbeats 16000000 in
set_option maxRecDepth 100000 in
theorem set_any (B b : Nat) (hB : B ≤ b) (S : ByteArray) (n : Nat) (D : Nat → Nat) (ng x : Nat) (E : Nat → Nat) (h : NumT S n D ng x E) (w : World) (hm : DecAt b (setD D 0) 0 0 false w) :
    Calls Tryz.prog 164 #[.pointer (some ⟨b, 0, none⟩), .string S] w fun e w' => e = .returned (.bool true) ∧ DcAt b (PF.dcOf n D ng x E) w' ∧ Below B w w' := by
  have HN := Lib.hid h
  have hs := h.size
  have hn1 := h.n1
  have hx1 := h.x1
  have hlow := lower_e
  have hl3 : 0 < S.size := by omega
  obtain ⟨e0, he0⟩ : ∃ e0, S[0]'hl3 = e0 := ⟨_, rfl⟩
  have hv0 : e0.toNat = 48 := by rw [← he0, sb_at S 0 (by omega), h.b0]
  have hl1 : (0 : Int) < (S.size : Int) := by omega
  have hne : ¬ S = ByteArray.empty := fun e => by rw [e] at hl3; exact absurd hl3 (by decide)
  have HS := Lib.hid hs
  obtain ⟨c0, c1, c2, c3, fz, cd⟩ := hm.cells
  have f2 := fz 802
  have f3 := fz 803
  have HM := Lib.hid ((hm.setNeg).setTr false)
  have HB0 := Lib.hid (((Below.refl B w).setCell (p := ⟨b, 802, none⟩) hB (.bool false)).setCell (p := ⟨b, 803, none⟩) hB (.bool false))
  clear h hs hn1 hx1 fz cd hm
  go_enter Tryz.func164, Tryz.ntmps164
  go_wp2
  go_loopg [5, 6, 7] S.size (fun g v5 v6 v7 wr => ∃ (i : Nat), i + g = S.size ∧ i ≤ n + 2 ∧ v5 = .int .i64 (i : Int) ∧ Hid (StSt b D n i v6 v7 wr) ∧ Hid (Below B w wr))
  case atStart => exact ⟨0, by omega, by omega, rfl, Lib.hid (.inl ⟨rfl, rfl, rfl, HM.out⟩), HB0⟩
  case round =>
    clear hv0 he0 hl1 hl3 hne c0 c1 c2 c3 f2 f3 HM HB0
    obtain ⟨i, hig, hin, rfl, hst, hb⟩ := hrel
    have hs := HS.out
    have hx1 := HN.out.x1
    obtain ⟨y, hy⟩ : ∃ y : Int, (i : Int) = y := ⟨_, rfl⟩
    rw [hy]
    obtain ⟨hyl, hyb⟩ := sb_idx S y i hy (by omega)
    obtain ⟨b0, hb0⟩ : ∃ b, S[y.toNat]'hyl = b := ⟨_, rfl⟩
    have hbv := hyb b0 hb0
    have hl0 : 0 ≤ y := by omega
    have hl1 : y < (S.size : Int) := by omega
    obtain ⟨y2, hy2⟩ : ∃ y2 : Int, y + 1 = y2 := ⟨_, rfl⟩
    have g1 : IntKind.i64.wrap (y + 1) = y2 := by rw [IntWalk.i64_in _ (by have := HN.out.n2; omega), hy2]
    have g2 : wrap64 (y + 1) = y2 := by have := HN.out.n2; unfold wrap64; omega
    clear hyb
    rcases hst.out with ⟨rfl, rfl, rfl, hd⟩ | ⟨rfl, rfl, rfl, hd⟩ | ⟨j, rfl, hjn, rfl, rfl, hd⟩
    · rw [HN.out.b0] at hbv
      obtain ⟨c0, c1, c2, c3, fz, cd⟩ := hd.cells
      have f1 := fz 801
      have HD := Lib.hid (hd.setDp (-1))
      have HY2 := Lib.hid (show ((0 + 1 : Nat) : Int) = y2 by omega)
      have HI := Lib.hid (show 1 + (gk - 1) = S.size ∧ gk - 1 < gk by omega)
      clear hy hy2 hig hs hx1 hin hlow hst hd fz cd
      go_wp2
      go_roundg (gk - 1)
      case measure => exact HI.out.2
      case rel => exact ⟨1, HI.out.1, by omega, by rw [← HY2.out], Lib.hid (.inr (.inl ⟨rfl, rfl, rfl, HD.out⟩)), Lib.hid (hb.out.setCell (p := ⟨b, 801, none⟩) hB _)⟩
    · rw [HN.out.b1] at hbv
      obtain ⟨c0, c1, c2, c3, fz, cd⟩ := hd.cells
      have f1 := fz 801
      have HD := Lib.hid (hd.setDp 0)
      have HI := Lib.hid (show 2 + (gk - 1) = S.size ∧ gk - 1 < gk by omega)
      have HY2 := Lib.hid (show ((1 + 1 : Nat) : Int) = y2 by omega)
      clear hy hy2 hig hs hx1 hin hlow hst hd fz cd
      go_wp2
      go_roundg (gk - 1)
      case measure => exact HI.out.2
      case rel => exact ⟨2, HI.out.1, by omega, by rw [← HY2.out], Lib.hid (.inr (.inr ⟨0, rfl, by omega, rfl, rfl, HD.out⟩)), Lib.hid (hb.out.setCell (p := ⟨b, 801, none⟩) hB _)⟩
    · by_cases hj : j < n
      · obtain ⟨hd1, hd2⟩ := HN.out.dg j hj
        rw [show j + 2 = 2 + j by omega, hd1] at hbv
        obtain ⟨d, hdd⟩ : ∃ d, D j = d := ⟨_, rfl⟩
        have hfirst : j = 0 → d ≠ 48 := fun e => by rw [← hdd, e]; exact HN.out.first
        have hdg := hd2
        unfold PF.Dg at hdg
        rw [hdd] at hbv hdg
        obtain ⟨xz, hxz⟩ : ∃ xz : Int, (d : Int) = xz := ⟨_, rfl⟩
        have hbz : (b0.toNat : Int) = xz := by omega
        obtain ⟨jz, hjz⟩ : ∃ jz : Int, (j : Int) = jz := ⟨_, rfl⟩
        obtain ⟨j2, hj2⟩ : ∃ j2 : Int, jz + 1 = j2 := ⟨_, rfl⟩
        have hn2 := HN.out.n2
        have g3 : IntKind.i64.wrap (jz + 1) = j2 := by rw [IntWalk.i64_in _ (by omega), hj2]
        have g4 : wrap64 (jz + 1) = j2 := by unfold wrap64; omega
        have t1 : (xz == 95) = false := beq_eq_false_iff_ne.2 (by omega)
        have t2 : (xz == 46) = false := beq_eq_false_iff_ne.2 (by omega)
        have t3 : 48 ≤ xz := by omega
        have t4 : xz ≤ 57 := by omega
        have t7 : jz < 800 := by omega
        have t8 : 0 ≤ jz := by omega
        have HI := Lib.hid (show j + 1 + 2 + (gk - 1) = S.size ∧ gk - 1 < gk ∧ j + 1 + 2 ≤ n + 2 ∧ j + 1 ≤ n by omega)
        have HY2 := Lib.hid (show ((j + 1 + 2 : Nat) : Int) = y2 by omega)
        have HJ2 := Lib.hid (show ((j + 1 : Nat) : Int) = j2 by omega)
        obtain ⟨c0, c1, c2, c3, fz, cd⟩ := hd.cells
        rw [hjz] at c0
        have hjt : j = jz.toNat := by omega
        have hcq := cd j (by omega)
        rw [hjt] at hcq
        generalize ((setD D jz.toNat) jz.toNat : Int) = dq at hcq
        have f0 := fz 800
        have fj := fz jz.toNat
        have HD := Lib.hid (show ∀ W, DecAt b (setD D j) (j : Int) 0 false W → DecAt b (setD D (j + 1)) ((j + 1 : Nat) : Int) 0 false ((W.setCell ⟨b, jz.toNat, none⟩ (.int .u8 xz)).setCell ⟨b, 800, none⟩ (.int .i64 j2)) from fun W hW => by
          have h := (hW.setD j d (by omega)).setNd j2
          rw [← hdd, setD_next, hdd, hxz, ← HJ2.out] at h
          rw [← hjt, ← HJ2.out]
          exact h)
        have HDC := Lib.hid hd
        have HJT := Lib.hid (show (j : Int) = jz ∧ jz.toNat < 800 ∧ ¬ jz.toNat = 800 by omega)
        by_cases h48 : d = 48
        · have t5 : (xz == 48) = true := beq_iff_eq.2 (by omega)
          have t6 : (jz == 0) = false := beq_eq_false_iff_ne.2 (by intro e; exact hfirst (by omega) h48)
          clear hbv hy hy2 hjz hj2 hig hs hx1 hin hlow hd1 hd2 hdd hfirst hdg hxz h48 hst hd fz cd hn2 hjt hj
          go_wp2
          go_still_tail 11, (by kernel_rfl)
          change wpList _ _ _ _ _ wr.drew
          have hd9 : DecAt b (setD D j) (j : Int) 0 false wr.drew := HDC.out
          have hb9 : Below B w wr.drew := dec_drew hb.out
          clear HDC hb c0 c1 c2 c3 hcq f0 fj
          generalize wr.drew = W1 at hd9 hb9 ⊢
          obtain ⟨c0, c1, c2, c3, fz, cd⟩ := hd9.cells
          have hjt := HJT.out
          rw [hjt.1] at c0
          have hcq := cd jz.toNat hjt.2.1
          generalize ((setD D j) jz.toNat : Int) = dq at hcq
          have f0 := fz 800
          have fj := fz jz.toNat
          have hj8 := hjt.2.2
          have HD9 := Lib.hid (HD.out _ hd9)
          have HB9 := Lib.hid hb9
          have hx5 : (800 : Nat) = jz.toNat ↔ False := ⟨fun e => hj8 e.symm, fun h => h.elim⟩
          clear hd9 hb9 fz cd hjt
          go_wp2
          go_roundg (gk - 1)
          case measure => exact HI.out.2.1
          case rel => exact ⟨j + 1 + 2, HI.out.1, HI.out.2.2.1, by rw [HY2.out], Lib.hid (.inr (.inr ⟨j + 1, rfl, HI.out.2.2.2, rfl, rfl, HD9.out⟩)), Lib.hid ((HB9.out.setCell (p := ⟨b, jz.toNat, none⟩) hB _).setCell (p := ⟨b, 800, none⟩) hB _)⟩
        · have t5 : (xz == 48) = false := beq_eq_false_iff_ne.2 (by omega)
          clear hbv hy hy2 hjz hj2 hig hs hx1 hin hlow hd1 hd2 hdd hfirst hdg hxz h48 hst hd fz cd hn2 hjt hj
          go_wp2
          go_still_tail 11, (by kernel_rfl)
          change wpList _ _ _ _ _ wr.drew
          have hd9 : DecAt b (setD D j) (j : Int) 0 false wr.drew := HDC.out
          have hb9 : Below B w wr.drew := dec_drew hb.out
          clear HDC hb c0 c1 c2 c3 hcq f0 fj
          generalize wr.drew = W1 at hd9 hb9 ⊢
          obtain ⟨c0, c1, c2, c3, fz, cd⟩ := hd9.cells
          have hjt := HJT.out
          rw [hjt.1] at c0
          have hcq := cd jz.toNat hjt.2.1
          generalize ((setD D j) jz.toNat : Int) = dq at hcq
          have f0 := fz 800
          have fj := fz jz.toNat
          have hj8 := hjt.2.2
          have HD9 := Lib.hid (HD.out _ hd9)
          have HB9 := Lib.hid hb9
          have hx5 : (800 : Nat) = jz.toNat ↔ False := ⟨fun e => hj8 e.symm, fun h => h.elim⟩
          clear hd9 hb9 fz cd hjt
          go_wp2
          go_roundg (gk - 1)
          case measure => exact HI.out.2.1
          case rel => exact ⟨j + 1 + 2, HI.out.1, HI.out.2.2.1, by rw [HY2.out], Lib.hid (.inr (.inr ⟨j + 1, rfl, HI.out.2.2.2, rfl, rfl, HD9.out⟩)), Lib.hid ((HB9.out.setCell (p := ⟨b, jz.toNat, none⟩) hB _).setCell (p := ⟨b, 800, none⟩) hB _)⟩
      · have hjn2 : j = n := by omega
        subst hjn2
        rw [show j + 2 = 2 + j by omega, HN.out.be] at hbv
        have hx2 := HN.out.x2
        have hn2 := HN.out.n2
        have hng1 := HN.out.ng1
        obtain ⟨hyl2, hyb2⟩ := sb_idx S y2 (3 + j) (by omega) (by omega)
        obtain ⟨b2, hb2⟩ : ∃ b2, S[y2.toNat]'hyl2 = b2 := ⟨_, rfl⟩
        have hbv2 := hyb2 b2 hb2
        have hl2 : 0 ≤ y2 := by omega
        have hl3 : y2 < (S.size : Int) := by omega
        have hl4 : ¬ (S.size : Int) ≤ y2 := by omega
        have HD := Lib.hid hd
        by_cases hn0 : ng = 0
        · have hdg := (HN.out.ex 0 hx1)
          unfold PF.Dg at hdg
          rw [hn0] at hdg
          simp only [Nat.add_zero] at hdg
          rw [hdg.1] at hbv2
          obtain ⟨xz, hxz⟩ : ∃ xz : Int, (E 0 : Int) = xz := ⟨_, rfl⟩
          have hbz : (b2.toNat : Int) = xz := by omega
          have v1 : (xz == 43) = false := beq_eq_false_iff_ne.2 (by omega)
          have v2 : (xz == 45) = false := beq_eq_false_iff_ne.2 (by omega)
          have v3 : ¬ xz < 48 := by omega
          have v4 : ¬ 57 < xz := by omega
          have HY3 := Lib.hid (show ((3 + j + ng + 0 : Nat) : Int) = y2 by omega)
          clear hbv2 hy hy2 hig hs hx1 hin hjn hx2 hn2 hng1 hyb2 hdg hxz hj hst hd
          go_wp2_with (go_at_call 128; refine (hlow _).mono ?_; rintro e1 w9 ⟨rfl, rfl⟩)
          go_loopg [5, 9] x (fun g v5 v9 wr => ∃ F k : Nat, F = g ∧ k + F = x ∧ v5 = .int .i64 ((3 + j + ng + k : Nat) : Int) ∧ v9 = .int .i64 (PF.ev E k : Int) ∧ Hid (DecAt b (setD D j) (j : Int) 0 false wr) ∧ Hid (Below B w wr))
          case atStart => exact ⟨x, 0, rfl, by omega, by rw [HY3.out], rfl, HD, hb⟩
          case round =>
            clear HD hb hbv hbz v1 v2 v3 v4 hl0 hl1 g1 g2 hl2 hl3 hl4 HY3 hlow
            obtain ⟨F, k, hFg, hkF, rfl, rfl, HD, hb⟩ := hrel
            obtain ⟨y4, hy4⟩ : ∃ y4 : Int, ((3 + j + ng + k : Nat) : Int) = y4 := ⟨_, rfl⟩
            rw [hy4]
            have hs := HS.out
            have hx2 := HN.out.x2
            have hn2 := HN.out.n2
            have hng1 := HN.out.ng1
            have hevl := PF.ev_le E x (fun i hi => (HN.out.ex i hi).2) k (by omega)
            by_cases hk : k < x
            · obtain ⟨hd1, hd2⟩ := HN.out.ex k hk
              obtain ⟨hyl4, hyb4⟩ := sb_idx S y4 (3 + j + ng + k) hy4 (by omega)
              obtain ⟨b4, hb4⟩ : ∃ b4, S[y4.toNat]'hyl4 = b4 := ⟨_, rfl⟩
              have hbv4 := hyb4 b4 hb4
              rw [hd1] at hbv4
              obtain ⟨d, hd⟩ : ∃ d, E k = d := ⟨_, rfl⟩
              unfold PF.Dg at hd2
              rw [hd] at hbv4 hd2
              obtain ⟨xz, hxz⟩ : ∃ xz : Int, (d : Int) = xz := ⟨_, rfl⟩
              have hbz : (b4.toNat : Int) = xz := by omega
              have u1 : (xz == 95) = false := beq_eq_false_iff_ne.2 (by omega)
              have u2 : 48 ≤ xz := by omega
              have u3 : xz ≤ 57 := by omega
              have u4 : 0 ≤ y4 := by omega
              have u5 : y4 < (S.size : Int) := by omega
              obtain ⟨y5, hy5⟩ : ∃ y5 : Int, y4 + 1 = y5 := ⟨_, rfl⟩
              have u6 : IntKind.i64.wrap (y4 + 1) = y5 := by rw [IntWalk.i64_in _ (by omega), hy5]
              have u7 : wrap64 (y4 + 1) = y5 := by unfold wrap64; omega
              have HI := Lib.hid (show k + 1 + (F - 1) = x ∧ F - 1 < F ∧ F = gk by omega)
              have HY5 := Lib.hid (show ((3 + j + ng + (k + 1) : Nat) : Int) = y5 by omega)
              have hev : PF.ev E (k + 1) = if PF.ev E k < 10000 then PF.ev E k * 10 + (d - 48) else PF.ev E k := by show (if PF.ev E k < 10000 then PF.ev E k * 10 + (E k - 48) else PF.ev E k) = _; rw [hd]
              obtain ⟨e, he⟩ : ∃ e, PF.ev E k = e := ⟨_, rfl⟩
              rw [he] at hev hevl ⊢
              obtain ⟨ez, hez⟩ : ∃ ez : Int, (e : Int) = ez := ⟨_, rfl⟩
              rw [hez]
              by_cases h4 : e < 10000
              · rw [if_pos h4] at hev
                have u8 : ez < 10000 := by omega
                obtain ⟨e2, he2⟩ : ∃ e2, e * 10 + (d - 48) = e2 := ⟨_, rfl⟩
                rw [he2] at hev
                obtain ⟨z1, hz1⟩ : ∃ z1 : Int, ez * 10 = z1 := ⟨_, rfl⟩
                obtain ⟨z2, hz2⟩ : ∃ z2 : Int, z1 + xz = z2 := ⟨_, rfl⟩
                have p1 : IntKind.i64.wrap (ez * 10) = z1 := by rw [IntWalk.i64_in _ (by omega), hz1]
                have p2 : IntKind.i64.wrap xz = xz := IntWalk.i64_in _ (by omega)
                have p3 : IntKind.i64.wrap (z1 + xz) = z2 := by rw [IntWalk.i64_in _ (by omega), hz2]
                have p4 : IntKind.i64.wrap (z2 - 48) = (e2 : Int) := by rw [IntWalk.i64_in _ (by omega)]; omega
                have q1 : wrap64 (ez * 10) = z1 := by unfold wrap64; omega
                have q2 : wrap64 xz = xz := by unfold wrap64; omega
                have q3 : wrap64 (z1 + xz) = z2 := by unfold wrap64; omega
                have q4 : wrap64 (z2 - 48) = (e2 : Int) := by unfold wrap64; omega
                have HEV := Lib.hid hev
                clear hFg hkF hy4 hs hx2 hn2 hng1 hevl hk hd1 hd2 hyb4 hbv4 hd hxz hy5 hev he hez h4 he2 hz1 hz2
                go_wp2
                go_roundg (F - 1)
                case measure => have := HI.out; omega
                case rel => exact ⟨F - 1, k + 1, rfl, HI.out.1, by rw [HY5.out], by rw [HEV.out], HD, hb⟩
              · rw [if_neg h4] at hev
                have u8 : ¬ ez < 10000 := by omega
                have HEV := Lib.hid hev
                have HEZ := Lib.hid hez
                clear hFg hkF hy4 hs hx2 hn2 hng1 hevl hk hd1 hd2 hyb4 hbv4 hd hxz hy5 hev he hez h4
                go_wp2
                go_roundg (F - 1)
                case measure => have := HI.out; omega
                case rel => exact ⟨F - 1, k + 1, rfl, HI.out.1, by rw [HY5.out], by rw [HEV.out, HEZ.out], HD, hb⟩
            · have hkx : k = x := by omega
              subst hkx
              have u5 : ¬ y4 < (S.size : Int) := by omega
              have hye : (y4 != (S.size : Int)) = false := by rw [bne_eq_false_iff_eq]; omega
              obtain ⟨e, he⟩ : ∃ e, PF.ev E k = e := ⟨_, rfl⟩
              rw [he] at hevl ⊢
              obtain ⟨ez, hez⟩ : ∃ ez : Int, (e : Int) = ez := ⟨_, rfl⟩
              rw [hez]
              obtain ⟨nez, hnez⟩ : ∃ nez : Int, -ez = nez := ⟨_, rfl⟩
              have p1 : IntKind.i64.wrap ez = ez := IntWalk.i64_in _ (by omega)
              have p2 : IntKind.i64.wrap (-ez) = nez := by rw [IntWalk.i64_in _ (by omega), hnez]
              have p3 : IntKind.i64.wrap nez = nez := IntWalk.i64_in _ (by omega)
              have q1 : wrap64 ez = ez := by unfold wrap64; omega
              have q2 : wrap64 (-ez) = nez := by unfold wrap64; omega
              have q3 : wrap64 nez = nez := by unfold wrap64; omega
              have hpw : Hid (PF.pw j ng k E = ez) := Lib.hid (by
                unfold PF.pw
                rw [he, hez]
                rw [if_neg (by omega)])
              obtain ⟨c0, c1, c2, c3, fz, cd⟩ := HD.out.cells
              have f1 := fz 801
              clear hFg hkF hy4 hs hx2 hn2 hng1 hevl hk he hez hnez fz cd c0 c2 c3
              go_wp2
              go_ret
              refine ⟨rfl, ?_, hb.out.setCell (p := ⟨b, 801, none⟩) hB _⟩
              unfold DcAt PF.dcOf
              simp only
              have hp := hpw.out
              (try rw [hn0] at hp)
              (try rw [hng] at hp)
              rw [hp]
              exact HD.out.setDp _
        · have hng : ng = 1 := by omega
          rw [HN.out.bs hng] at hbv2
          obtain ⟨y3, hy3⟩ : ∃ y3 : Int, y2 + 1 = y3 := ⟨_, rfl⟩
          have g5 : IntKind.i64.wrap (y2 + 1) = y3 := by rw [IntWalk.i64_in _ (by omega), hy3]
          have g6 : wrap64 (y2 + 1) = y3 := by unfold wrap64; omega
          obtain ⟨hyl3, hyb3⟩ := sb_idx S y3 (3 + j + ng + 0) (by omega) (by omega)
          obtain ⟨b3, hb3⟩ : ∃ b3, S[y3.toNat]'hyl3 = b3 := ⟨_, rfl⟩
          have hbv3 := hyb3 b3 hb3
          have hdg := HN.out.ex 0 hx1
          unfold PF.Dg at hdg
          rw [hdg.1] at hbv3
          obtain ⟨xz, hxz⟩ : ∃ xz : Int, (E 0 : Int) = xz := ⟨_, rfl⟩
          have hbz : (b3.toNat : Int) = xz := by omega
          have v3 : ¬ xz < 48 := by omega
          have v4 : ¬ 57 < xz := by omega
          have hm2 : 0 ≤ y3 := by omega
          have hm3 : y3 < (S.size : Int) := by omega
          have hm4 : ¬ (S.size : Int) ≤ y3 := by omega
          have HY3 := Lib.hid (show ((3 + j + ng + 0 : Nat) : Int) = y3 by omega)
          clear hbv3 hy hy2 hig hs hx1 hin hjn hx2 hn2 hng1 hyb2 hyb3 hdg hxz hj hy3 hst hd
          go_wp2_with (go_at_call 128; refine (hlow _).mono ?_; rintro e1 w9 ⟨rfl, rfl⟩)
          go_loopg [5, 9] x (fun g v5 v9 wr => ∃ F k : Nat, F = g ∧ k + F = x ∧ v5 = .int .i64 ((3 + j + ng + k : Nat) : Int) ∧ v9 = .int .i64 (PF.ev E k : Int) ∧ Hid (DecAt b (setD D j) (j : Int) 0 false wr) ∧ Hid (Below B w wr))
          case atStart => exact ⟨x, 0, rfl, by omega, by rw [HY3.out], rfl, HD, hb⟩
          case round =>
            clear HD hb hbv hbz hbv2 v3 v4 hl0 hl1 g1 g2 g5 g6 hl2 hl3 hl4 hm2 hm3 hm4 HY3 hlow
            obtain ⟨F, k, hFg, hkF, rfl, rfl, HD, hb⟩ := hrel
            obtain ⟨y4, hy4⟩ : ∃ y4 : Int, ((3 + j + ng + k : Nat) : Int) = y4 := ⟨_, rfl⟩
            rw [hy4]
            have hs := HS.out
            have hx2 := HN.out.x2
            have hn2 := HN.out.n2
            have hng1 := HN.out.ng1
            have hevl := PF.ev_le E x (fun i hi => (HN.out.ex i hi).2) k (by omega)
            by_cases hk : k < x
            · obtain ⟨hd1, hd2⟩ := HN.out.ex k hk
              obtain ⟨hyl4, hyb4⟩ := sb_idx S y4 (3 + j + ng + k) hy4 (by omega)
              obtain ⟨b4, hb4⟩ : ∃ b4, S[y4.toNat]'hyl4 = b4 := ⟨_, rfl⟩
              have hbv4 := hyb4 b4 hb4
              rw [hd1] at hbv4
              obtain ⟨d, hd⟩ : ∃ d, E k = d := ⟨_, rfl⟩
              unfold PF.Dg at hd2
              rw [hd] at hbv4 hd2
              obtain ⟨xz, hxz⟩ : ∃ xz : Int, (d : Int) = xz := ⟨_, rfl⟩
              have hbz : (b4.toNat : Int) = xz := by omega
              have u1 : (xz == 95) = false := beq_eq_false_iff_ne.2 (by omega)
              have u2 : 48 ≤ xz := by omega
              have u3 : xz ≤ 57 := by omega
              have u4 : 0 ≤ y4 := by omega
              have u5 : y4 < (S.size : Int) := by omega
              obtain ⟨y5, hy5⟩ : ∃ y5 : Int, y4 + 1 = y5 := ⟨_, rfl⟩
              have u6 : IntKind.i64.wrap (y4 + 1) = y5 := by rw [IntWalk.i64_in _ (by omega), hy5]
              have u7 : wrap64 (y4 + 1) = y5 := by unfold wrap64; omega
              have HI := Lib.hid (show k + 1 + (F - 1) = x ∧ F - 1 < F ∧ F = gk by omega)
              have HY5 := Lib.hid (show ((3 + j + ng + (k + 1) : Nat) : Int) = y5 by omega)
              have hev : PF.ev E (k + 1) = if PF.ev E k < 10000 then PF.ev E k * 10 + (d - 48) else PF.ev E k := by show (if PF.ev E k < 10000 then PF.ev E k * 10 + (E k - 48) else PF.ev E k) = _; rw [hd]
              obtain ⟨e, he⟩ : ∃ e, PF.ev E k = e := ⟨_, rfl⟩
              rw [he] at hev hevl ⊢
              obtain ⟨ez, hez⟩ : ∃ ez : Int, (e : Int) = ez := ⟨_, rfl⟩
              rw [hez]
              by_cases h4 : e < 10000
              · rw [if_pos h4] at hev
                have u8 : ez < 10000 := by omega
                obtain ⟨e2, he2⟩ : ∃ e2, e * 10 + (d - 48) = e2 := ⟨_, rfl⟩
                rw [he2] at hev
                obtain ⟨z1, hz1⟩ : ∃ z1 : Int, ez * 10 = z1 := ⟨_, rfl⟩
                obtain ⟨z2, hz2⟩ : ∃ z2 : Int, z1 + xz = z2 := ⟨_, rfl⟩
                have p1 : IntKind.i64.wrap (ez * 10) = z1 := by rw [IntWalk.i64_in _ (by omega), hz1]
                have p2 : IntKind.i64.wrap xz = xz := IntWalk.i64_in _ (by omega)
                have p3 : IntKind.i64.wrap (z1 + xz) = z2 := by rw [IntWalk.i64_in _ (by omega), hz2]
                have p4 : IntKind.i64.wrap (z2 - 48) = (e2 : Int) := by rw [IntWalk.i64_in _ (by omega)]; omega
                have q1 : wrap64 (ez * 10) = z1 := by unfold wrap64; omega
                have q2 : wrap64 xz = xz := by unfold wrap64; omega
                have q3 : wrap64 (z1 + xz) = z2 := by unfold wrap64; omega
                have q4 : wrap64 (z2 - 48) = (e2 : Int) := by unfold wrap64; omega
                have HEV := Lib.hid hev
                clear hFg hkF hy4 hs hx2 hn2 hng1 hevl hk hd1 hd2 hyb4 hbv4 hd hxz hy5 hev he hez h4 he2 hz1 hz2
                go_wp2
                go_roundg (F - 1)
                case measure => have := HI.out; omega
                case rel => exact ⟨F - 1, k + 1, rfl, HI.out.1, by rw [HY5.out], by rw [HEV.out], HD, hb⟩
              · rw [if_neg h4] at hev
                have u8 : ¬ ez < 10000 := by omega
                have HEV := Lib.hid hev
                have HEZ := Lib.hid hez
                clear hFg hkF hy4 hs hx2 hn2 hng1 hevl hk hd1 hd2 hyb4 hbv4 hd hxz hy5 hev he hez h4
                go_wp2
                go_roundg (F - 1)
                case measure => have := HI.out; omega
                case rel => exact ⟨F - 1, k + 1, rfl, HI.out.1, by rw [HY5.out], by rw [HEV.out, HEZ.out], HD, hb⟩
            · have hkx : k = x := by omega
              subst hkx
              have u5 : ¬ y4 < (S.size : Int) := by omega
              have hye : (y4 != (S.size : Int)) = false := by rw [bne_eq_false_iff_eq]; omega
              obtain ⟨e, he⟩ : ∃ e, PF.ev E k = e := ⟨_, rfl⟩
              rw [he] at hevl ⊢
              obtain ⟨ez, hez⟩ : ∃ ez : Int, (e : Int) = ez := ⟨_, rfl⟩
              rw [hez]
              obtain ⟨nez, hnez⟩ : ∃ nez : Int, -ez = nez := ⟨_, rfl⟩
              have p1 : IntKind.i64.wrap ez = ez := IntWalk.i64_in _ (by omega)
              have p2 : IntKind.i64.wrap (-ez) = nez := by rw [IntWalk.i64_in _ (by omega), hnez]
              have p3 : IntKind.i64.wrap nez = nez := IntWalk.i64_in _ (by omega)
              have q1 : wrap64 ez = ez := by unfold wrap64; omega
              have q2 : wrap64 (-ez) = nez := by unfold wrap64; omega
              have q3 : wrap64 nez = nez := by unfold wrap64; omega
              have hpw : Hid (PF.pw j ng k E = nez) := Lib.hid (by
                unfold PF.pw
                rw [he, hez]
                rw [if_pos hng]; exact hnez)
              obtain ⟨c0, c1, c2, c3, fz, cd⟩ := HD.out.cells
              have f1 := fz 801
              clear hFg hkF hy4 hs hx2 hn2 hng1 hevl hk he hez hnez fz cd c0 c2 c3
              go_wp2
              go_ret
              refine ⟨rfl, ?_, hb.out.setCell (p := ⟨b, 801, none⟩) hB _⟩
              unfold DcAt PF.dcOf
              simp only
              have hp := hpw.out
              (try rw [hn0] at hp)
              (try rw [hng] at hp)
              rw [hp]
              exact HD.out.setDp _
end Go.Proofs.YtelphbcdjfdjpaaGreatDoor
