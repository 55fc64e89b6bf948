/- A shift to the left of the long form. Conditions: those that each theorem names. -/
import Derived.Test.YtelphbcdjfdjpaaGreatDoorZ5
namespace Go.Proofs.YtelphbcdjfdjpaaGreatDoor
open Go.RowKit
set_option linter.all false

/-- The cheat's row in memory. -/
structure CheatAt (k δ : Nat) (S : ByteArray) (w : World) : Prop where
  at_ : ∃ g off len cap : Nat, w.cell? ⟨18, 0, none⟩ = some (.slice (some ⟨g, off, none⟩) len cap) ∧ k < len ∧ w.cell? ⟨g, off + k * 2, none⟩ = some (.int .i64 (δ : Int)) ∧ w.cell? ⟨g, off + k * 2 + 1, none⟩ = some (.string S)
theorem ls2_succ (w : Nat) (D : Nat → Nat) (n : Nat) (t : Bool) : PF.ls2 (w + 1) D n t = if n = 0 then (D, t) else if w < 800 then PF.ls2 w (PF.upd D w (n % 10 + 48)) (n / 10) t else PF.ls2 w D (n / 10) (t || n % 10 != 0) := rfl
set_option maxHeartbeats 8000000 in
theorem lsh_any (B b k δ : Nat) (S : ByteArray) (c : PF.Dc) (hB : B ≤ b) (hk : k ≤ 60) (hr : PF.RowOk ⟨k, δ, sb S, S.size⟩) (hc : PF.Good c) (hdp : -1000000000 ≤ c.dp ∧ c.dp ≤ 1000000000) (w : World) (h : DecAt b c.D c.nd c.dp c.tr w) (hT : CheatAt k δ S w) :
    Calls Tryz.prog 190 #[.pointer (some ⟨b, 0, none⟩), .int .u64 (k : Int)] w fun e w' => e = .returned (.tuple #[]) ∧ DecAt b (PF.lsh ⟨k, δ, sb S, S.size⟩ c).D (PF.lsh ⟨k, δ, sb S, S.size⟩ c).nd (PF.lsh ⟨k, δ, sb S, S.size⟩ c).dp (PF.lsh ⟨k, δ, sb S, S.size⟩ c).tr w' ∧ Below B w w' := by
  obtain ⟨c0, c1, c2, c3, fz, cd⟩ := h.cells
  obtain ⟨g, off, len, cap, t0, hlen, t1, t2⟩ := hT.at_
  have hpil := pil_any b c.D c.nd c.dp c.tr S c.nd hc.top (by have := hr.len; have := hr.k1; show S.size ≤ 800; have h2 : S.size + δ = k + 1 := hr.len; omega)
  obtain ⟨kk, hkk⟩ : ∃ kk : Int, (k : Int) = kk := ⟨_, rfl⟩
  rw [hkk]
  have hk0 : 0 ≤ kk := by omega
  have hk1 : kk < (len : Int) := by omega
  have hkt : k = kk.toNat := by omega
  rw [hkt] at t1 t2
  obtain ⟨L, hL⟩ : ∃ L, PF.lsh ⟨k, δ, sb S, S.size⟩ c = L := ⟨_, rfl⟩
  rw [hL]
  obtain ⟨e, hE⟩ : ∃ e, PF.newDigits ⟨k, δ, sb S, S.size⟩ c = e := ⟨_, rfl⟩
  have hL2 : PF.lshOf k e c = L := by rw [← hL, ← hE]; rfl
  have hd1 := hr.d1
  have hd2 := hr.d2
  obtain ⟨hb1, hb2⟩ := PF.left_n _ c hr hc
  rw [hE] at hb1 hb2
  simp only at hb1 hb2 hd1 hd2
  rw [← hb1] at hb2
  unfold PF.newDigits at hE
  simp only at hE
  obtain ⟨Q, hQ⟩ : ∃ Q, PF.pil c.D (sb S) c.nd S.size 0 = Q := ⟨_, rfl⟩
  rw [hQ] at hE hpil
  have hpq := fun n => hpil (w.drewN n) (h.drew n)
  have H := Lib.hid h
  have HL := Lib.hid hL2
  have HB := Lib.hid hb2
  have HC := Lib.hid hc
  obtain ⟨nz, hnz⟩ : ∃ nz : Int, (c.nd : Int) = nz := ⟨_, rfl⟩
  have HNZ := Lib.hid hnz
  obtain ⟨ez, hez⟩ : ∃ ez : Int, (e : Int) = ez := ⟨_, rfl⟩
  have HEZ := Lib.hid hez
  have htop := hc.top
  have hn8 : (c.nd : Int) ≤ 800 := by omega
  obtain ⟨qz, hqz⟩ : ∃ qz : Int, nz + ez = qz := ⟨_, rfl⟩
  have hw1 : IntKind.i64.wrap (nz + ez) = qz := by rw [IntWalk.i64_in _ (by split at hE <;> omega), hqz]
  have hv1 : wrap64 (nz + ez) = qz := by unfold wrap64; split at hE <;> omega
  have hv2 : wrap64 qz = qz := by unfold wrap64; split at hE <;> omega
  have HQZ := Lib.hid hqz
  have he19 : e ≤ 19 := by split at hE <;> omega
  have hw2 : IntKind.i64.wrap (nz - 1) = nz - 1 := IntWalk.i64_in _ (by omega)
  clear h fz cd c1 c2 c3 hL hL2 hQ hT hpil hb1 hb2 hkt
  obtain ⟨R, hR⟩ : ∃ R, PF.ls1 k e c.nd c.D 0 c.tr = R := ⟨_, rfl⟩
  have HR := Lib.hid hR
  clear hR
  have c0z : w.cell? ⟨b, 800, none⟩ = some (.int .i64 nz) := by rw [c0, hnz]
  have C0Z := Lib.hid c0z
  clear hnz c0z hqz
  cases Q
  case' false =>
    have hee : δ = e := by simpa using hE
    rw [hee, hez] at t1
    clear hE hd1 hd2 hez
    go_enter Tryz.func190, Tryz.ntmps190
    go_wp2
    go_quiet ((go_at_call 193; exact Calls.quiet_of (hpq _)))
    have c0 := C0Z.out
    go_wp2
  case' true =>
    have hee : e + 1 = δ := by rw [if_pos rfl] at hE; omega
    obtain ⟨dd, hdd⟩ : ∃ dd : Int, (δ : Int) = dd := ⟨_, rfl⟩
    rw [hdd] at t1
    have hwq : IntKind.i64.wrap (dd - 1) = ez := by rw [IntWalk.i64_in _ (by omega)]; omega
    clear hE hd1 hd2 hez hee hdd
    go_enter Tryz.func190, Tryz.ntmps190
    go_wp2
    go_quiet ((go_at_call 193; exact Calls.quiet_of (hpq _)))
    have c0 := C0Z.out
    go_wp2
  all_goals
    go_loopg [5, 6, 7, 8, 9] c.nd (fun g v5 v6 v7 v8 v9 wr => ∃ (F n : Nat) (D : Nat → Nat) (t : Bool), F = g ∧ v5 = .int .i64 ((F : Int) - 1) ∧ v6 = .int .i64 ((F : Int) + ez) ∧ v7 = .int .u64 (n : Int) ∧ n < 2 ^ k ∧ F ≤ c.nd ∧ (∀ i, i < F → PF.Dg (D i)) ∧ Hid (PF.ls1 k e F D n t = R) ∧ Hid (DecAt b D nz c.dp t wr) ∧ Hid (Below B w wr))
    case atStart =>
      refine ⟨c.nd, 0, c.D, c.tr, rfl, by rw [HNZ.out], by rw [HNZ.out, HQZ.out]; exact congrArg (Value.int IntKind.i64) hv2, rfl, Nat.pow_pos (by omega), Nat.le_refl _, HC.out.dg, HR, Lib.hid ?_, Lib.hid (dec_drewN (Below.refl _ _) _)⟩
      have h := H.out
      rw [HNZ.out] at h
      exact h
    case round =>
      obtain ⟨F, n, D, t, hFg, rfl, rfl, rfl, hn, hF, hD, hr1, hd, hb⟩ := hrel
      obtain ⟨y, hy⟩ : ∃ y : Int, (F : Int) - 1 = y := ⟨_, rfl⟩
      obtain ⟨q, hq⟩ : ∃ q : Int, (F : Int) + ez = q := ⟨_, rfl⟩
      rw [hy, hq]
      have hez := HEZ.out
      by_cases hF0 : F = 0
      · have ht : ¬ 0 ≤ y := by omega
        have hqe : q = ez := by omega
        subst hF0
        have hR1 : Hid ((D, n, t) = R) := hr1
        have HQE := Lib.hid hqe
        have HN := Lib.hid hn
        clear hy hq hD hF hFg hr1 hqe hez hn
        go_wp2
        go_loopg [6, 7, 10, 11] e (fun g v6 v7 v10 v11 wr2 => ∃ (F n : Nat) (D : Nat → Nat) (t : Bool), F = g ∧ v6 = .int .i64 (F : Int) ∧ v7 = .int .u64 (n : Int) ∧ n < 10 ^ F ∧ n ≤ 18446744073709551615 ∧ F ≤ 19 ∧ Hid (PF.ls2 F D n t = PF.ls2 e R.1 R.2.1 R.2.2) ∧ Hid (DecAt b D nz c.dp t wr2) ∧ Hid (Below B w wr2))
        case atStart =>
          refine ⟨e, n, D, t, rfl, by rw [HQE.out, HEZ.out], rfl, ?_, ?_, he19, Lib.hid (by rw [← hR1.out]), hd, hb⟩
          · have h := HB.out
            rw [HR.out, ← hR1.out] at h
            rcases h with ⟨h1, h2⟩ | ⟨h1, h2, h3⟩
            · show n < _; rw [show n = 0 from h2]; exact Nat.pow_pos (by omega)
            · exact h3
          · have h := HN.out
            have h2 := Nat.pow_le_pow_right (by omega : 1 ≤ 2) hk
            simp at h2
            omega
        case round =>
          obtain ⟨F, n, D, t, hFg, rfl, rfl, hn, hn2, hF, hr1, hd, hb⟩ := hrel
          obtain ⟨z, hz⟩ : ∃ z : Int, (n : Int) = z := ⟨_, rfl⟩
          rw [hz]
          obtain ⟨q, hq⟩ : ∃ q : Int, (F : Int) = q := ⟨_, rfl⟩
          rw [hq]
          by_cases hn0 : n = 0
          · have ht : ¬ 0 < z := by omega
            have hend : Hid ((D, t) = PF.ls2 e R.1 R.2.1 R.2.2) := Lib.hid (by
              rw [← hr1.out, hn0]
              cases F with
              | zero => rfl
              | succ F => unfold PF.ls2; rw [if_pos rfl])
            obtain ⟨c0, c1, c2, c3, fz, cd⟩ := hd.out.cells
            have f0 := fz 800
            have f1 := fz 801
            obtain ⟨dz, hdz⟩ : ∃ dz : Int, c.dp + ez = dz := ⟨_, rfl⟩
            have hez := HEZ.out
            have hw3 : IntKind.i64.wrap (c.dp + ez) = dz := by rw [IntWalk.i64_in _ (by omega), hdz]
            obtain ⟨nd2, hnd2⟩ : ∃ nd2, min (c.nd + e) 800 = nd2 := ⟨_, rfl⟩
            have htr := fun W (hW : DecAt b D (nd2 : Int) dz t W) => trim_any B b D nd2 dz t hB (by omega) W hW
            obtain ⟨Z, hZ⟩ : ∃ Z, (if PF.trimN D nd2 = 0 then 0 else dz) = Z := ⟨_, rfl⟩
            obtain ⟨Y, hY⟩ : ∃ Y, PF.trimN D nd2 = Y := ⟨_, rfl⟩
            rw [hZ, hY] at htr
            have hfin : Hid (L.D = D ∧ L.nd = Y ∧ L.dp = Z ∧ L.tr = t) := Lib.hid (by
              rw [← HL.out]
              unfold PF.lshOf
              rw [HR.out, ← hend.out, ← hZ, ← hY, ← hdz, ← hez, ← hnd2]
              exact ⟨rfl, rfl, rfl, rfl⟩)
            have HTR := Lib.hid htr
            have hnz := HNZ.out
            have hqz := HQZ.out
            by_cases h8 : 800 ≤ qz
            · have hn8 : (nd2 : Int) = 800 := by omega
              have hd2 : ∀ W, DecAt b D nz c.dp t W → DecAt b D (nd2 : Int) dz t (((W.setCell ⟨b, 800, none⟩ (.int .i64 qz)).setCell ⟨b, 800, none⟩ (.int .i64 800)).setCell ⟨b, 801, none⟩ (.int .i64 dz)) := fun W h => by rw [hn8]; exact ((h.setNd qz).setNd 800).setDp dz
              have HD2 := Lib.hid hd2
              clear hz hq hn0 hr1 hF hn hn2 fz cd hFg hez hdz hnd2 hZ hY htr hnz hqz hd2 hn8
              go_wp2_with (go_at_call 194; refine (HTR.out _ (HD2.out _ hd.out)).mono ?_; rintro e1 w9 ⟨rfl, hd9, hb9⟩)
              go_end0
              refine ⟨rfl, ?_, (((hb.out.setCell (p := ⟨b, 800, none⟩) hB _).setCell (p := ⟨b, 800, none⟩) hB _).setCell (p := ⟨b, 801, none⟩) hB _).trans hb9⟩
              rw [hfin.out.1, hfin.out.2.1, hfin.out.2.2.1, hfin.out.2.2.2]
              exact hd9
            · have hn8 : (nd2 : Int) = qz := by omega
              have hd2 : ∀ W, DecAt b D nz c.dp t W → DecAt b D (nd2 : Int) dz t ((W.setCell ⟨b, 800, none⟩ (.int .i64 qz)).setCell ⟨b, 801, none⟩ (.int .i64 dz)) := fun W h => by rw [hn8]; exact (h.setNd qz).setDp dz
              have HD2 := Lib.hid hd2
              clear hz hq hn0 hr1 hF hn hn2 fz cd hFg hez hdz hnd2 hZ hY htr hnz hqz hd2 hn8
              go_wp2_with (go_at_call 194; refine (HTR.out _ (HD2.out _ hd.out)).mono ?_; rintro e1 w9 ⟨rfl, hd9, hb9⟩)
              go_end0
              refine ⟨rfl, ?_, ((hb.out.setCell (p := ⟨b, 800, none⟩) hB _).setCell (p := ⟨b, 801, none⟩) hB _).trans hb9⟩
              rw [hfin.out.1, hfin.out.2.1, hfin.out.2.2.1, hfin.out.2.2.2]
              exact hd9
          · obtain ⟨f, hf⟩ : ∃ f, F = f + 1 := by
              cases F with
              | zero => simp at hn; omega
              | succ f => exact ⟨f, rfl⟩
            rw [hf, Nat.pow_succ] at hn
            have hr2 := hr1.out
            rw [hf] at hr2
            rw [ls2_succ, if_neg hn0] at hr2
            obtain ⟨c0, c1, c2, c3, fz, cd⟩ := hd.out.cells
            obtain ⟨u, hu⟩ : ∃ u, n / 10 = u := ⟨_, rfl⟩
            obtain ⟨x, hx⟩ : ∃ x, n % 10 = x := ⟨_, rfl⟩
            obtain ⟨sx, hsx⟩ : ∃ sx, x + 48 = sx := ⟨_, rfl⟩
            rw [hu, hx, hsx] at hr2
            have ht : 0 < z := by omega
            have hw7 : Int.tdiv z 10 = (u : Int) := by rw [Int.tdiv_eq_ediv_of_nonneg (by omega)]; omega
            have hw8 : IntKind.u64.wrap (u : Int) = u := IntWalk.u64_in _ (by omega)
            have hw9 : IntKind.u64.wrap (10 * (u : Int)) = 10 * (u : Int) := IntWalk.u64_in _ (by omega)
            have hwa : IntKind.u64.wrap (z - 10 * (u : Int)) = (x : Int) := by rw [IntWalk.u64_in _ (by omega)]; omega
            have hwb : IntKind.u64.wrap ((x : Int) + 48) = (sx : Int) := by rw [IntWalk.u64_in _ (by omega)]; omega
            have hwc : IntKind.u8.wrap (sx : Int) = (sx : Int) := IntWalk.u8_in _ (by omega)
            have hwc2 : (sx : Int) % 256 = (sx : Int) := by omega
            obtain ⟨q2, hq2⟩ : ∃ q2 : Int, q - 1 = q2 := ⟨_, rfl⟩
            have hwd : wrap64 (q - 1) = q2 := by unfold wrap64; omega
            have hwe : IntKind.i64.wrap (q - 1) = q2 := by rw [IntWalk.i64_in _ (by omega), hq2]
            have hl3 : 0 ≤ q2 := by omega
            have h8 : q2 < 800 := by omega
            have h8n : q2.toNat < 800 := by omega
            have hfq : f = q2.toNat := by omega
            have hcq := cd q2.toNat h8n
            generalize (D q2.toNat : Int) = dq at hcq
            have fd := fz q2.toNat
            have hr3 : Hid (PF.ls2 f (PF.upd D q2.toNat sx) u t = PF.ls2 e R.1 R.2.1 R.2.2) := Lib.hid (by
              rw [if_pos (show f < 800 by omega)] at hr2
              rw [← hfq]
              exact hr2)
            have hun : u < 10 ^ f := by omega
            have HF := Lib.hid hf
            have HG := Lib.hid hFg
            have HQ2 := Lib.hid (show (f : Int) = q2 by omega)
            have HFL := Lib.hid (show f ≤ 19 by omega)
            have HU := Lib.hid (show u ≤ 18446744073709551615 by omega)
            clear hr2 hr1 hf hFg hz hq hn hn2 hF hn0 fz cd hu hx hsx hq2 hfq c0 c1 c2
            go_wp2
            go_roundg f
            case measure => have := HF.out; have := HG.out; omega
            case rel => exact ⟨f, u, PF.upd D q2.toNat sx, t, rfl, by rw [HQ2.out], rfl, hun, HU.out, HFL.out, hr3, Lib.hid (hd.out.setD _ _ h8n), Lib.hid (hb.out.setCell (p := ⟨b, q2.toNat, none⟩) hB _)⟩
      · obtain ⟨f, hf⟩ : ∃ f, F = f + 1 := ⟨F - 1, by omega⟩
        obtain ⟨c0, c1, c2, c3, fz, cd⟩ := hd.out.cells
        have hci := cd f (by omega)
        have hdg := hD f (by omega)
        have hfy : f = y.toNat := by omega
        obtain ⟨d, hdd⟩ : ∃ d, D f = d := ⟨_, rfl⟩
        rw [hdd] at hci hdg
        rw [hfy] at hci
        unfold PF.Dg at hdg
        have hl0 : 0 ≤ y := by omega
        have hl1 : y < 800 := by omega
        have hp2 : 0 < 2 ^ k := Nat.pow_pos (by omega)
        have hp3 : 2 ^ k ≤ 1152921504606846976 := by
          have := Nat.pow_le_pow_right (by omega : 1 ≤ 2) hk
          simpa using this
        have hm9 : (d - 48) * 2 ^ k ≤ 9 * 2 ^ k := Nat.mul_le_mul_right _ (by omega)
        have hr2 := hr1.out
        rw [hf] at hr2
        unfold PF.ls1 at hr2
        rw [hdd] at hr2
        have hpk : ((2 : Int) ^ kk.toNat) = ((2 ^ k : Nat) : Int) := by rw [← hkk]; simp
        generalize hP : 2 ^ k = P at *
        obtain ⟨a, ha⟩ : ∃ a, (d - 48) * P = a := ⟨_, rfl⟩
        rw [ha] at hr2 hm9
        have hw3 : IntKind.u64.wrap (d : Int) = d := IntWalk.u64_in _ (by omega)
        have hw4 : IntKind.u64.wrap ((d : Int) - 48) = ((d - 48 : Nat) : Int) := by rw [IntWalk.u64_in _ (by omega)]; omega
        have hw5 : IntKind.u64.wrap (((d - 48 : Nat) : Int) * (P : Int)) = (a : Int) := by rw [← Int.natCast_mul, ha, IntWalk.u64_in _ (by omega)]
        have hw6 : IntKind.u64.wrap ((n : Int) + (a : Int)) = ((n + a : Nat) : Int) := by rw [IntWalk.u64_in _ (by omega)]; omega
        obtain ⟨m, hm⟩ : ∃ m, n + a = m := ⟨_, rfl⟩
        rw [hm] at hw6 hr2
        obtain ⟨u, hu⟩ : ∃ u, m / 10 = u := ⟨_, rfl⟩
        obtain ⟨x, hx⟩ : ∃ x, m % 10 = x := ⟨_, rfl⟩
        rw [hu, hx] at hr2
        have hw7 : Int.tdiv (m : Int) 10 = (u : Int) := by rw [Int.tdiv_eq_ediv_of_nonneg (by omega)]; omega
        have hw8 : IntKind.u64.wrap (u : Int) = u := IntWalk.u64_in _ (by omega)
        have hw9 : IntKind.u64.wrap (10 * (u : Int)) = 10 * (u : Int) := IntWalk.u64_in _ (by omega)
        have hwa : IntKind.u64.wrap ((m : Int) - 10 * (u : Int)) = (x : Int) := by rw [IntWalk.u64_in _ (by omega)]; omega
        obtain ⟨sx, hsx⟩ : ∃ sx, x + 48 = sx := ⟨_, rfl⟩
        have hwb : IntKind.u64.wrap ((x : Int) + 48) = (sx : Int) := by rw [IntWalk.u64_in _ (by omega)]; omega
        have hwc : IntKind.u8.wrap (sx : Int) = (sx : Int) := IntWalk.u8_in _ (by omega)
        have hwc2 : (sx : Int) % 256 = (sx : Int) := by omega
        have hsd : PF.Dg sx := by unfold PF.Dg; omega
        rw [hsx] at hr2
        have hq0 : 1 ≤ q := by omega
        obtain ⟨q2, hq2⟩ : ∃ q2 : Int, q - 1 = q2 := ⟨_, rfl⟩
        have hwd : wrap64 (q - 1) = q2 := by unfold wrap64; omega
        have hwe : IntKind.i64.wrap (q - 1) = q2 := by rw [IntWalk.i64_in _ (by omega), hq2]
        have hl3 : 0 ≤ q2 := by omega
        have hfq : f + e = q2.toNat := by omega
        have hun : u < P := by omega
        rw [hfq] at hr2
        have hnext : ((f : Int) - 1 = y - 1) := by omega
        have hnq : ((f : Int) + ez = q2) := by omega
        have f3 := fz 803
        have fd := fz q2.toNat
        have HR2 := Lib.hid hr2
        have HF := Lib.hid hf
        have HG := Lib.hid hFg
        have HN := Lib.hid hnext
        have HNQ := Lib.hid hnq
        have HFC := Lib.hid hF
        have HD := Lib.hid hD
        have CD := Lib.hid cd
        clear hsx hr2 hr1 hf hFg hy hq hF0 cd fz hdd hfy hm hu hx hq2 hq0 hnext hnq hF hD hez hm9 hp2 hp3 hP hn ha c0 c1 c2
        by_cases h8 : q2 < 800
        · have h8n : q2.toNat < 800 := by omega
          have hcq := CD.out q2.toNat h8n
          generalize (D q2.toNat : Int) = dq at hcq
          have hr3 : Hid (PF.ls1 k e f (PF.upd D q2.toNat sx) u t = R) := Lib.hid (by have h := HR2.out; rw [if_pos h8n] at h; exact h)
          go_wp2
          go_roundg f
          case measure => have := HF.out; have := HG.out; omega
          case rel =>
            refine ⟨f, u, PF.upd D q2.toNat sx, t, rfl, by rw [HN.out], by rw [HNQ.out], rfl, hun, by have := HF.out; have := HFC.out; omega, fun i hi => ?_, hr3, Lib.hid (hd.out.setD _ _ h8n), Lib.hid (hb.out.setCell (p := ⟨b, q2.toNat, none⟩) hB _)⟩
            by_cases hix : i = q2.toNat
            · rw [hix, PF.upd_at]; exact hsd
            · rw [PF.upd_ne _ _ _ _ hix]; exact HD.out i (by have := HF.out; omega)
        · have h8n : ¬ q2.toNat < 800 := by omega
          have hr3 : Hid (PF.ls1 k e f D u (t || x != 0) = R) := Lib.hid (by have h := HR2.out; rw [if_neg h8n] at h; exact h)
          by_cases hx0 : x = 0
          · have hxz : ((x : Int) != 0) = false := by rw [hx0]; rfl
            have hr4 : Hid (PF.ls1 k e f D u t = R) := Lib.hid (by have h := hr3.out; rw [hx0] at h; simpa using h)
            go_wp2
            go_roundg f
            case measure => have := HF.out; have := HG.out; omega
            case rel => exact ⟨f, u, D, t, rfl, by rw [HN.out], by rw [HNQ.out], rfl, hun, by have := HF.out; have := HFC.out; omega, fun i hi => HD.out i (by have := HF.out; omega), hr4, hd, hb⟩
          · have hxz : ((x : Int) != 0) = true := bne_iff_ne.2 (fun e => hx0 (Int.ofNat_inj.1 e))
            have hr4 : Hid (PF.ls1 k e f D u true = R) := Lib.hid (by have h := hr3.out; rw [show (x != 0) = true from bne_iff_ne.2 hx0, Bool.or_true] at h; exact h)
            go_wp2
            go_roundg f
            case measure => have := HF.out; have := HG.out; omega
            case rel => exact ⟨f, u, D, true, rfl, by rw [HN.out], by rw [HNQ.out], rfl, hun, by have := HF.out; have := HFC.out; omega, fun i hi => HD.out i (by have := HF.out; omega), hr4, Lib.hid (hd.out.setTr true), Lib.hid (hb.out.setCell (p := ⟨b, 803, none⟩) hB _)⟩
end Go.Proofs.YtelphbcdjfdjpaaGreatDoor
