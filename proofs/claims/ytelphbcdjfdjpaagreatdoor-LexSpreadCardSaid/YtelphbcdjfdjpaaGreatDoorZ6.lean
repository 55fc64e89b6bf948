/- Shifts of the long form either way, and the whole number that it is rounded to. Conditions: those that each theorem names. The whole number that the long form is rounded to. Conditions: those that each theorem names. The tables of package strconv in memory; a scope with two labels ahead; what the long form's float is, by its parts. Conditions: those that each theorem names. -/
import Derived.Test.YtelphbcdjfdjpaaGreatDoorDg
import Derived.Test.YtelphbcdjfdjpaaGreatDoorDh
import Derived.Scope
import Derived.ScopeJumps
import Derived.WalkMore
namespace Go.Proofs.YtelphbcdjfdjpaaGreatDoor
open Go.RowKit
set_option linter.all false

theorem PF.rsh_low (k : Nat) (c : PF.Dc) (hk0 : 1 ≤ k) (hk : k ≤ 60) (h : PF.Good c) : c.dp - 818 ≤ (PF.rsh k c).dp := by
  have a5 := PF.rs1_le c.D c.nd k hk h.dg h.first h.pos c.nd 0 0 (by omega) (.inl ⟨rfl, rfl⟩)
  obtain ⟨g, -⟩ := PF.rsh_good k c hk0 h
  have ht := h.top
  have hp := g.pos
  unfold PF.rsh PF.rshOf PF.cut at *
  simp only at *
  generalize PF.rs1 c.D c.nd k c.nd 0 0 = A at *
  rw [if_neg (by omega)]
  omega
/-- A shift to the right by any number of places. -/
def PF.shrF : Nat → Nat → PF.Dc → PF.Dc
  | 0, m, c => PF.rsh m c
  | f + 1, m, c => if 60 < m then PF.shrF f (m - 60) (PF.rsh 60 c) else PF.rsh m c
theorem PF.shrF_good : ∀ f m c, 1 ≤ m → m ≤ 60 + 60 * f → PF.Good c → PF.Good (PF.shrF f m c) ∧ (PF.shrF f m c).dp ≤ c.dp ∧ c.dp - 818 * (f + 1) ≤ (PF.shrF f m c).dp := by
  intro f
  induction f with
  | zero =>
    intro m c h1 h2 hc
    obtain ⟨g, r, hr, -⟩ := PF.rsh_good m c h1 hc
    have := PF.rsh_low m c h1 (by omega) hc
    exact ⟨g, by show (PF.rsh m c).dp ≤ _; omega, by show _ ≤ (PF.rsh m c).dp; omega⟩
  | succ f ih =>
    intro m c h1 h2 hc
    unfold PF.shrF
    by_cases h : 60 < m
    · rw [if_pos h]
      obtain ⟨g, r, hr, -⟩ := PF.rsh_good 60 c (by omega) hc
      have h3 := PF.rsh_low 60 c (by omega) (by omega) hc
      obtain ⟨a, b, d⟩ := ih (m - 60) (PF.rsh 60 c) (by omega) (by omega) g
      refine ⟨a, by omega, ?_⟩
      have : ((f + 1 : Nat) : Int) = f + 1 := by omega
      omega
    · rw [if_neg h]
      obtain ⟨g, r, hr, -⟩ := PF.rsh_good m c h1 hc
      have := PF.rsh_low m c h1 (by omega) hc
      exact ⟨g, by omega, by omega⟩
def DcAt (b : Nat) (c : PF.Dc) (w : World) : Prop := DecAt b c.D c.nd c.dp c.tr w
set_option maxHeartbeats 4000000 in
theorem shiftL_any (B b k δ : Nat) (S : ByteArray) (c : PF.Dc) (hB : B ≤ b) (hk : k ≤ 60) (hr : PF.RowOk ⟨k, δ, sb S, S.size⟩) (hc : PF.Good c) (hdp : -1000000000 ≤ c.dp ∧ c.dp ≤ 1000000000) (w : World) (h : DcAt b c w) (hT : CheatAt k δ S w) :
    Calls Tryz.prog 184 #[.pointer (some ⟨b, 0, none⟩), .int .i64 (k : Int)] w fun e w' => e = .returned (.tuple #[]) ∧ DcAt b (PF.lsh ⟨k, δ, sb S, S.size⟩ c) w' ∧ Below B w w' := by
  have hl := lsh_any B b k δ S c hB hk hr hc hdp w h hT
  obtain ⟨c0, -⟩ := DecAt.cells h
  obtain ⟨nz, hnz⟩ : ∃ nz : Int, (c.nd : Int) = nz := ⟨_, rfl⟩
  rw [hnz] at c0
  have hz : (nz == 0) = false := beq_eq_false_iff_ne.2 (by have := hc.pos; omega)
  obtain ⟨kz, hkz⟩ : ∃ kz : Int, (k : Int) = kz := ⟨_, rfl⟩
  rw [hkz] at hl ⊢
  have hk1 : 0 < kz := by have := hr.k1; simp only at this; omega
  have hk2 : ¬ 60 < kz := by omega
  have hw : IntKind.u64.wrap kz = kz := IntWalk.u64_in _ (by omega)
  clear hnz hkz h hT
  go_enter Tryz.func184, Tryz.ntmps184
  go_wp2
  go_loop [1] (fun v => v = .int .i64 kz) (fun v => 0)
  case atStart => rfl
  case round =>
    obtain rfl := hrel
    go_wp2_with (go_at_call 190; refine hl.mono ?_; rintro e1 w9 ⟨rfl, hd9, hb9⟩)
    go_end0
    exact ⟨rfl, hd9, hb9⟩
set_option maxHeartbeats 4000000 in
theorem shiftR_any (B b m f0 : Nat) (c : PF.Dc) (hB : B ≤ b) (hm : 1 ≤ m) (hmf : m ≤ 60 + 60 * f0) (hf0 : f0 ≤ 100000) (hc : PF.Good c) (hdp : -10000000 ≤ c.dp ∧ c.dp ≤ 10000000) (w : World) (h : DcAt b c w) :
    Calls Tryz.prog 184 #[.pointer (some ⟨b, 0, none⟩), .int .i64 (-(m : Int))] w fun e w' => e = .returned (.tuple #[]) ∧ DcAt b (PF.shrF f0 m c) w' ∧ Below B w w' := by
  obtain ⟨R, hR⟩ : ∃ R, PF.shrF f0 m c = R := ⟨_, rfl⟩
  rw [hR]
  obtain ⟨c0, -⟩ := DecAt.cells h
  obtain ⟨nz, hnz⟩ : ∃ nz : Int, (c.nd : Int) = nz := ⟨_, rfl⟩
  rw [hnz] at c0
  have hz : (nz == 0) = false := beq_eq_false_iff_ne.2 (by have := hc.pos; omega)
  obtain ⟨kz, hkz⟩ : ∃ kz : Int, -(m : Int) = kz := ⟨_, rfl⟩
  rw [hkz]
  have hk1 : ¬ 0 < kz := by omega
  have hk2 : kz < 0 := by omega
  have H := Lib.hid h
  have HR := Lib.hid hR
  have HC := Lib.hid hc
  have HK := Lib.hid hkz
  clear hnz hkz h hR hc
  go_enter Tryz.func184, Tryz.ntmps184
  go_wp2
  go_loopg [1] f0 (fun g v wr => ∃ (F m : Nat) (c : PF.Dc), F = g ∧ F ≤ f0 ∧ v = .int .i64 (-(m : Int)) ∧ 1 ≤ m ∧ m ≤ 60 + 60 * F ∧ Hid (PF.Good c) ∧ (c.dp ≤ 10000000 ∧ -10000000 - 818 * ((f0 : Int) - F) ≤ c.dp) ∧ Hid (PF.shrF F m c = R) ∧ Hid (DcAt b c wr) ∧ Hid (Below B w wr))
  case atStart => exact ⟨f0, m, c, rfl, Nat.le_refl _, by rw [HK.out], hm, hmf, HC, by omega, HR, H, Lib.hid (Below.refl _ _)⟩
  case round =>
    obtain ⟨F, m, c, hFg, hFf, rfl, hm, hmF, hc, hdp, hr, hd, hb⟩ := hrel
    obtain ⟨y, hy⟩ : ∃ y : Int, -(m : Int) = y := ⟨_, rfl⟩
    rw [hy]
    by_cases h6 : 60 < m
    · obtain ⟨f, hf⟩ : ∃ f, F = f + 1 := ⟨F - 1, by omega⟩
      have ht : y < -60 := by omega
      have hrs := fun W (hW : DcAt b c W) => rsh_any B b 60 c hB (by omega) hc.out (by omega) W hW
      obtain ⟨y2, hy2⟩ : ∃ y2 : Int, y + 60 = y2 := ⟨_, rfl⟩
      have hw1 : IntKind.i64.wrap (y + 60) = y2 := by rw [IntWalk.i64_in _ (by omega), hy2]
      have hw2 : wrap64 (y + 60) = y2 := by unfold wrap64; omega
      have hr2 : Hid (PF.shrF f (m - 60) (PF.rsh 60 c) = R) := Lib.hid (by have h := hr.out; rw [hf] at h; unfold PF.shrF at h; rw [if_pos h6] at h; exact h)
      obtain ⟨g, r, hrd, -⟩ := PF.rsh_good 60 c (by omega) hc.out
      have hlow := PF.rsh_low 60 c (by omega) (by omega) hc.out
      have G := Lib.hid g
      have HD2 := Lib.hid (show (PF.rsh 60 c).dp ≤ 10000000 ∧ -10000000 - 818 * ((f0 : Int) - f) ≤ (PF.rsh 60 c).dp by omega)
      have HF := Lib.hid hf
      have HG := Lib.hid hFg
      have HM := Lib.hid (show 1 ≤ m - 60 ∧ m - 60 ≤ 60 + 60 * f ∧ f ≤ f0 by omega)
      have HY2 := Lib.hid (show -((m - 60 : Nat) : Int) = y2 by omega)
      have HRS := Lib.hid hrs
      clear hrs hy hy2 hf hFg hm hmF hFf h6 g hrd hlow hdp hr hc
      go_wp2_with (go_at_call 191; refine (HRS.out _ hd.out).mono ?_; rintro e1 w9 ⟨rfl, hd9, hb9⟩)
      go_roundg f
      case measure => have := HF.out; have := HG.out; omega
      case rel => exact ⟨f, m - 60, _, rfl, HM.out.2.2, by rw [HY2.out], HM.out.1, HM.out.2.1, G, HD2.out, hr2, Lib.hid hd9, Lib.hid (hb.out.trans hb9)⟩
    · have ht : ¬ y < -60 := by omega
      have hrs := fun W (hW : DcAt b c W) => rsh_any B b m c hB (by omega) hc.out (by omega) W hW
      have hend : Hid (PF.rsh m c = R) := Lib.hid (by
        rw [← hr.out]
        cases F with
        | zero => rfl
        | succ F => unfold PF.shrF; rw [if_neg h6])
      rw [hend.out] at hrs
      obtain ⟨mz, hmz⟩ : ∃ mz : Int, (m : Int) = mz := ⟨_, rfl⟩
      rw [hmz] at hrs
      have hw1 : IntKind.i64.wrap (-y) = mz := by rw [IntWalk.i64_in _ (by omega)]; omega
      have hw2 : IntKind.u64.wrap mz = mz := IntWalk.u64_in _ (by omega)
      have HRS := Lib.hid hrs
      clear hrs hy hmz hFg hm hmF hFf h6 hdp hr hc
      go_wp2_with (go_at_call 191; refine (HRS.out _ hd.out).mono ?_; rintro e1 w9 ⟨rfl, hd9, hb9⟩)
      go_end0
      exact ⟨rfl, hd9, hb.out.trans hb9⟩
end Go.Proofs.YtelphbcdjfdjpaaGreatDoor
namespace Go.Proofs.YtelphbcdjfdjpaaGreatDoor
open Go.RowKit
set_option linter.all false

def PF.ri1 (D : Nat → Nat) : Nat → Nat → Nat → Nat
  | 0, _, n => n
  | f + 1, i, n => PF.ri1 D f (i + 1) ((n * 10 % 18446744073709551616 + (D i - 48)) % 18446744073709551616)
def PF.ri2 : Nat → Nat → Nat
  | 0, n => n
  | f + 1, n => PF.ri2 f (n * 10 % 18446744073709551616)
def PF.ri (c : PF.Dc) : Nat :=
  if 20 < c.dp then 18446744073709551615 else
    if PF.rup c.D c.nd c.tr c.dp then (PF.ri2 (c.dp.toNat - min c.dp.toNat c.nd) (PF.ri1 c.D (min c.dp.toNat c.nd) 0 0) + 1) % 18446744073709551616 else PF.ri2 (c.dp.toNat - min c.dp.toNat c.nd) (PF.ri1 c.D (min c.dp.toNat c.nd) 0 0)
theorem wrap_mod (n : Nat) : IntKind.u64.wrap (n : Int) = ((n % 18446744073709551616 : Nat) : Int) := by
  simp [IntKind.wrap, IntKind.bits, IntKind.signed]
set_option maxHeartbeats 4000000 in
theorem ri_any (b : Nat) (c : PF.Dc) (hc : PF.Good c) (w : World) (h : DcAt b c w) :
    Calls Tryz.prog 185 #[.pointer (some ⟨b, 0, none⟩)] w fun e w' => e = .returned (.int .u64 (PF.ri c : Nat)) ∧ w = w' := by
  obtain ⟨c0, c1, c2, c3, fz, cd⟩ := DecAt.cells h
  obtain ⟨R, hR⟩ : ∃ R, PF.ri c = R := ⟨_, rfl⟩
  rw [hR]
  have hru := fun p => rup_any b c.D c.nd c.dp p c.tr hc.top hc.dg w h
  unfold PF.ri at hR
  by_cases h20 : 20 < c.dp
  · rw [if_pos h20] at hR
    have HR := Lib.hid hR
    clear hR hru h fz cd c2 c3 c0
    go_enter Tryz.func185, Tryz.ntmps185
    go_wp2
    go_ret
    exact ⟨by rw [← HR.out]; rfl, rfl⟩
  · rw [if_neg h20] at hR
    have hru := hru c.dp
    generalize PF.rup c.D c.nd c.tr c.dp = Q at hru hR
    obtain ⟨dz, hdz⟩ : ∃ dz : Int, c.dp = dz := ⟨_, rfl⟩
    rw [hdz] at c1 hru h20 hR
    obtain ⟨nz, hnz⟩ : ∃ nz : Int, (c.nd : Int) = nz := ⟨_, rfl⟩
    rw [hnz] at c0
    obtain ⟨N1, hN1⟩ : ∃ N1, PF.ri1 c.D (min dz.toNat c.nd) 0 0 = N1 := ⟨_, rfl⟩
    rw [hN1] at hR
    obtain ⟨N2, hN2⟩ : ∃ N2, PF.ri2 (dz.toNat - min dz.toNat c.nd) N1 = N2 := ⟨_, rfl⟩
    rw [hN2] at hR
    have HR := Lib.hid hR
    have HN1 := Lib.hid hN1
    have HN2 := Lib.hid hN2
    have HDZ := Lib.hid hdz
    have HNZ := Lib.hid hnz
    have CD := Lib.hid cd
    have HC := Lib.hid hc
    have HRU := Lib.hid hru
    clear hR hN1 hN2 hdz hnz h fz cd c2 c3 hc hru
    go_enter Tryz.func185, Tryz.ntmps185
    go_wp2
    go_loopg [3, 4] (min dz.toNat c.nd) (fun g v3 v4 wr => ∃ F i n : Nat, F = g ∧ i + F = min dz.toNat c.nd ∧ v3 = .int .i64 (i : Int) ∧ v4 = .int .u64 (n : Int) ∧ n ≤ 18446744073709551615 ∧ Hid (PF.ri1 c.D F i n = N1) ∧ w = wr)
    case atStart => exact ⟨_, 0, 0, rfl, by omega, rfl, rfl, by omega, HN1, rfl⟩
    case round =>
      obtain ⟨F, i, n, hFg, hi, rfl, rfl, hn, hr, rfl⟩ := hrel
      obtain ⟨y, hy⟩ : ∃ y : Int, (i : Int) = y := ⟨_, rfl⟩
      obtain ⟨z, hz⟩ : ∃ z : Int, (n : Int) = z := ⟨_, rfl⟩
      rw [hy, hz]
      have hnz := HNZ.out
      by_cases hF0 : F = 0
      · have ht : (decide (y < dz) && decide (y < nz)) = false := by
          rw [Bool.and_eq_false_iff, decide_eq_false_iff_not, decide_eq_false_iff_not]; omega
        have hend : Hid (n = N1) := Lib.hid (by rw [← hr.out, hF0]; rfl)
        have HY := Lib.hid (show i = min dz.toNat c.nd by omega)
        have HYY := Lib.hid hy
        have HZ := Lib.hid hz
        have HN := Lib.hid hn
        clear hFg hi hn hr hF0 hy hz hnz
        have hor : (y < dz ∧ ¬ y < nz) ∨ ¬ y < dz := by
          by_cases hyd : y < dz
          · exact .inl ⟨hyd, fun h => by rw [decide_eq_true hyd, decide_eq_true h] at ht; cases ht⟩
          · exact .inr hyd
        clear ht
        rcases hor with ⟨hyd, hyn⟩ | hyd
        all_goals
          go_wp2
          go_loopg [3, 4] (dz.toNat - min dz.toNat c.nd) (fun g v3 v4 wr => ∃ F i n : Nat, F = g ∧ (i + F = dz.toNat ∨ F = 0 ∧ dz.toNat ≤ i) ∧ i ≤ 1000 ∧ v3 = .int .i64 (i : Int) ∧ v4 = .int .u64 (n : Int) ∧ Hid (PF.ri2 F n = N2) ∧ w = wr)
          case atStart =>
            have := HY.out
            have := HC.out.top
            refine ⟨_, i, n, rfl, by omega, by omega, by rw [HYY.out], by rw [HZ.out], Lib.hid (by rw [← HN2.out, hend.out]), rfl⟩
          case round =>
            clear HYY HY HZ HN hend hyd
            obtain ⟨F, i, n, hFg, hi, hi2, rfl, rfl, hr, rfl⟩ := hrel
            obtain ⟨y, hy⟩ : ∃ y : Int, (i : Int) = y := ⟨_, rfl⟩
            obtain ⟨z, hz⟩ : ∃ z : Int, (n : Int) = z := ⟨_, rfl⟩
            rw [hy, hz]
            by_cases hF0 : F = 0
            · have ht : ¬ y < dz := by omega
              have hend : Hid (n = N2) := Lib.hid (by rw [← hr.out, hF0]; rfl)
              have HZ := Lib.hid hz
              have HRU2 := HRU
              have hfin : Hid ((R : Int) = if Q then IntKind.u64.wrap (z + 1) else z) := Lib.hid (by
                rw [← HR.out, ← hend.out, ← hz]
                cases Q
                · rfl
                · show (((n + 1) % 18446744073709551616 : Nat) : Int) = IntKind.u64.wrap ((n : Int) + 1)
                  rw [← wrap_mod]; rfl)
              clear hFg hi hi2 hr hF0 hy hz hend
              cases Q
              all_goals
                go_wp2_with (go_at_call 192; refine HRU.out.mono ?_; rintro e1 w9 ⟨rfl, rfl⟩)
                go_ret
                exact ⟨by rw [hfin.out]; rfl, rfl⟩
            · obtain ⟨f, hf⟩ : ∃ f, F = f + 1 := ⟨F - 1, by omega⟩
              have ht : y < dz := by omega
              have hr2 : Hid (PF.ri2 f (n * 10 % 18446744073709551616) = N2) := Lib.hid (by have h := hr.out; rw [hf] at h; exact h)
              obtain ⟨u, hu⟩ : ∃ u, n * 10 % 18446744073709551616 = u := ⟨_, rfl⟩
              rw [hu] at hr2
              have hw : IntKind.u64.wrap (z * 10) = (u : Int) := by rw [← hz, ← hu, ← wrap_mod]; rfl
              obtain ⟨y2, hy2⟩ : ∃ y2 : Int, y + 1 = y2 := ⟨_, rfl⟩
              have g6 : IntKind.i64.wrap (y + 1) = y2 := by rw [IntWalk.i64_in _ (by omega), hy2]
              have gd : wrap64 (y + 1) = y2 := by unfold wrap64; omega
              have HF := Lib.hid hf
              have HG := Lib.hid hFg
              have HY2 := Lib.hid (show ((i + 1 : Nat) : Int) = y2 by omega)
              have HI := Lib.hid (show i + 1 + f = dz.toNat ∧ i + 1 ≤ 1000 by omega)
              clear hFg hi hi2 hr hF0 hy hz hf hu hy2
              go_wp2
              go_roundg f
              case measure => have := HF.out; have := HG.out; omega
              case rel => exact ⟨f, i + 1, u, rfl, .inl HI.out.1, HI.out.2, by rw [HY2.out], rfl, hr2, rfl⟩
      · obtain ⟨f, hf⟩ : ∃ f, F = f + 1 := ⟨F - 1, by omega⟩
        have ht : y < dz := by omega
        have ht2 : y < nz := by omega
        have htt : (decide (y < dz) && decide (y < nz)) = true := by rw [decide_eq_true ht, decide_eq_true ht2]; rfl
        have htop := HC.out.top
        obtain ⟨d1, d2⟩ := HC.out.dg i (by omega)
        have hci := CD.out i (by omega)
        have hr2 := hr.out
        rw [hf] at hr2
        unfold PF.ri1 at hr2
        obtain ⟨d, hdd⟩ : ∃ d, c.D i = d := ⟨_, rfl⟩
        rw [hdd] at hci d1 d2 hr2
        have hiy : i = y.toNat := by omega
        rw [hiy] at hci
        obtain ⟨u, hu⟩ : ∃ u, n * 10 % 18446744073709551616 = u := ⟨_, rfl⟩
        obtain ⟨e, he⟩ : ∃ e, d - 48 = e := ⟨_, rfl⟩
        obtain ⟨v, hv⟩ : ∃ v, (u + e) % 18446744073709551616 = v := ⟨_, rfl⟩
        rw [hu, he, hv] at hr2
        have hw : IntKind.u64.wrap (z * 10) = (u : Int) := by rw [← hz, ← hu, ← wrap_mod]; rfl
        have hw2 : IntKind.u8.wrap ((d : Int) - 48) = (e : Int) := by rw [IntWalk.u8_in _ (by omega)]; omega
        have hw3 : IntKind.u64.wrap (e : Int) = (e : Int) := IntWalk.u64_in _ (by omega)
        have hw4 : IntKind.u64.wrap ((u : Int) + (e : Int)) = (v : Int) := by rw [← hv, ← wrap_mod]; rfl
        obtain ⟨y2, hy2⟩ : ∃ y2 : Int, y + 1 = y2 := ⟨_, rfl⟩
        have g6 : IntKind.i64.wrap (y + 1) = y2 := by rw [IntWalk.i64_in _ (by omega), hy2]
        have gd : wrap64 (y + 1) = y2 := by unfold wrap64; omega
        have hl0 : 0 ≤ y := by omega
        have hl1 : y < 800 := by omega
        have hvb : v ≤ 18446744073709551615 := by omega
        have HR2 := Lib.hid hr2
        have HF := Lib.hid hf
        have HG := Lib.hid hFg
        have HY2 := Lib.hid (show ((i + 1 : Nat) : Int) = y2 by omega)
        have HI := Lib.hid (show i + 1 + f = min dz.toNat c.nd by omega)
        clear hFg hi hr hF0 hy hz hf hu hy2 d1 d2 hdd hr2 hiy he hv hnz htop hn
        go_wp2
        go_roundg f
        case measure => have := HF.out; have := HG.out; omega
        case rel => exact ⟨f, i + 1, v, rfl, HI.out, by rw [HY2.out], rfl, hvb, HR2, rfl⟩
end Go.Proofs.YtelphbcdjfdjpaaGreatDoor
namespace Go.Proofs.YtelphbcdjfdjpaaGreatDoor
open Go.RowKit
set_option linter.all false

/-- As Q; by a goto to label 0 or 1: J0, J1; by any other goto: no way out. -/
def jump2 (J0 J1 : Act → World → Prop) (Q : Exit → Act → World → Prop) : Exit → Act → World → Prop
  | .goto l, a, w => l = 0 ∧ J0 a w ∨ l = 1 ∧ J1 a w
  | e, a, w => Q e a w
theorem wp_scope_two {P : Program} {a : Act} {w : World} {Q : Exit → Act → World → Prop} {c r0 r1 : Code} (J0 J1 : Act → World → Prop) (hf0 : findLabel c 0 = some r0) (hf1 : findLabel c 1 = some r1)
    (first : c.wp P (jump2 J0 J1 Q) a w) (pass0 : ∀ a w, J0 a w → r0.wp P (Exit.noGoto Q) a w) (pass1 : ∀ a w, J1 a w → r1.wp P (Exit.noGoto Q) a w) : (Code.scope c).wp P Q a w := by
  intro b k cs
  have hg0 : gotoIn 0 (.inScope c :: k) = some (.code r0 :: .inScope c :: k) := by simp [gotoIn, hf0]
  have hg1 : gotoIn 1 (.inScope c :: k) = some (.code r1 :: .inScope c :: k) := by simp [gotoIn, hf1]
  have key : ∀ (r : Code) a w, r.wp P (Exit.noGoto Q) a w → ∃ e a' w', Q e a' w' ∧ Arrives P (lone (b.at a (.code r :: .inScope c :: k)) cs w) b k cs e a' w' := by
    intro r a w h
    obtain ⟨e, a₁, w₁, hq, harr⟩ := h b (.inScope c :: k) cs
    cases e with
    | normal => exact ⟨.normal, a₁, w₁, hq, Steps.trans harr (.one step_inScope)⟩
    | exit id => exact ⟨.exit id, a₁, w₁, hq, fun k' hk => harr k' (by simp [exitTo, hk])⟩
    | goto l => exact hq.elim
    | ret => exact ⟨_, a₁, w₁, hq, harr⟩
    | panic ch => exact ⟨_, a₁, w₁, hq, harr⟩
    | outgrown => exact ⟨_, a₁, w₁, hq, harr⟩
  obtain ⟨e, a₁, w₁, hq, harr⟩ := first b (.inScope c :: k) cs
  cases e with
  | normal => exact ⟨.normal, a₁, w₁, hq, .head step_scope (Steps.trans harr (.one step_inScope))⟩
  | exit id => exact ⟨.exit id, a₁, w₁, hq, fun k' hk => .head step_scope (harr k' (by simp [exitTo, hk]))⟩
  | goto l =>
    rcases hq with ⟨rfl, hJ⟩ | ⟨rfl, hJ⟩
    · obtain ⟨e₂, a₂, w₂, hq₂, harr₂⟩ := key r0 a₁ w₁ (pass0 a₁ w₁ hJ)
      exact ⟨e₂, a₂, w₂, hq₂, .of_steps (.head step_scope (harr _ hg0)) harr₂⟩
    · obtain ⟨e₂, a₂, w₂, hq₂, harr₂⟩ := key r1 a₁ w₁ (pass1 a₁ w₁ hJ)
      exact ⟨e₂, a₂, w₂, hq₂, .of_steps (.head step_scope (harr _ hg1)) harr₂⟩
  | ret => exact ⟨_, a₁, w₁, hq, .of_steps (.one step_scope) harr⟩
  | panic ch => exact ⟨_, a₁, w₁, hq, .of_steps (.one step_scope) harr⟩
  | outgrown => exact ⟨_, a₁, w₁, hq, .of_steps (.one step_scope) harr⟩

theorem below_cell {B : Nat} {w w' : World} (k : Below B w w') {j : Nat} (hj : j < B) (i : Nat) : w'.cell? ⟨j, i, none⟩ = w.cell? ⟨j, i, none⟩ := by
  simp only [World.cell?]
  rw [k.block j hj]
/-- Package strconv's small tables. -/
structure FT (N : Nat) (w : World) : Prop where
  pow : ∃ g off cap : Nat, g < N ∧ 13 < N ∧ w.cell? ⟨13, 0, none⟩ = some (.slice (some ⟨g, off, none⟩) 9 cap) ∧ ∀ i, i < 9 → w.cell? ⟨g, off + i, none⟩ = some (.int .i64 (PF.stepOf i : Int))
  cheat : ∃ g off cap : Nat, g < N ∧ 18 < N ∧ w.cell? ⟨18, 0, none⟩ = some (.slice (some ⟨g, off, none⟩) 61 cap) ∧
    ∀ k, k < 61 → w.cell? ⟨g, off + k * 2, none⟩ = some (.int .i64 ((PF.cheat k).1 : Int)) ∧ w.cell? ⟨g, off + k * 2 + 1, none⟩ = some (.string ⟨(PF.cheat k).2.toArray⟩)
  info : 10 < N ∧ w.cell? ⟨10, 0, none⟩ = some (.int .u64 52) ∧ w.cell? ⟨10, 1, none⟩ = some (.int .u64 11) ∧ w.cell? ⟨10, 2, none⟩ = some (.int .i64 (-1023))
theorem FT.keep {N B : Nat} {w w' : World} (h : FT N w) (k : Below B w w') (hN : N ≤ B) : FT N w' := by
  obtain ⟨⟨g, off, cap, h1, h2, h3, h4⟩, ⟨g', off', cap', i1, i2, i3, i4⟩, ⟨j1, j2, j3, j4⟩⟩ := h
  refine ⟨⟨g, off, cap, h1, h2, ?_, fun i hi => ?_⟩, ⟨g', off', cap', i1, i2, ?_, fun q hq => ⟨?_, ?_⟩⟩, ⟨j1, ?_, ?_, ?_⟩⟩
  · rw [below_cell k (by omega)]; exact h3
  · rw [below_cell k (by omega)]; exact h4 i hi
  · rw [below_cell k (by omega)]; exact i3
  · rw [below_cell k (by omega)]; exact (i4 q hq).1
  · rw [below_cell k (by omega)]; exact (i4 q hq).2
  · rw [below_cell k (by omega)]; exact j2
  · rw [below_cell k (by omega)]; exact j3
  · rw [below_cell k (by omega)]; exact j4
abbrev cheatS (k : Nat) : ByteArray := ⟨(PF.cheat k).2.toArray⟩
theorem row_eq (k : Nat) : (⟨k, (PF.cheat k).1, sb (cheatS k), (cheatS k).size⟩ : PF.Row) = PF.rowOf k := by
  unfold PF.rowOf
  congr 1
theorem FT.at {N : Nat} {w : World} (h : FT N w) (k : Nat) (hk : k < 61) : CheatAt k (PF.cheat k).1 (cheatS k) w := by
  obtain ⟨g, off, cap, h1, h2, h3, h4⟩ := h.cheat
  exact ⟨g, off, 61, cap, h3, hk, (h4 k hk).1, (h4 k hk).2⟩
theorem shiftL_row (N B b k : Nat) (c : PF.Dc) (hB : B ≤ b) (hk : k ≤ 60) (hr : PF.rowB k = true) (hc : PF.Good c) (hdp : -1000000000 ≤ c.dp ∧ c.dp ≤ 1000000000) (w : World) (h : DcAt b c w) (hT : FT N w) :
    Calls Tryz.prog 184 #[.pointer (some ⟨b, 0, none⟩), .int .i64 (k : Int)] w fun e w' => e = .returned (.tuple #[]) ∧ DcAt b (PF.lsh (PF.rowOf k) c) w' ∧ Below B w w' := by
  have hro := PF.row_ok k hr
  rw [← row_eq] at hro ⊢
  exact shiftL_any B b k _ _ c hB hk hro hc hdp w h (hT.at k (by omega))

/-- What floatBits holds at its end: the digits, the power, is it too great. -/
abbrev PF.Fb := Nat × Int × Bool
def PF.ovf : PF.Fb := (0, 1024, true)
def PF.fin (m : Nat) (e : Int) : PF.Fb := if bits .and .u64 (m : Int) 4503599627370496 = 0 then (m, -1023, false) else (m, e, false)
def PF.g5 (m : Nat) (e : Int) : PF.Fb := if m = 9007199254740992 then (if 2047 ≤ e + 1 + 1023 then PF.ovf else PF.fin 4503599627370496 (e + 1)) else PF.fin m e
def PF.g4 (c : PF.Dc) (e : Int) : PF.Fb := if 2047 ≤ e + 1023 then PF.ovf else PF.g5 (PF.ri (PF.lsh (PF.rowOf 53) c)) e
def PF.g3 (c : PF.Dc) (e : Int) : PF.Fb := if e < -1022 then PF.g4 (PF.shrF 8000 (-1022 - e).toNat c) (-1022) else PF.g4 c e
def PF.fbm (c : PF.Dc) : PF.Fb := if 310 < c.dp then PF.ovf else if c.dp < -330 then (0, -1023, false) else
  PF.g3 (PF.fb2 (PF.ms2 (PF.fb1 (PF.ms1 c) c 0).1) (PF.fb1 (PF.ms1 c) c 0).1 (PF.fb1 (PF.ms1 c) c 0).2).1 ((PF.fb2 (PF.ms2 (PF.fb1 (PF.ms1 c) c 0).1) (PF.fb1 (PF.ms1 c) c 0).1 (PF.fb1 (PF.ms1 c) c 0).2).2 - 1)
/-- The bits of those. -/
def PF.fbv (p : PF.Fb) : Int := bits .or .u64 (bits .and .u64 (p.1 : Int) 4503599627370495) (IntKind.u64.wrap (IntKind.u64.wrap (bits .and .i64 (p.2.1 + 1023) 2047) * 4503599627370496))
end Go.Proofs.YtelphbcdjfdjpaaGreatDoor
