/- The shelf's contracts of bits.Len64 and strconv.Itoa at this program. Conditions: those that each theorem names. parseFloat64: ends, with one answer for its digits and its power. Conditions: those that each theorem names. -/
import Derived.Shelf.Strconv.Itoa0
import Derived.Shelf.Strconv.Itoa1
import Derived.Shelf.Strconv.Itoa2
import Derived.Shelf.Strconv.Itoa3
import Derived.Shelf.LaysM
import Derived.Test.YtelphbcdjfdjpaaGreatDoorProg
import Derived.Test.YtelphbcdjfdjpaaGreatDoorZ7
import Derived.Test.YtelphbcdjfdjpaaGreatDoorZ1
import Derived.Lib.BitFns
namespace Go.Proofs
open Go.Shelf
def Tryz.lays129_ren : Go.Shelf.Ren := ⟨fun | 129 => 171 | n => n, fun | 53 => 71 | 3 => 3 | 4 => 4 | 46 => 101 | 5 => 5 | 9 => 9 | n => n, fun | n => n⟩
theorem Tryz.lays129 : Go.Proofs.Lays.n129 Tryz.prog Tryz.lays129_ren := {
  mixed := by kernel_rfl
  f129 := Tryz.func171.trans (congrArg some (by kernel_rfl))
  t3 := Tryz.underlying3
  a3 := Tryz.isAgg3
  z3 := Tryz.sizeOf3
  v3 := Tryz.zeroValue3
  t4 := Tryz.underlying4
  a4 := Tryz.isAgg4
  z4 := Tryz.sizeOf4
  v4 := Tryz.zeroValue4
  t5 := Tryz.underlying5
  a5 := Tryz.isAgg5
  z5 := Tryz.sizeOf5
  v5 := Tryz.zeroValue5
  t9 := Tryz.underlying9
  a9 := Tryz.isAgg9
  z9 := Tryz.sizeOf9
  v9 := Tryz.zeroValue9
  t46 := Tryz.underlying101
  a46 := Tryz.isAgg101
  z46 := Tryz.sizeOf101
  v46 := Tryz.zeroValue101
  t53 := Tryz.underlying71
  a53 := Tryz.isAgg71
  z53 := Tryz.sizeOf71
  v53 := Tryz.zeroValue71 }
/-- bits.Len64: "Len64 returns the minimum number of bits required to represent x; the result is 0 for x == 0.": IT RETURNS 'Lib.bitLen x'; the world is as it was. ('h0', 'h1': x is a uint64.) (LAID: no walk: one application.) -/
theorem Tryz.bits_Len64 (x : Int) (w : World) (h0 : 0 ≤ x) (h1 : x ≤ 18446744073709551615) :
    Calls Tryz.prog 171 #[.int .u64 x] w fun e w' => e = .returned (.int .i64 (Lib.bitLen x.toNat)) ∧ w' = w := Any.bits_Len64 Tryz.lays129 x w h0 h1
def Tryz.laysM171_ren : Go.Shelf.Ren := ⟨fun | 171 => 139 | 243 => 147 | 246 => 150 | 283 => 153 | 284 => 154 | 285 => 155 | 286 => 156 | 129 => 171 | 317 => 170 | 318 => 172 | 319 => 173 | 320 => 174 | 337 => 187 | 338 => 188 | n => n, fun | 3 => 3 | 9 => 9 | 2 => 2 | 4 => 4 | 171 => 165 | 0 => 0 | 53 => 71 | 37 => 87 | 5 => 5 | 173 => 168 | 212 => 193 | 51 => 114 | 20 => 20 | 213 => 194 | 46 => 101 | 232 => 218 | 233 => 219 | n => n, fun | 17 => 11 | 18 => 16 | 19 => 17 | n => n⟩
theorem Tryz.laysM171 : Go.Proofs.LaysM.n171 Tryz.prog Tryz.laysM171_ren := {
  mixed := by kernel_rfl
  f129 := Tryz.func171.trans (congrArg some (by kernel_rfl))
  f171 := Tryz.func139.trans (congrArg some (by kernel_rfl))
  f243 := Tryz.func147.trans (congrArg some (by kernel_rfl))
  f246 := Tryz.func150.trans (congrArg some (by kernel_rfl))
  f283 := Tryz.func153.trans (congrArg some (by kernel_rfl))
  f284 := Tryz.func154.trans (congrArg some (by kernel_rfl))
  f285 := Tryz.func155.trans (congrArg some (by kernel_rfl))
  f286 := Tryz.func156.trans (congrArg some (by kernel_rfl))
  f317 := Tryz.func170.trans (congrArg some (by kernel_rfl))
  f318 := Tryz.func172.trans (congrArg some (by kernel_rfl))
  f319 := Tryz.func173.trans (congrArg some (by kernel_rfl))
  f320 := Tryz.func174.trans (congrArg some (by kernel_rfl))
  f337 := Tryz.func187.trans (congrArg some (by kernel_rfl))
  f338 := Tryz.func188.trans (congrArg some (by kernel_rfl))
  t0 := Tryz.underlying0
  a0 := Tryz.isAgg0
  z0 := Tryz.sizeOf0
  v0 := Tryz.zeroValue0
  t2 := Tryz.underlying2
  a2 := Tryz.isAgg2
  z2 := Tryz.sizeOf2
  v2 := Tryz.zeroValue2
  t3 := Tryz.underlying3
  a3 := Tryz.isAgg3
  z3 := Tryz.sizeOf3
  v3 := Tryz.zeroValue3
  t4 := Tryz.underlying4
  a4 := Tryz.isAgg4
  z4 := Tryz.sizeOf4
  v4 := Tryz.zeroValue4
  t5 := Tryz.underlying5
  a5 := Tryz.isAgg5
  z5 := Tryz.sizeOf5
  v5 := Tryz.zeroValue5
  t9 := Tryz.underlying9
  a9 := Tryz.isAgg9
  z9 := Tryz.sizeOf9
  v9 := Tryz.zeroValue9
  t20 := Tryz.underlying20
  a20 := Tryz.isAgg20
  z20 := Tryz.sizeOf20
  v20 := Tryz.zeroValue20
  t37 := Tryz.underlying87
  a37 := Tryz.isAgg87
  z37 := Tryz.sizeOf87
  v37 := Tryz.zeroValue87
  t46 := Tryz.underlying101
  a46 := Tryz.isAgg101
  z46 := Tryz.sizeOf101
  v46 := Tryz.zeroValue101
  t51 := Tryz.underlying114
  a51 := Tryz.isAgg114
  z51 := Tryz.sizeOf114
  v51 := Tryz.zeroValue114
  t53 := Tryz.underlying71
  a53 := Tryz.isAgg71
  z53 := Tryz.sizeOf71
  v53 := Tryz.zeroValue71
  t171 := Tryz.underlying165
  a171 := Tryz.isAgg165
  z171 := Tryz.sizeOf165
  v171 := Tryz.zeroValue165
  t173 := Tryz.underlying168
  a173 := Tryz.isAgg168
  z173 := Tryz.sizeOf168
  v173 := Tryz.zeroValue168
  t212 := Tryz.underlying193
  a212 := Tryz.isAgg193
  z212 := Tryz.sizeOf193
  v212 := Tryz.zeroValue193
  t213 := Tryz.underlying194
  a213 := Tryz.isAgg194
  z213 := Tryz.sizeOf194
  t232 := Tryz.underlying218
  a232 := Tryz.isAgg218
  z232 := Tryz.sizeOf218
  v232 := Tryz.zeroValue218
  t233 := Tryz.underlying219
  a233 := Tryz.isAgg219
  z233 := Tryz.sizeOf219
  v233 := Tryz.zeroValue219
  g17 := by kernel_rfl
  g18 := by kernel_rfl
  g19 := by kernel_rfl
  i0 := by kernel_rfl
  i2 := by kernel_rfl
  i3 := by kernel_rfl
  i4 := by kernel_rfl
  i5 := by kernel_rfl
  i9 := by kernel_rfl
  i20 := by kernel_rfl
  i37 := by kernel_rfl
  i46 := by kernel_rfl
  i51 := by kernel_rfl
  i53 := by kernel_rfl
  i171 := by kernel_rfl
  i173 := by kernel_rfl
  i212 := by kernel_rfl
  i232 := by kernel_rfl
  i233 := by kernel_rfl
  m17 := by kernel_rfl
  m18 := by kernel_rfl
  m19 := by kernel_rfl }
open Go.RowKit Go.Sort Go.Lib in
/-- strconv.Itoa: "Itoa is equivalent to FormatInt(int64(i), 10).": i's DECIMAL NUMERAL ('Lib.itoa': a '-' where i is negative, then the digits), FOR EVERY int. The world behind the call: the world before it, new blocks behind the heap (the library's 'var a [24]byte'), draws. (LAID: no walk: one application.) -/
theorem Tryz.strconv_Itoa (n : Int) (h0 : -9223372036854775808 ≤ n) (h1 : n ≤ 9223372036854775807) (w : World) (htab : Lib.TabIs Tryz.prog w "internal/strconv.uint64pow10" .u64 Lib.pow10Tab) :
    Calls Tryz.prog 139 #[.int .i64 n] w fun e w' => e = .returned (.string ⟨(Lib.itoa n).toArray⟩) ∧ ∃ k os, w' = grow (w.drewN k) os := Any.strconv_Itoa Tryz.laysM171 n h0 h1 w htab
end Go.Proofs
namespace Go.Proofs.YtelphbcdjfdjpaaGreatDoor
open Go.RowKit
set_option linter.all false

theorem sc_new (w : World) (b : Nat) (hB : w.heap.size = b) : ScAt b 0 0 0 (w.alloc (.cells #[.int .u64 0, .int .u64 0, .int .i64 0] 198)) := by
  subst hB
  exact heap_new w _
theorem bitLen_le : ∀ k x, k ≤ 64 → x < 2 ^ k → Lib.bitLen x ≤ k := by
  intro k
  induction k with
  | zero =>
    intro x _ h
    have : x = 0 := by simp at h; exact h
    subst this
    decide
  | succ k ih =>
    intro x hk h
    by_cases h0 : x = 0
    · subst h0
      have : Lib.bitLen 0 = 0 := by decide
      omega
    · have hp : 2 ^ (k + 1) ≤ 2 ^ 64 := Nat.pow_le_pow_right (by omega) hk
      rw [Lib.bitLen_half x h0 (by omega)]
      have := ih (x / 2) (by omega) (by rw [Nat.pow_succ] at h; omega)
      omega
theorem bitLen_pos (x : Nat) (h0 : x ≠ 0) (h : x < 2 ^ 64) : 1 ≤ Lib.bitLen x := by
  rw [Lib.bitLen_half x h0 h]
  omega
set_option maxHeartbeats 8000000 in
set_option maxRecDepth 100000 in
theorem pf64_any (d : Nat) (hd0 : 1 ≤ d) (hd : d < 18446744073709551616) (p : Int) (hp : -348 ≤ p ∧ p < 348) : ∃ (v : Nat) (er : Value), ErOk er ∧ ∀ (N : Nat) (w : World), ScaleTab N w → N ≤ w.heap.size →
    Calls Tryz.prog 169 #[.int .u64 (d : Int), .int .i64 p, .int .u64 0] w fun e w' => e = .returned (.tuple #[.float .f64 v, er]) ∧ Below w.heap.size w w' := by
  have hln := fun w => Tryz.bits_Len64 (d : Int) w (by omega) (by omega)
  rw [Int.toNat_natCast] at hln
  have hb1 := bitLen_pos d (by omega) hd
  have hb2 := bitLen_le 64 d (by omega) hd
  obtain ⟨b, hb⟩ : ∃ b, Lib.bitLen d = b := ⟨_, rfl⟩
  rw [hb] at hln hb1 hb2
  obtain ⟨bz, hbz⟩ : ∃ bz : Int, (b : Int) = bz := ⟨_, rfl⟩
  rw [hbz] at hln
  have hlp := lp_any p (by omega)
  obtain ⟨lp, hlpe⟩ : ∃ lp : Int, p * 108853 / 32768 = lp := ⟨_, rfl⟩
  rw [hlpe] at hlp
  have hlb : -1200 ≤ lp ∧ lp ≤ 1200 := by omega
  obtain ⟨q1, hq1⟩ : ∃ q1 : Int, 53 - bz = q1 := ⟨_, rfl⟩
  obtain ⟨q2, hq2⟩ : ∃ q2 : Int, q1 - lp = q2 := ⟨_, rfl⟩
  obtain ⟨ez, hez⟩ : ∃ ez : Int, min 1074 q2 = ez := ⟨_, rfl⟩
  obtain ⟨q3, hq3⟩ : ∃ q3 : Int, 64 - bz = q3 := ⟨_, rfl⟩
  obtain ⟨q4, hq4⟩ : ∃ q4 : Int, ez - q3 = q4 := ⟨_, rfl⟩
  have g1 : IntKind.i64.wrap (53 - bz) = q1 := by rw [IntWalk.i64_in _ (by omega), hq1]
  have g1' : wrap64 (53 - bz) = q1 := by unfold wrap64; omega
  have g2 : IntKind.i64.wrap (q1 - lp) = q2 := by rw [IntWalk.i64_in _ (by omega), hq2]
  have g2' : wrap64 (q1 - lp) = q2 := by unfold wrap64; omega
  have g3 : IntKind.i64.wrap (64 - bz) = q3 := by rw [IntWalk.i64_in _ (by omega), hq3]
  have g3' : wrap64 (64 - bz) = q3 := by unfold wrap64; omega
  have g4 : IntKind.i64.wrap (ez - q3) = q4 := by rw [IntWalk.i64_in _ (by omega), hq4]
  have g4' : wrap64 (ez - q3) = q4 := by unfold wrap64; omega
  obtain ⟨sz, hsz⟩ : ∃ sz : Int, -(q4 + lp + 3) = sz := ⟨_, rfl⟩
  have hs8 : 8 ≤ sz := by omega
  have hq30 : 0 ≤ q3 ∧ q3 ≤ 63 := by omega
  have hpre := fun (N B b0 : Nat) (hN : N ≤ B) (hB : B ≤ b0) w (h : ScAt b0 0 0 0 w) (hT : ScaleTab N w) => prescale_any N B b0 hN hB q4 p lp (by omega) (by omega) (by omega) w h hT
  rw [hsz] at hpre
  obtain ⟨hib1, hib2⟩ := sHi_lt (p + 348).toNat (by rw [rows_len]; omega)
  obtain ⟨hi, hhi⟩ : ∃ hi, sHi (p + 348).toNat = hi := ⟨_, rfl⟩
  obtain ⟨lo, hlo⟩ : ∃ lo, sLo (p + 348).toNat = lo := ⟨_, rfl⟩
  rw [hhi, hlo] at hpre
  rw [hhi] at hib1
  rw [hlo] at hib2
  obtain ⟨dz, hdz⟩ : ∃ dz : Int, (d : Int) = dz := ⟨_, rfl⟩
  rw [hdz] at hln
  have x2 := x_from2
  have HPRE := Lib.hid hpre
  have hl10 := hq30.1
  have HS8 := Lib.hid hs8
  have HIB := Lib.hid (And.intro hib1 hib2)
  have HQ3 := Lib.hid hq30
  have HEZ := Lib.hid (show -3000 ≤ ez ∧ ez ≤ 3000 by omega)
  have HD := Lib.hid (show (d : Int) = dz ∧ 0 ≤ dz ∧ dz < 18446744073709551616 by omega)
  rw [hdz]
  clear hd hd0 hp hb hbz hlpe hlb hq1 hq2 hq3 hq4 hsz hs8 hq30 hpre hib1 hib2 hhi hlo hdz hb1 hb2
  by_cases h64 : 64 ≤ sz
  · apply Exists.intro
    apply Exists.intro
    refine And.intro ?_ ?_
    rotate_left
    intro N w hT hN
    obtain ⟨B, hB⟩ : ∃ B, w.heap.size = B := ⟨_, rfl⟩
    have hsc := sc_new w B hB
    have hbel : Below B w (w.alloc (.cells #[.int .u64 0, .int .u64 0, .int .i64 0] 198)) := (Below.refl _ _).alloc (by omega) _
    have hT2 := hT.keep hbel (by omega)
    rw [hB] at hN
    have hpr := HPRE.out N B B hN (Nat.le_refl _) _ hsc hT2
    have HPR := Lib.hid hpr
    have HBEL := Lib.hid hbel
    have HB := Lib.hid hB
    rw [hB]
    clear hpr hbel hsc hT2 hT hN hB
    go_enter Tryz.func169, Tryz.ntmps169
    go_wp2_with (first | (go_at_call 171; (with_reducible refine (hln _).mono ?_); rintro e1 w9 ⟨rfl, h9⟩; cases h9) | (go_at_call 178; (with_reducible refine (hlp _).mono ?_); rintro e1 w9 ⟨rfl, rfl⟩) | (go_at_call 179; rw [HB.out]; refine HPR.out.mono ?_; rintro e1 w10 ⟨rfl, hsc2, hb2⟩; obtain ⟨k0, k1, k2⟩ := hsc2.cells))
    go_ret2
    exact ⟨rfl, HBEL.out.trans hb2⟩
    first | exact .inl rfl | exact .inr rfl
  · obtain ⟨s, hs⟩ : ∃ s : Nat, (s : Int) = sz := ⟨sz.toNat, by have := HS8.out; omega⟩
    obtain ⟨xn, hxn⟩ : ∃ xn : Nat, d * 2 ^ q3.toNat % 18446744073709551616 = xn := ⟨_, rfl⟩
    have hxb : xn < 18446744073709551616 := by omega
    obtain ⟨u, hus⟩ := uscale_any xn hi lo s hxb HIB.out.1 HIB.out.2 (by omega)
    rw [hs] at hus
    obtain ⟨xz, hxz⟩ : ∃ xz : Int, (xn : Int) = xz := ⟨_, rfl⟩
    rw [hxz] at hus
    have v1 : IntKind.u64.wrap (dz * 2 ^ q3.toNat) = xz := by
      rw [← hxz, ← hxn, ← HD.out.1, ← wrap_mod]
      simp
    have v2 : IntKind.u64.wrap (dz * 2 ^ min q3.toNat 64) = xz := by
      rw [Nat.min_eq_left (by have := HQ3.out; omega)]
      exact v1
    have hun := unmin_any
    obtain ⟨K, hK⟩ : ∃ K : Int, (36028797018963966 : Int) = K := ⟨_, rfl⟩
    rw [hK] at hun
    clear hK
    obtain ⟨c, hc⟩ : ∃ c, decide (K ≤ u) = c := ⟨_, rfl⟩
    have b2 := bool2_i
    clear hs hxn hxb hxz
    cases c
    · obtain ⟨r, hrd⟩ := round_any (bits .or .u64 u (bits .and .u64 u 1))
      obtain ⟨e5, he5⟩ : ∃ e5 : Int, ez = e5 := ⟨_, rfl⟩
      have hez2 := HEZ.out
      have g5 : IntKind.i64.wrap ez = e5 := by rw [IntWalk.i64_in _ (by omega), he5]
      have g5' : wrap64 ez = e5 := by unfold wrap64; omega
      obtain ⟨e6, he6⟩ : ∃ e6 : Int, -e5 = e6 := ⟨_, rfl⟩
      have g6 : IntKind.i64.wrap (-e5) = e6 := by rw [IntWalk.i64_in _ (by omega), he6]
      have g6' : wrap64 (-e5) = e6 := by unfold wrap64; omega
      obtain ⟨v, er, her, hpk⟩ := pack_any (bits .or .u64 0 r) e6 (by omega)
      clear he5 he6 hez2
      refine ⟨v, er, her, ?_⟩
      intro N w hT hN
      obtain ⟨B, hB⟩ : ∃ B, w.heap.size = B := ⟨_, rfl⟩
      have hsc := sc_new w B hB
      have hbel : Below B w (w.alloc (.cells #[.int .u64 0, .int .u64 0, .int .i64 0] 198)) := (Below.refl _ _).alloc (by omega) _
      have hT2 := hT.keep hbel (by omega)
      rw [hB] at hN
      have hpr := HPRE.out N B B hN (Nat.le_refl _) _ hsc hT2
      have HPR := Lib.hid hpr
      have HBEL := Lib.hid hbel
      have HB := Lib.hid hB
      rw [hB]
      clear hpr hbel hsc hT2 hT hN hB
      go_enter Tryz.func169, Tryz.ntmps169
      go_wp2_with (first | (go_at_call 183; (with_reducible refine (hrd _).mono ?_); rintro e1 w12 ⟨rfl, rfl⟩) | (go_at_call 186; (with_reducible refine (hpk _).mono ?_); rintro e1 w12 ⟨rfl, rfl⟩) | (go_at_call 180; (with_reducible refine (hus _ _ hsc2).mono ?_); rintro e1 w11 ⟨rfl, n11, rfl⟩) | (go_at_call 181; (with_reducible refine (hun _).mono ?_); rintro e1 w12 ⟨rfl, rfl⟩) | (go_at_call 172; refine (b2 _ _).mono ?_; rintro e1 w12 ⟨rfl, rfl⟩) | (go_at_call 171; (with_reducible refine (hln _).mono ?_); rintro e1 w9 ⟨rfl, h9⟩; cases h9) | (go_at_call 178; (with_reducible refine (hlp _).mono ?_); rintro e1 w9 ⟨rfl, rfl⟩) | (go_at_call 179; rw [HB.out]; refine HPR.out.mono ?_; rintro e1 w10 ⟨rfl, hsc2, hb2⟩; obtain ⟨k0, k1, k2⟩ := hsc2.cells))
      go_ret2
      exact ⟨rfl, dec_drewN (HBEL.out.trans hb2) _⟩
    · obtain ⟨r, hrd⟩ := round_any (bits .or .u64 (u / 2) (bits .and .u64 u 1))
      obtain ⟨e5, he5⟩ : ∃ e5 : Int, ez - 1 = e5 := ⟨_, rfl⟩
      have hez2 := HEZ.out
      have g5 : IntKind.i64.wrap (ez - 1) = e5 := by rw [IntWalk.i64_in _ (by omega), he5]
      have g5' : wrap64 (ez - 1) = e5 := by unfold wrap64; omega
      obtain ⟨e6, he6⟩ : ∃ e6 : Int, -e5 = e6 := ⟨_, rfl⟩
      have g6 : IntKind.i64.wrap (-e5) = e6 := by rw [IntWalk.i64_in _ (by omega), he6]
      have g6' : wrap64 (-e5) = e6 := by unfold wrap64; omega
      obtain ⟨v, er, her, hpk⟩ := pack_any (bits .or .u64 0 r) e6 (by omega)
      clear he5 he6 hez2
      refine ⟨v, er, her, ?_⟩
      intro N w hT hN
      obtain ⟨B, hB⟩ : ∃ B, w.heap.size = B := ⟨_, rfl⟩
      have hsc := sc_new w B hB
      have hbel : Below B w (w.alloc (.cells #[.int .u64 0, .int .u64 0, .int .i64 0] 198)) := (Below.refl _ _).alloc (by omega) _
      have hT2 := hT.keep hbel (by omega)
      rw [hB] at hN
      have hpr := HPRE.out N B B hN (Nat.le_refl _) _ hsc hT2
      have HPR := Lib.hid hpr
      have HBEL := Lib.hid hbel
      have HB := Lib.hid hB
      rw [hB]
      clear hpr hbel hsc hT2 hT hN hB
      go_enter Tryz.func169, Tryz.ntmps169
      go_wp2_with (first | (go_at_call 183; (with_reducible refine (hrd _).mono ?_); rintro e1 w12 ⟨rfl, rfl⟩) | (go_at_call 186; (with_reducible refine (hpk _).mono ?_); rintro e1 w12 ⟨rfl, rfl⟩) | (go_at_call 180; (with_reducible refine (hus _ _ hsc2).mono ?_); rintro e1 w11 ⟨rfl, n11, rfl⟩) | (go_at_call 181; (with_reducible refine (hun _).mono ?_); rintro e1 w12 ⟨rfl, rfl⟩) | (go_at_call 172; refine (b2 _ _).mono ?_; rintro e1 w12 ⟨rfl, rfl⟩) | (go_at_call 171; (with_reducible refine (hln _).mono ?_); rintro e1 w9 ⟨rfl, h9⟩; cases h9) | (go_at_call 178; (with_reducible refine (hlp _).mono ?_); rintro e1 w9 ⟨rfl, rfl⟩) | (go_at_call 179; rw [HB.out]; refine HPR.out.mono ?_; rintro e1 w10 ⟨rfl, hsc2, hb2⟩; obtain ⟨k0, k1, k2⟩ := hsc2.cells))
      go_ret2
      exact ⟨rfl, dec_drewN (HBEL.out.trans hb2) _⟩
end Go.Proofs.YtelphbcdjfdjpaaGreatDoor
