/- Floats by one product or quotient: atof64exact. What floats are: a nearest one is a number or an infinity. Conditions: those that each theorem names. Scaling of a number's digits: the small functions under parseFloat64. Conditions: those that each theorem names. The table of scales, prescale and uscale. Conditions: those that each theorem names. -/
import Derived.Test.YtelphbcdjfdjpaaGreatDoorZ6
import Derived.Laws.Externs
import Derived.Test.YtelphbcdjfdjpaaGreatDoorShelf
import GoSem.PinnedTables
namespace Go.Proofs.YtelphbcdjfdjpaaGreatDoor
open Go.RowKit
set_option linter.all false

/-- No number is it that has no value. -/
def NoNan (x : Nat) : Prop := ((FloatKind.f64.format.read x).isNaN) = false
theorem word_noNan (neg : Bool) (r : Nat) (hr : r ≤ Ieee.double.infRung) : (Ieee.double.read (Ieee.double.word neg r)).isNaN = false := by
  have hI : Ieee.double.infRung = 9218868437227405312 := by kernel_rfl
  have hW : Ieee.double.signWeight = 9223372036854775808 := by kernel_rfl
  have hm : Ieee.double.word neg r % Ieee.double.signWeight = r := by
    unfold Ieee.Format.word
    rw [hI] at hr
    rw [hW]
    cases neg
    · rw [if_neg (by decide)]; omega
    · rw [if_pos rfl]; omega
  unfold Ieee.Format.read
  simp only [hm]
  by_cases h1 : r < Ieee.double.binade
  · rw [if_pos h1]; rfl
  · rw [if_neg h1]
    by_cases h2 : r < Ieee.double.infRung
    · rw [if_pos h2]; rfl
    · rw [if_neg h2, if_pos (by omega)]; rfl
theorem write_noNan (d : Ieee.Datum) (h : d.isNaN = false) : NoNan (Ieee.double.write d) := by
  cases d with
  | number s m p =>
    show (Ieee.double.read (Ieee.double.nearest s m p)).isNaN = false
    unfold Ieee.Format.nearest
    split
    · exact word_noNan s 0 (Nat.zero_le _)
    · exact word_noNan s _ (Nat.min_le_right _ _)
  | infinity s => exact word_noNan s _ (Nat.le_refl _)
  | nan s t => cases h
/-- A number that isn't nought. -/
def NumNz (x : Nat) : Prop := ∃ s m p, FloatKind.f64.format.read x = .number s m p ∧ m ≠ 0
theorem mul_some (a b : Nat) (ha : NoNan a) (hb : NumNz b) : ∃ r, FloatKind.f64.format.mul a b = some r ∧ NoNan r := by
  obtain ⟨s, m, p, hb, hm⟩ := hb
  unfold NoNan at ha
  unfold Ieee.Format.mul
  rw [hb]
  cases hA : FloatKind.f64.format.read a with
  | number t n q => exact ⟨_, rfl, write_noNan _ rfl⟩
  | infinity t =>
    refine ⟨Ieee.double.write (.infinity (t ^^ s)), ?_, write_noNan _ rfl⟩
    show (if m = 0 then none else some (Ieee.Datum.infinity (t ^^ s))).map _ = _
    rw [if_neg hm]
    rfl
  | nan t n => rw [hA] at ha; cases ha
theorem div_some (a b : Nat) (ha : NoNan a) (hb : NumNz b) : ∃ r, FloatKind.f64.format.div a b = some r := by
  obtain ⟨s, m, p, hb, hm⟩ := hb
  unfold NoNan at ha
  unfold Ieee.Format.div
  rw [hb]
  cases hA : FloatKind.f64.format.read a with
  | number t n q =>
    show ∃ r, (if m = 0 then (if n = 0 then none else some (Ieee.Datum.infinity (t ^^ s))) else _).map _ = some r
    rw [if_neg hm]
    exact ⟨_, rfl⟩
  | infinity t => exact ⟨_, rfl⟩
  | nan t n => rw [hA] at ha; cases ha
theorem int_noNan (n : Int) : NoNan (floatOfInt .f64 n) := by
  show NoNan (Ieee.double.write (.number (decide (n < 0)) n.natAbs 0))
  exact write_noNan _ rfl
theorem run_mul (T : TypeId) (a b r : Nat) (h : FloatKind.f64.format.mul a b = some r) (w : World) : (binOp .mul T (.float .f64 a) (.float .f64 b)).run Tryz.prog w = .ok (.float .f64 r) w := by
  simp [binOp, Go.Op.floatArith, h]
theorem run_quo (T : TypeId) (a b r : Nat) (h : FloatKind.f64.format.div a b = some r) (w : World) : (binOp .quo T (.float .f64 a) (.float .f64 b)).run Tryz.prog w = .ok (.float .f64 r) w := by
  simp [binOp, Go.Op.floatArith, h]
def pow10F : List Nat := [4607182418800017408, 4621819117588971520, 4636737291354636288, 4652007308841189376, 4666723172467343360, 4681608360884174848, 4696837146684686336, 4711630319722168320, 4726483295884279808, 4741671816366391296, 4756540486875873280, 4771362005757984768, 4786511204640096256, 4801453603149578240, 4816244402031689728, 4831355200913801216, 4846369599423283200, 4861130398305394688, 4876203697187506176, 4891288408196988160, 4906019910204099648, 4921056587992461136, 4936209963552724370]
def p10 (i : Nat) : Nat := pow10F.getD i 0
def nzB (x : Nat) : Bool := match FloatKind.f64.format.read x with
  | .number _ m _ => m != 0
  | _ => false
theorem nz_of (x : Nat) (h : nzB x = true) : NumNz x := by
  unfold nzB at h
  split at h
  · rename_i s m p hr
    exact ⟨s, m, p, hr, bne_iff_ne.1 h⟩
  · cases h
theorem p10_nz (i : Nat) (h : i < 23) : NumNz (p10 i) := by
  refine nz_of _ ?_
  have hall : ((List.range 23).all fun i => nzB (p10 i)) = true := by kernel_rfl
  exact List.all_eq_true.1 hall i (List.mem_range.2 h)
/-- The table of tens as floats. -/
def TenAt (N : Nat) (w : World) : Prop := ∃ g off cap : Nat, g < N ∧ 14 < N ∧ w.cell? ⟨14, 0, none⟩ = some (.slice (some ⟨g, off, none⟩) 23 cap) ∧ ∀ i, i < 23 → w.cell? ⟨g, off + i, none⟩ = some (.float .f64 (p10 i))
theorem TenAt.keep {N B : Nat} {w w' : World} (h : TenAt N w) (k : Below B w w') (hN : N ≤ B) : TenAt N w' := by
  obtain ⟨g, off, cap, h1, h2, h3, h4⟩ := h
  exact ⟨g, off, cap, h1, h2, by rw [below_cell k (by omega)]; exact h3, fun i hi => by rw [below_cell k (by omega)]; exact h4 i hi⟩
abbrev ExactOk (d : Nat) (p : Int) (v : Nat) (ok : Bool) : Prop := ∀ N w, FT N w → TenAt N w →
    Calls Tryz.prog 168 #[.int .u64 (d : Int), .int .i64 p, .bool false] w fun e w' => e = .returned (.tuple #[.float .f64 v, .bool ok]) ∧ w = w'
set_option maxHeartbeats 4000000 in
theorem exact_any (d : Nat) (hd : d < 18446744073709551616) (p : Int) (hp : -1000000 ≤ p ∧ p ≤ 1000000) : ∃ v ok, ExactOk d p v ok := by
  obtain ⟨dz, hdz⟩ : ∃ dz : Int, (d : Int) = dz := ⟨_, rfl⟩
  by_cases h52 : d / 4503599627370496 = 0
  · have hs : dz / 4503599627370496 = 0 := by omega
    obtain ⟨F, hF⟩ : ∃ F, floatOfInt .f64 dz = F := ⟨_, rfl⟩
    have hFn : NoNan F := by rw [← hF]; exact int_noNan dz
    by_cases hp0 : p = 0
    · refine ⟨F, true, fun N w hT hX => ?_⟩
      rw [hdz]
      obtain ⟨i0, i1, i2, i3⟩ := hT.info
      subst hp0
      go_enter Tryz.func168, Tryz.ntmps168
      go_wp2
      go_ret2
      exact ⟨rfl, rfl⟩
    · have hp0' : (p == 0) = false := beq_eq_false_iff_ne.2 hp0
      by_cases hpos : 0 < p
      · by_cases h37 : p ≤ 37
        · by_cases h22 : 22 < p
          · obtain ⟨f1, hf1, hn1⟩ := mul_some F (p10 (p - 22).toNat) hFn (p10_nz _ (by omega))
            have r1 := run_mul 30 F (p10 (p - 22).toNat) f1 hf1
            obtain ⟨f2, hf2, hn2⟩ := mul_some f1 (p10 22) hn1 (p10_nz _ (by omega))
            have r2 := run_mul 30 f1 (p10 22) f2 hf2
            obtain ⟨q, hq⟩ : ∃ q : Int, p - 22 = q := ⟨_, rfl⟩
            have g1 : IntKind.i64.wrap (p - 22) = q := by rw [IntWalk.i64_in _ (by omega), hq]
            have g2 : wrap64 (p - 22) = q := by unfold wrap64; omega
            rw [hq] at r1
            obtain ⟨c1, hc1⟩ : ∃ c1, (FloatKind.f64.format.order f1 4831355200913801216 == some Ordering.gt) = c1 := ⟨_, rfl⟩
            obtain ⟨c2, hc2⟩ : ∃ c2, (FloatKind.f64.format.order f1 14054727237768577024 == some Ordering.lt) = c2 := ⟨_, rfl⟩
            have hq0 : 0 ≤ q := by omega
            have hq1 : q < 23 := by omega
            clear hf1 hf2 hn1 hn2 hFn
            cases c1
            · cases c2
              · refine ⟨f2, true, fun N w hT hX => ?_⟩
                rw [hdz]
                obtain ⟨i0, i1, i2, i3⟩ := hT.info
                obtain ⟨g, off, cap, x1, x2, x3, x4⟩ := hX
                have x5 := x4 q.toNat (by omega)
                have x6 := x4 22 (by omega)
                generalize p10 q.toNat = t1 at *
                generalize p10 22 = t2 at *
                clear x4
                go_enter Tryz.func168, Tryz.ntmps168
                go_wp2
                go_ret2
                exact ⟨rfl, rfl⟩
              · refine ⟨f1, false, fun N w hT hX => ?_⟩
                rw [hdz]
                obtain ⟨i0, i1, i2, i3⟩ := hT.info
                obtain ⟨g, off, cap, x1, x2, x3, x4⟩ := hX
                have x5 := x4 q.toNat (by omega)
                generalize p10 q.toNat = t1 at *
                clear x4
                go_enter Tryz.func168, Tryz.ntmps168
                go_wp2
                go_ret2
                exact ⟨rfl, rfl⟩
            · refine ⟨f1, false, fun N w hT hX => ?_⟩
              rw [hdz]
              obtain ⟨i0, i1, i2, i3⟩ := hT.info
              obtain ⟨g, off, cap, x1, x2, x3, x4⟩ := hX
              have x5 := x4 q.toNat (by omega)
              generalize p10 q.toNat = t1 at *
              clear x4
              go_enter Tryz.func168, Tryz.ntmps168
              go_wp2
              go_ret2
              exact ⟨rfl, rfl⟩
          · obtain ⟨f2, hf2, hn2⟩ := mul_some F (p10 p.toNat) hFn (p10_nz _ (by omega))
            have r2 := run_mul 30 F (p10 p.toNat) f2 hf2
            obtain ⟨c1, hc1⟩ : ∃ c1, (FloatKind.f64.format.order F 4831355200913801216 == some Ordering.gt) = c1 := ⟨_, rfl⟩
            obtain ⟨c2, hc2⟩ : ∃ c2, (FloatKind.f64.format.order F 14054727237768577024 == some Ordering.lt) = c2 := ⟨_, rfl⟩
            have hq0 : 0 ≤ p := by omega
            have hq1 : p < 23 := by omega
            clear hf2 hn2 hFn
            cases c1
            · cases c2
              · refine ⟨f2, true, fun N w hT hX => ?_⟩
                rw [hdz]
                obtain ⟨i0, i1, i2, i3⟩ := hT.info
                obtain ⟨g, off, cap, x1, x2, x3, x4⟩ := hX
                have x5 := x4 p.toNat (by omega)
                generalize p10 p.toNat = t1 at *
                clear x4
                go_enter Tryz.func168, Tryz.ntmps168
                go_wp2
                go_ret2
                exact ⟨rfl, rfl⟩
              · refine ⟨F, false, fun N w hT hX => ?_⟩
                rw [hdz]
                obtain ⟨i0, i1, i2, i3⟩ := hT.info
                clear hX
                go_enter Tryz.func168, Tryz.ntmps168
                go_wp2
                go_ret2
                exact ⟨rfl, rfl⟩
            · refine ⟨F, false, fun N w hT hX => ?_⟩
              rw [hdz]
              obtain ⟨i0, i1, i2, i3⟩ := hT.info
              clear hX
              go_enter Tryz.func168, Tryz.ntmps168
              go_wp2
              go_ret2
              exact ⟨rfl, rfl⟩
        · refine ⟨F, false, fun N w hT hX => ?_⟩
          rw [hdz]
          obtain ⟨i0, i1, i2, i3⟩ := hT.info
          have hn : ¬ p < 0 := by omega
          clear hX
          go_enter Tryz.func168, Tryz.ntmps168
          go_wp2
          go_ret2
          exact ⟨rfl, rfl⟩
      · have hneg : p < 0 := by omega
        by_cases h22 : -22 ≤ p
        · obtain ⟨f2, hf2⟩ := div_some F (p10 (-p).toNat) hFn (p10_nz _ (by omega))
          have r2 := run_quo 30 F (p10 (-p).toNat) f2 hf2
          obtain ⟨q, hq⟩ : ∃ q : Int, -p = q := ⟨_, rfl⟩
          have g1 : IntKind.i64.wrap (-p) = q := by rw [IntWalk.i64_in _ (by omega), hq]
          have g2 : wrap64 (-p) = q := by unfold wrap64; omega
          rw [hq] at r2
          have hq0 : 0 ≤ q := by omega
          have hq1 : q < 23 := by omega
          clear hf2 hFn
          refine ⟨f2, true, fun N w hT hX => ?_⟩
          rw [hdz]
          obtain ⟨i0, i1, i2, i3⟩ := hT.info
          obtain ⟨g, off, cap, x1, x2, x3, x4⟩ := hX
          have x5 := x4 q.toNat (by omega)
          generalize p10 q.toNat = t1 at *
          clear x4
          go_enter Tryz.func168, Tryz.ntmps168
          go_wp2
          go_ret2
          exact ⟨rfl, rfl⟩
        · refine ⟨F, false, fun N w hT hX => ?_⟩
          rw [hdz]
          obtain ⟨i0, i1, i2, i3⟩ := hT.info
          clear hX
          go_enter Tryz.func168, Tryz.ntmps168
          go_wp2
          go_ret2
          exact ⟨rfl, rfl⟩
  · have hs : (dz / 4503599627370496 != 0) = true := bne_iff_ne.2 (by omega)
    refine ⟨0, false, fun N w hT hX => ?_⟩
    rw [hdz]
    obtain ⟨i0, i1, i2, i3⟩ := hT.info
    clear hX
    go_enter Tryz.func168, Tryz.ntmps168
    go_wp2
    go_ret2
    exact ⟨rfl, rfl⟩
end Go.Proofs.YtelphbcdjfdjpaaGreatDoor
namespace Go.Proofs.YtelphbcdjfdjpaaGreatDoor
open Go.RowKit
set_option linter.all false

theorem x_from2 (v : Int) (W : World) : (callFunc 167 #[.int .u64 v]).run Tryz.prog W = .ok (.value (.float .f64 v.toNat)) W := by
  rw [run_callFunc_extern Tryz.func167 (by kernel_rfl) (by kernel_rfl) (by kernel_rfl) (e := Extern.MathFloatBits.float64frombits) (by kernel_rfl) #[.int .u64 v] W]
  rfl
theorem round_any (u : Int) : ∃ r : Int, ∀ w, Calls Tryz.prog 183 #[.int .u64 u] w fun e w' => e = .returned (.int .u64 r) ∧ w = w' := by
  apply Exists.intro
  intro w
  go_enter Tryz.func183, Tryz.ntmps183
  go_wp2
  go_ret
  exact ⟨rfl, rfl⟩
theorem bool2_u (c : Bool) (w : World) : Calls Tryz.prog 166 #[.bool c] w fun e w' => e = .returned (.int .u64 (if c then 1 else 0)) ∧ w = w' := by
  cases c
  · go_enter Tryz.func166, Tryz.ntmps166
    go_wp2
    go_ret
    exact ⟨rfl, rfl⟩
  · go_enter Tryz.func166, Tryz.ntmps166
    go_wp2
    go_ret
    exact ⟨rfl, rfl⟩
theorem bool2_i (c : Bool) (w : World) : Calls Tryz.prog 172 #[.bool c] w fun e w' => e = .returned (.int .i64 (if c then 1 else 0)) ∧ w = w' := by
  cases c
  · go_enter Tryz.func172, Tryz.ntmps172
    go_wp2
    go_ret
    exact ⟨rfl, rfl⟩
  · go_enter Tryz.func172, Tryz.ntmps172
    go_wp2
    go_ret
    exact ⟨rfl, rfl⟩
theorem unmin_any (w : World) : Calls Tryz.prog 181 #[.int .u64 9007199254740992] w fun e w' => e = .returned (.int .u64 36028797018963966) ∧ w = w' := by
  go_enter Tryz.func181, Tryz.ntmps181
  go_wp2
  go_ret
  exact ⟨rfl, rfl⟩
theorem lp_any (p : Int) (hp : -400 ≤ p ∧ p ≤ 400) (w : World) : Calls Tryz.prog 178 #[.int .i64 p] w fun e w' => e = .returned (.int .i64 (p * 108853 / 32768)) ∧ w = w' := by
  have h1 : IntKind.i64.wrap (p * 108853) = p * 108853 := IntWalk.i64_in _ (by omega)
  have h2 : wrap64 (p * 108853) = p * 108853 := by unfold wrap64; omega
  go_enter Tryz.func178, Tryz.ntmps178
  go_wp2
  go_ret
  exact ⟨rfl, rfl⟩
/-- No error, or that of the range. -/
def ErOk (er : Value) : Prop := er = .nilIface ∨ er = .iface 136 (.int .i64 1)
/-- What pack64 answers: a float, and an error or none. -/
theorem pack_any (m e : Int) (he : -1000000 ≤ e ∧ e ≤ 1000000) : ∃ (v : Nat) (er : Value), ErOk er ∧ ∀ w, Calls Tryz.prog 186 #[.int .u64 m, .int .i64 e] w fun e w' => e = .returned (.tuple #[.float .f64 v, er]) ∧ w = w' := by
  have x2 := x_from2
  by_cases h0 : bits .and .u64 m 4503599627370496 = 0
  · have ht : (bits .and .u64 m 4503599627370496 == 0) = true := beq_iff_eq.2 h0
    clear h0
    apply Exists.intro
    apply Exists.intro
    refine And.intro ?_ ?_
    rotate_left
    intro w
    go_enter Tryz.func186, Tryz.ntmps186
    go_wp2
    go_ret2
    exact ⟨rfl, rfl⟩
    first | exact .inl rfl | exact .inr rfl
  · have ht : (bits .and .u64 m 4503599627370496 == 0) = false := beq_eq_false_iff_ne.2 h0
    clear h0
    by_cases h1 : 972 ≤ e
    · apply Exists.intro
      apply Exists.intro
      refine And.intro ?_ ?_
      rotate_left
      intro w
      go_enter Tryz.func186, Tryz.ntmps186
      go_wp2
      go_ret2
      exact ⟨rfl, rfl⟩
      first | exact .inl rfl | exact .inr rfl
    · obtain ⟨q, hq⟩ : ∃ q : Int, 1075 + e = q := ⟨_, rfl⟩
      have h2 : IntKind.i64.wrap (1075 + e) = q := by rw [IntWalk.i64_in _ (by omega), hq]
      have h3 : wrap64 (1075 + e) = q := by unfold wrap64; omega
      have ht1 : decide (972 ≤ e) = false := decide_eq_false h1
      clear hq he h1
      apply Exists.intro
      apply Exists.intro
      refine And.intro ?_ ?_
      rotate_left
      intro w
      go_enter Tryz.func186, Tryz.ntmps186
      go_wp2
      go_ret2
      exact ⟨rfl, rfl⟩
      first | exact .inl rfl | exact .inr rfl
end Go.Proofs.YtelphbcdjfdjpaaGreatDoor
namespace Go.Proofs.YtelphbcdjfdjpaaGreatDoor
open Go.RowKit
set_option linter.all false

def sHi (i : Nat) : Nat := (Go.Pinned.pow10Rows.getD i (0, 0)).1
def sLo (i : Nat) : Nat := (Go.Pinned.pow10Rows.getD i (0, 0)).2
theorem rows_lt : (Go.Pinned.pow10Rows.all fun x => Nat.blt x.1 18446744073709551616 && Nat.blt x.2 18446744073709551616) = true := by kernel_rfl
theorem sHi_lt (i : Nat) (h : i < Go.Pinned.pow10Rows.length) : sHi i < 18446744073709551616 ∧ sLo i < 18446744073709551616 := by
  have := List.all_eq_true.1 rows_lt _ (List.getElem_mem h)
  unfold sHi sLo
  rw [List.getD_eq_getElem?_getD, List.getElem?_eq_getElem h, Option.getD_some]
  simpa [Nat.blt_eq] using this
theorem rows_len : Go.Pinned.pow10Rows.length = 696 := by kernel_rfl
/-- The table of scales. -/
def ScaleTab (N : Nat) (w : World) : Prop := 15 < N ∧ ∀ i, i < 696 → w.cell? ⟨15, i * 2, none⟩ = some (.int .u64 (sHi i : Int)) ∧ w.cell? ⟨15, i * 2 + 1, none⟩ = some (.int .u64 (sLo i : Int))
theorem ScaleTab.keep {N B : Nat} {w w' : World} (h : ScaleTab N w) (k : Below B w w') (hN : N ≤ B) : ScaleTab N w' :=
  ⟨h.1, fun i hi => ⟨by rw [below_cell k (by have := h.1; omega)]; exact (h.2 i hi).1, by rw [below_cell k (by have := h.1; omega)]; exact (h.2 i hi).2⟩⟩
/-- A block that holds a scale. -/
def ScAt (b : Nat) (hi lo : Nat) (s : Int) (w : World) : Prop := w.heap[b]? = some (.cells #[.int .u64 (hi : Int), .int .u64 (lo : Int), .int .i64 s] 198 (0, 0))
theorem ScAt.cells {b hi lo : Nat} {s : Int} {w : World} (h : ScAt b hi lo s w) : w.cell? ⟨b, 0, none⟩ = some (.int .u64 (hi : Int)) ∧ w.cell? ⟨b, 1, none⟩ = some (.int .u64 (lo : Int)) ∧ w.cell? ⟨b, 2, none⟩ = some (.int .i64 s) := by
  unfold ScAt at h
  refine ⟨?_, ?_, ?_⟩ <;> rw [Lib.cell_of_heap h] <;> rfl
theorem prescale_any (N B b : Nat) (hN : N ≤ B) (hB : B ≤ b) (e p lp : Int) (he : -1000000 ≤ e ∧ e ≤ 1000000) (hp : -348 ≤ p ∧ p < 348) (hlp : -1000000 ≤ lp ∧ lp ≤ 1000000) (w : World) (h : ScAt b 0 0 0 w) (hT : ScaleTab N w) :
    Calls Tryz.prog 179 #[.pointer (some ⟨b, 0, none⟩), .int .i64 e, .int .i64 p, .int .i64 lp] w fun en w' => en = .returned (.tuple #[]) ∧ ScAt b (sHi (p + 348).toNat) (sLo (p + 348).toNat) (-(e + lp + 3)) w' ∧ Below B w w' := by
  obtain ⟨c0, c1, c2⟩ := h.cells
  have hf := fun i => Lib.frozen_of_heap h i
  have f0 := hf 0
  have f1 := hf 1
  have f2 := hf 2
  obtain ⟨i, hi⟩ : ∃ i : Int, p + 348 = i := ⟨_, rfl⟩
  rw [hi]
  obtain ⟨t1, t2⟩ := hT.2 i.toNat (by omega)
  have hg := hT.1
  have w1 : IntKind.i64.wrap (p - -348) = i := by rw [IntWalk.i64_in _ (by omega)]; omega
  have w2 : IntKind.i64.wrap (p + 348) = i := by rw [IntWalk.i64_in _ (by omega), hi]
  have w2' : wrap64 (p + 348) = i := by unfold wrap64; omega
  obtain ⟨a, ha⟩ : ∃ a : Int, e + lp = a := ⟨_, rfl⟩
  have w3 : IntKind.i64.wrap (e + lp) = a := by rw [IntWalk.i64_in _ (by omega), ha]
  have w3' : wrap64 (e + lp) = a := by unfold wrap64; omega
  obtain ⟨a2, ha2⟩ : ∃ a2 : Int, a + 3 = a2 := ⟨_, rfl⟩
  have w4 : IntKind.i64.wrap (a + 3) = a2 := by rw [IntWalk.i64_in _ (by omega), ha2]
  have w4' : wrap64 (a + 3) = a2 := by unfold wrap64; omega
  obtain ⟨a3, ha3⟩ : ∃ a3 : Int, -a2 = a3 := ⟨_, rfl⟩
  have w5 : IntKind.i64.wrap (-a2) = a3 := by rw [IntWalk.i64_in _ (by omega), ha3]
  have w5' : wrap64 (-a2) = a3 := by unfold wrap64; omega
  rw [show -(e + lp + 3) = a3 by omega]
  have hi0 : 0 ≤ i := by omega
  have hi1 : i < 696 := by omega
  have H := Lib.hid h
  have hgb : ¬ b = 15 := by omega
  have hgb2 : ¬ 15 = b := by omega
  generalize sHi i.toNat = vh at *
  generalize sLo i.toNat = vl at *
  clear hi ha ha2 ha3 h hT hf
  go_enter Tryz.func179, Tryz.ntmps179
  go_wp2
  go_end0
  have h3 := dec_heap (i := 2) (dec_heap (i := 1) (dec_heap (i := 0) H.out (.int .u64 (vh : Int))) (.int .u64 (vl : Int))) (.int .i64 a3)
  exact ⟨rfl, h3, (((Below.refl _ _).setCell (p := ⟨b, 0, none⟩) hB _).setCell (p := ⟨b, 1, none⟩) hB _).setCell (p := ⟨b, 2, none⟩) hB _⟩
theorem and63 : ∀ s : Nat, s < 64 → bits .and .i64 (s : Int) 63 = (s : Int) := by decide +kernel
set_option maxHeartbeats 4000000 in
theorem uscale_any (x hi lo s : Nat) (hx : x < 18446744073709551616) (hh : hi < 18446744073709551616) (hl : lo < 18446744073709551616) (hs : s < 64) : ∃ u : Int, ∀ (b : Nat) (w : World), ScAt b hi lo (s : Int) w →
    Calls Tryz.prog 180 #[.int .u64 (x : Int), .pointer (some ⟨b, 0, none⟩)] w fun e w' => e = .returned (.int .u64 u) ∧ ∃ n, w' = w.drewN n := by
  have m1 := fun w => Tryz.bits_Mul64 x hi hx hh w
  have m2 := fun w => Tryz.bits_Mul64 x lo hx hl w
  obtain ⟨h1, e1⟩ : ∃ h1 : Int, ((x * hi / 18446744073709551616 : Nat) : Int) = h1 := ⟨_, rfl⟩
  obtain ⟨l1, e2⟩ : ∃ l1 : Int, ((x * hi % 18446744073709551616 : Nat) : Int) = l1 := ⟨_, rfl⟩
  obtain ⟨h2, e3⟩ : ∃ h2 : Int, ((x * lo / 18446744073709551616 : Nat) : Int) = h2 := ⟨_, rfl⟩
  obtain ⟨l2, e4⟩ : ∃ l2 : Int, ((x * lo % 18446744073709551616 : Nat) : Int) = l2 := ⟨_, rfl⟩
  rw [e1, e2] at m1
  rw [e3, e4] at m2
  have ha := and63 s hs
  obtain ⟨sz, hsz⟩ : ∃ sz : Int, (s : Int) = sz := ⟨_, rfl⟩
  rw [hsz] at ha
  have hs0 : 0 ≤ sz := by omega
  have hmin : min sz.toNat 64 = sz.toNat := by omega
  obtain ⟨xz, hxz⟩ : ∃ xz : Int, (x : Int) = xz := ⟨_, rfl⟩
  obtain ⟨hz, hhz⟩ : ∃ hz : Int, (hi : Int) = hz := ⟨_, rfl⟩
  obtain ⟨lz, hlz⟩ : ∃ lz : Int, (lo : Int) = lz := ⟨_, rfl⟩
  rw [hxz, hhz] at m1
  rw [hxz, hlz] at m2
  obtain ⟨sh, v1⟩ : ∃ sh : Int, h1 / 2 ^ min sz.toNat 64 = sh := ⟨_, rfl⟩
  obtain ⟨sl, v2⟩ : ∃ sl : Int, IntKind.u64.wrap (sh * 2 ^ min sz.toNat 64) = sl := ⟨_, rfl⟩
  have v3 : IntKind.u64.wrap (sh * 2 ^ sz.toNat) = sl := by rw [← v2, hmin]
  have hcell : ∀ (b : Nat) (w : World), ScAt b hi lo (s : Int) w → w.cell? ⟨b, 0, none⟩ = some (.int .u64 hz) ∧ w.cell? ⟨b, 1, none⟩ = some (.int .u64 lz) ∧ w.cell? ⟨b, 2, none⟩ = some (.int .i64 sz) := fun b w h => by
    have := h.cells
    rw [hhz, hlz, hsz] at this
    exact this
  have HC := Lib.hid hcell
  rw [hxz]
  clear e1 e2 e3 e4 hsz hxz hhz hlz hmin hcell hx hh hl hs
  obtain ⟨c, hc⟩ : ∃ c, (sl != h1) = c := ⟨_, rfl⟩
  cases c
  · have b2 := bool2_u
    obtain ⟨c2, hc2⟩ : ∃ c2, decide (l1 < h2) = c2 := ⟨_, rfl⟩
    obtain ⟨dz, hdz⟩ : ∃ dz : Int, IntKind.u64.wrap (l1 - h2) = dz := ⟨_, rfl⟩
    obtain ⟨c3, hc3⟩ : ∃ c3, decide (1 < dz) = c3 := ⟨_, rfl⟩
    cases c2 <;> cases c3
    all_goals
      apply Exists.intro
      intro b w hw
      obtain ⟨k0, k1, k2⟩ := HC.out b w hw
      clear hw
      go_enter Tryz.func180, Tryz.ntmps180
      go_wp2_with (first | (go_at_call 189; first | ((with_reducible refine (m1 _).mono ?_); rintro e1 w9 ⟨rfl, rfl⟩) | ((with_reducible refine (m2 _).mono ?_); rintro e1 w9 ⟨rfl, rfl⟩)) | (go_at_call 166; refine (b2 _ _).mono ?_; rintro e1 w9 ⟨rfl, rfl⟩))
      go_quiet ((go_at_call 166; exact Calls.quiet_of_same ((b2 _ _).mono fun _ _ h => ⟨h.1, h.2.symm⟩)))
      go_wp2
      go_ret
      exact ⟨rfl, _, rfl⟩
  · apply Exists.intro
    intro b w hw
    obtain ⟨k0, k1, k2⟩ := HC.out b w hw
    clear hw
    go_enter Tryz.func180, Tryz.ntmps180
    go_wp2_with (go_at_call 189; first | ((with_reducible refine (m1 _).mono ?_); rintro e1 w9 ⟨rfl, rfl⟩) | ((with_reducible refine (m2 _).mono ?_); rintro e1 w9 ⟨rfl, rfl⟩))
    go_ret
    exact ⟨rfl, 0, rfl⟩
end Go.Proofs.YtelphbcdjfdjpaaGreatDoor
