/- math.Ldexp at a whole number. Conditions: those that each theorem names. esnum.Number at any wide text ends with one float. Conditions: the tables of package strconv (NumEnv). What esnum.Number answers of every numeral. Conditions: those that each theorem names. Reading listed variables: structs of one-cell fields, slices of them, arrays of them. No program. -/
import Derived.Test.YtelphbcdjfdjpaaGreatDoorZ24
import Derived.Test.YtelphbcdjfdjpaaGreatDoorZ18
import Derived.Lib.LaidTab
import Derived.Lib.SmallJoins
import Derived.OpenShut
import Derived.Deep.Slices
import Derived.ChangeSlices
namespace Go.Proofs.YtelphbcdjfdjpaaGreatDoor
open Go.RowKit
set_option linter.all false

theorem y_field (X E : Nat) (hE : E ≤ 2046) : ((X &&& 9227875636482146303 ||| E * 4503599627370496) / 2 ^ 52) % 2 ^ 11 = E := by
  rw [Nat.or_div_two_pow, Nat.and_div_two_pow, Nat.or_mod_two_pow, Nat.and_mod_two_pow]
  have h1 : 9227875636482146303 / 2 ^ 52 % 2 ^ 11 = 0 := by decide
  have h2 : E * 4503599627370496 / 2 ^ 52 % 2 ^ 11 = E := by omega
  rw [h1, h2]
  simp
theorem low_noNan (y : Nat) (h : y % 9223372036854775808 ≤ 9218868437227405312) : NoNan y := by
  have hI : Ieee.double.infRung = 9218868437227405312 := by kernel_rfl
  have hW : Ieee.double.signWeight = 9223372036854775808 := by kernel_rfl
  show (Ieee.double.read y).isNaN = false
  unfold Ieee.Format.read
  simp only [hW, hI]
  by_cases h1 : y % 9223372036854775808 < Ieee.double.binade
  · rw [if_pos h1]; rfl
  · rw [if_neg h1]
    by_cases h2 : y % 9223372036854775808 < 9218868437227405312
    · rw [if_pos h2]; rfl
    · rw [if_neg h2, if_pos (by omega)]; rfl
theorem andNot_nat (f : Nat) : ∃ X : Nat, bits .andNot .u64 (f : Int) 9218868437227405312 = ((X &&& 9227875636482146303 : Nat) : Int) ∧ X < 18446744073709551616 := by
  refine ⟨(BitVec.ofInt 64 (f : Int)).toNat, ?_, BitVec.isLt _⟩
  have hx : (BitVec.ofInt 64 (f : Int)).toNat &&& 9227875636482146303 < 2 ^ 64 := Nat.and_lt_two_pow _ (by decide)
  have h2 : (~~~ (BitVec.ofInt 64 9218868437227405312)).toNat = 9227875636482146303 := by decide
  show IntKind.u64.wrap ((BitVec.ofInt 64 (f : Int) &&& ~~~ (BitVec.ofInt 64 9218868437227405312)).toNat : Int) = _
  rw [BitVec.toNat_and, h2, IntKind.wrap_u64]
  omega
theorem y_noNan (f E : Nat) (hE : E ≤ 2046) (z : Int) (hz : z = (E : Int)) : NoNan (bits .or .u64 (bits .andNot .u64 (f : Int) 9218868437227405312) (IntKind.u64.wrap (IntKind.u64.wrap (wrap64 z) * 4503599627370496))).toNat := by
  obtain ⟨X, hX, hXl⟩ := andNot_nat f
  have h1 : wrap64 z = (E : Int) := by rw [hz]; unfold wrap64; omega
  have h2 : IntKind.u64.wrap (E : Int) = (E : Int) := IntWalk.u64_in _ (by omega)
  have h3 : IntKind.u64.wrap ((E : Int) * 4503599627370496) = ((E * 4503599627370496 : Nat) : Int) := by rw [IntWalk.u64_in _ (by omega)]; omega
  rw [hX, h1, h2, h3, bits_or_u64_nat _ _ (Nat.lt_of_le_of_lt Nat.and_le_left hXl) (by omega)]
  have h4 := y_field X E hE
  refine low_noNan _ ?_
  rw [Int.toNat_natCast]
  generalize (X &&& 9227875636482146303 ||| E * 4503599627370496) = y at *
  omega
theorem mul_some2 (a b : Nat) (ha : NumNz a) (hb : NoNan b) : ∃ r, FloatKind.f64.format.mul a b = some r := by
  obtain ⟨s, m, p, ha, hm⟩ := ha
  unfold NoNan at hb
  unfold Ieee.Format.mul
  rw [ha]
  cases hB : FloatKind.f64.format.read b with
  | number t n q => exact ⟨_, rfl⟩
  | infinity t =>
    show ∃ r, (if m = 0 then none else some _).map _ = some r
    rw [if_neg hm]
    exact ⟨_, rfl⟩
  | nan t n => rw [hB] at hb; cases hb
set_option maxHeartbeats 8000000 in
theorem ldexp_all (x : Nat) (hx : NoNan x) (rest : Int) (h0 : 0 ≤ rest) (h1 : rest ≤ 100000000) : ∃ v : Nat, ∀ w, Calls Tryz.prog 135 #[.float .f64 x, .int .i64 rest] w fun e w' => e = .returned (.float .f64 v) ∧ w = w' := by
  have hi := isInf_all x
  have hn := isNaN_all x
  obtain ⟨f, e, he, hnm⟩ := normalize_all x hx
  have x1 := x_bits
  have x2 := x_from
  have hcs := copysign_all 0 f
  have hif := inf_one
  have hin := inf_neg
  clear hx
  cases q0 : (FloatKind.f64.format.order x 0 == some Ordering.eq)
  rotate_left
  · refine ⟨x, fun w => ?_⟩
    clear hi hn hnm x1 x2 hcs hif hin
    go_enter Tryz.func135, Tryz.ntmps135
    go_wp2
    go_ret
    exact ⟨rfl, rfl⟩
  cases q1 : infF x
  rotate_left
  · refine ⟨x, fun w => ?_⟩
    rw [q1] at hi
    go_enter Tryz.func135, Tryz.ntmps135
    go_wp2_with (go_at_call 142; refine (hi _).mono ?_; rintro e w' ⟨rfl, rfl⟩)
    go_ret
    exact ⟨rfl, rfl⟩
  rw [q1] at hi
  cases q2 : nanF x
  rotate_left
  · refine ⟨x, fun w => ?_⟩
    rw [q2] at hn
    go_enter Tryz.func135, Tryz.ntmps135
    go_wp2_with (first | (go_at_call 142; refine (hi _).mono ?_; rintro e w' ⟨rfl, rfl⟩) | (go_at_call 143; refine (hn _).mono ?_; rintro e w' ⟨rfl, rfl⟩))
    go_ret
    exact ⟨rfl, rfl⟩
  rw [q2] at hn
  obtain ⟨K, hK⟩ : ∃ K, bits .and .i64 (wrap64 ((f : Int) / 4503599627370496)) 2047 = K := ⟨_, rfl⟩
  obtain ⟨E1, hE1⟩ : ∃ E1, IntKind.i64.wrap (rest + e) = E1 := ⟨_, rfl⟩
  obtain ⟨K1, hK1⟩ : ∃ K1, IntKind.i64.wrap (K - 1023) = K1 := ⟨_, rfl⟩
  obtain ⟨E2, hE2⟩ : ∃ E2, IntKind.i64.wrap (E1 + K1) = E2 := ⟨_, rfl⟩
  clear he
  clear h0 h1
  by_cases c1 : E2 < -1075
  · replace c1 : decide (E2 < -1075) = true := decide_eq_true c1
    apply Exists.intro
    intro w
    go_enter Tryz.func135, Tryz.ntmps135
    go_wp2_with (first | (go_at_call 142; refine (hi _).mono ?_; rintro e w' ⟨rfl, rfl⟩) | (go_at_call 143; refine (hn _).mono ?_; rintro e w' ⟨rfl, rfl⟩) | (go_at_call 144; refine (hnm _).mono ?_; rintro e w' ⟨rfl, rfl⟩) | (go_at_call 145; refine (hcs _).mono ?_; rintro e w' ⟨rfl, rfl⟩))
    go_ret
    exact ⟨rfl, rfl⟩
  replace c1 : decide (E2 < -1075) = false := decide_eq_false c1
  by_cases c2 : E2 > 1023
  · replace c2 : decide (1023 < E2) = true := decide_eq_true c2
    cases q3 : (FloatKind.f64.format.order f 0 == some Ordering.lt)
    · apply Exists.intro
      intro w
      go_enter Tryz.func135, Tryz.ntmps135
      go_wp2_with (first | (go_at_call 142; refine (hi _).mono ?_; rintro e w' ⟨rfl, rfl⟩) | (go_at_call 143; refine (hn _).mono ?_; rintro e w' ⟨rfl, rfl⟩) | (go_at_call 144; refine (hnm _).mono ?_; rintro e w' ⟨rfl, rfl⟩) | (go_at_call 72; refine (hif _).mono ?_; rintro e w' ⟨rfl, rfl⟩))
      go_ret
      exact ⟨rfl, rfl⟩
    · apply Exists.intro
      intro w
      go_enter Tryz.func135, Tryz.ntmps135
      go_wp2_with (first | (go_at_call 142; refine (hi _).mono ?_; rintro e w' ⟨rfl, rfl⟩) | (go_at_call 143; refine (hn _).mono ?_; rintro e w' ⟨rfl, rfl⟩) | (go_at_call 144; refine (hnm _).mono ?_; rintro e w' ⟨rfl, rfl⟩) | (go_at_call 72; refine (hin _).mono ?_; rintro e w' ⟨rfl, rfl⟩))
      go_ret
      exact ⟨rfl, rfl⟩
  replace c2 : decide (1023 < E2) = false := decide_eq_false c2
  by_cases c3 : E2 < -1022
  · replace c3 : decide (E2 < -1022) = true := decide_eq_true c3
    obtain ⟨r, hr⟩ := mul_some2 4368491638549381120 _ (nz_of _ (by kernel_rfl)) (y_noNan f (E2 + 53 + 1023).toNat (by have := of_decide_eq_false c1; have := of_decide_eq_false c2; have := of_decide_eq_true c3; omega) (wrap64 (E2 + 53) + 1023) (by have hq : wrap64 (E2 + 53) = E2 + 53 := (by have := of_decide_eq_false c1; have := of_decide_eq_true c3; unfold wrap64; omega); have := of_decide_eq_false c1; have := of_decide_eq_true c3; omega))
    have hml := fun (T : TypeId) (W : World) => run_mul T 4368491638549381120 _ r hr W
    clear hr
    refine ⟨r, fun w => ?_⟩
    go_enter Tryz.func135, Tryz.ntmps135
    go_wp2_with (first | (go_at_call 142; refine (hi _).mono ?_; rintro e w' ⟨rfl, rfl⟩) | (go_at_call 143; refine (hn _).mono ?_; rintro e w' ⟨rfl, rfl⟩) | (go_at_call 144; refine (hnm _).mono ?_; rintro e w' ⟨rfl, rfl⟩))
    go_ret
    exact ⟨rfl, rfl⟩
  · replace c3 : decide (E2 < -1022) = false := decide_eq_false c3
    obtain ⟨r, hr⟩ := mul_some2 4607182418800017408 _ (nz_of _ (by kernel_rfl)) (y_noNan f (E2 + 1023).toNat (by have := of_decide_eq_false c1; have := of_decide_eq_false c2; have := of_decide_eq_false c3; omega) (E2 + 1023) (by have := of_decide_eq_false c1; have := of_decide_eq_false c3; omega))
    have hml := fun (T : TypeId) (W : World) => run_mul T 4607182418800017408 _ r hr W
    clear hr
    refine ⟨r, fun w => ?_⟩
    go_enter Tryz.func135, Tryz.ntmps135
    go_wp2_with (first | (go_at_call 142; refine (hi _).mono ?_; rintro e w' ⟨rfl, rfl⟩) | (go_at_call 143; refine (hn _).mono ?_; rintro e w' ⟨rfl, rfl⟩) | (go_at_call 144; refine (hnm _).mono ?_; rintro e w' ⟨rfl, rfl⟩))
    go_ret
    exact ⟨rfl, rfl⟩
theorem mathLdexp_all (x : Nat) (hx : NoNan x) (rest : Int) (h0 : 0 ≤ rest) (h1 : rest ≤ 100000000) : ∃ v : Nat, ∀ w, Calls Tryz.prog 123 #[.float .f64 x, .int .i64 rest] w fun e w' => e = .returned (.float .f64 v) ∧ w = w' := by
  obtain ⟨v, hv⟩ := ldexp_all x hx rest h0 h1
  refine ⟨v, fun w => ?_⟩
  clear hx
  go_enter Tryz.func123, Tryz.ntmps123
  go_wp2_with (go_at_call 135; refine (hv _).mono ?_; rintro e w' ⟨rfl, rfl⟩)
  go_ret
  exact ⟨rfl, rfl⟩
theorem ldOk : LdOk := fun top rest h0 h1 => mathLdexp_all (floatOfInt .f64 top) (int_noNan top) rest h0 h1
end Go.Proofs.YtelphbcdjfdjpaaGreatDoor
namespace Go.Proofs.YtelphbcdjfdjpaaGreatDoor
open Go.RowKit
set_option linter.all false

theorem number_end (S : ByteArray) (hS : S.size ≤ 1800000) : ∃ v : Nat, ∀ (N : Nat) (w : World), NumEnv N w → N ≤ w.heap.size →
    Calls Tryz.prog 82 #[.string S] w fun e w' => e = .returned (.float .f64 v) ∧ Below w.heap.size w w' := number_all ldOk S hS
/-- The float that Number answers at a wide text. -/
noncomputable def numOf (S : ByteArray) : Nat := if h : S.size ≤ 1800000 then Classical.choose (number_end S h) else 0
theorem numOf_any (S : ByteArray) (hS : S.size ≤ 1800000) (N : Nat) (w : World) (hE : NumEnv N w) (hN : N ≤ w.heap.size) :
    Calls Tryz.prog 82 #[.string S] w fun e w' => e = .returned (.float .f64 (numOf S)) ∧ Below w.heap.size w w' := by
  unfold numOf
  rw [dif_pos hS]
  exact Classical.choose_spec (number_end S hS) N w hE hN
end Go.Proofs.YtelphbcdjfdjpaaGreatDoor
namespace Go.Proofs.YtelphbcdjfdjpaaGreatDoor
open Go.RowKit Go.Shelf
set_option linter.all false

theorem scanF_length : ∀ (f : Nat) (l : List UInt8), (U.scanF f l).1.length ≤ l.length
  | 0, l => Nat.zero_le _
  | f + 1, l => by
    unfold U.scanF
    split
    · exact Nat.zero_le _
    · rename_i h
      have h1 := U.dec_le l
      have h2 := scanF_length f (l.drop (U.dec l).2)
      rw [List.length_drop] at h2
      show (U.scanF f (l.drop (U.dec l).2)).1.length + 1 ≤ l.length
      omega
theorem w8_length : ∀ (cs : List Nat), (U.w8 cs).length ≤ 4 * cs.length
  | [] => Nat.le_refl _
  | c :: cs => by
    rw [U.w8_cons, List.length_append, List.length_cons]
    have h := w8_length cs
    have h2 : ((U.units c).flatMap U.be).length ≤ 4 := by
      unfold U.units
      split <;> simp [U.be]
    omega
theorem wideL_le (t : List UInt8) : (wideL t).length ≤ 4 * t.length := by
  unfold wideL
  split
  · have h1 := w8_length (U.scan t).1
    have h2 := scanF_length t.length t
    have h3 : (U.scan t).1.length ≤ t.length := h2
    omega
  · exact Nat.zero_le _
/-- What is known of a numeral: all. -/
noncomputable def numAll (t : List UInt8) : Option Nat := some (numOf (bs (wideL t)))
theorem numAll_total : Total numAll := fun t h => by cases h
theorem Low.numEnv {N : Nat} {w : World} (h : Low N w) : NumEnv N w := ⟨h.num.env, h.num.it, by show 7 < N; have := h.big; omega, h.rang⟩
theorem numOk_all (N : Nat) : NumOk numAll N := by
  intro t v hv hl w hw
  cases hv
  refine numOf_any _ ?_ N w hw.numEnv hw.size
  rw [bs_size]
  have := wideL_le t
  omega
/-- What Lex answers of a script. -/
theorem lex_all (N : Nat) (s : List UInt8) (hs : s.length ≤ 8192) (w : World) (hl : Low N w) :
    Calls Tryz.prog 10 #[.string (bs s)] w (LexOut w.heap.size w (X.lex numAll s)) :=
  lex_any numAll N (numOk_all N) s hs (lexF_known numAll_total _ _ _ (by omega)) w hl
end Go.Proofs.YtelphbcdjfdjpaaGreatDoor
namespace Go.Proofs.YtelphbcdjfdjpaaGreatDoor
open Go.ChangeShapes Go.WideShapes Go.Joins Go.Deep
set_option linter.all false

section
variable {H : Type} {enc : TypeId × Value → H} {P : Program} {w : World} {base : Nat} {spare : Nat → Bool} {held : Bool}
theorem trodF {t : TypeId} {k : FloatKind} {fuel : Nat} {v : Value} {x : DataW H × List MemPlace} (ht : P.underlying t = some (.float k)) (h : DataW.trod enc P w base spare held fuel t [v] = some x) : ∃ b, v = .float k b ∧ x = (.lit (.float k b), []) := by
  cases fuel with
  | zero => simp [DataW.trod] at h
  | succ n =>
    unfold DataW.trod at h
    rw [ht] at h
    cases v <;> simp at h
    rename_i k' b
    obtain ⟨⟨hk, hw⟩, hx⟩ := h
    subst hk
    exact ⟨b, rfl, hx.symm⟩
theorem list2 {α : Type} {cs : List α} (h : cs.length = 2) : ∃ c0 c1, cs = [c0, c1] := by
  match cs, h with
  | [c0, c1], _ => exact ⟨c0, c1, rfl⟩
theorem list3 {α : Type} {cs : List α} (h : cs.length = 3) : ∃ c0 c1 c2, cs = [c0, c1, c2] := by
  match cs, h with
  | [c0, c1, c2], _ => exact ⟨c0, c1, c2, rfl⟩
theorem two_of {t : TypeId} {f0 f1 : Field} {fuel : Nat} {cs : List Value} {x : DataW H × List MemPlace} (hs : P.underlying t = some (.struct #[f0, f1])) (hone : oneCellFields P #[f0, f1] = true) (hC : P.cellsOf t = 2) (h : DataW.trod enc P w base spare held fuel t cs = some x) :
    ∃ (v0 v1 : Value) (y0 y1 : DataW H × List MemPlace) (n : Nat), cs = [v0, v1] ∧ x.1 = .agg [y0.1, y1.1] ∧ DataW.trod enc P w base spare held n f0.type [v0] = some y0 ∧ DataW.trod enc P w base spare held n f1.type [v1] = some y1 := by
  obtain ⟨y0, y1, n, hx, hl, h0, h1⟩ := trod_struct2 hs h
  obtain ⟨o0, k0⟩ := hone_of hone 0 f0 rfl
  obtain ⟨o1, k1⟩ := hone_of hone 1 f1 rfl
  obtain ⟨c0, c1, rfl⟩ := list2 (hl.trans hC)
  exact ⟨c0, c1, y0, y1, n, rfl, by rw [hx], by simpa [o0, k0] using h0, by simpa [o1, k1] using h1⟩
theorem three_of {t : TypeId} {f0 f1 f2 : Field} {fuel : Nat} {cs : List Value} {x : DataW H × List MemPlace} (hs : P.underlying t = some (.struct #[f0, f1, f2])) (hone : oneCellFields P #[f0, f1, f2] = true) (hC : P.cellsOf t = 3) (h : DataW.trod enc P w base spare held fuel t cs = some x) :
    ∃ (v0 v1 v2 : Value) (y0 y1 y2 : DataW H × List MemPlace) (n : Nat), cs = [v0, v1, v2] ∧ x.1 = .agg [y0.1, y1.1, y2.1] ∧ DataW.trod enc P w base spare held n f0.type [v0] = some y0 ∧ DataW.trod enc P w base spare held n f1.type [v1] = some y1 ∧ DataW.trod enc P w base spare held n f2.type [v2] = some y2 := by
  obtain ⟨y0, y1, y2, n, hx, hl, h0, h1, h2⟩ := trod_struct3 hs h
  obtain ⟨o0, k0⟩ := hone_of hone 0 f0 rfl
  obtain ⟨o1, k1⟩ := hone_of hone 1 f1 rfl
  obtain ⟨o2, k2⟩ := hone_of hone 2 f2 rfl
  obtain ⟨c0, c1, c2, rfl⟩ := list3 (hl.trans hC)
  exact ⟨c0, c1, c2, y0, y1, y2, n, rfl, by rw [hx], by simpa [o0, k0] using h0, by simpa [o1, k1] using h1, by simpa [o2, k2] using h2⟩
/-- A slice whose data are known: each element's cells and its reading. -/
theorem slice_of {t e : TypeId} {fuel : Nat} {cs : List Value} {p : List MemPlace} {l : List (DataW H)} (ht : P.underlying t = some (.slice e)) (hpos : 0 < l.length) (h : DataW.trod enc P w base (fun _ => true) held fuel t cs = some (.slice l [], p)) :
    ∃ (a : Addr) (n : Nat), cs = [.slice (some a) l.length l.length] ∧ ∀ i, i < l.length → ∃ cs' q, w.cells? base (a.add (i * P.cellsOf e)) (P.cellsOf e) = some cs' ∧ DataW.trod enc P w base (fun _ => true) held n e cs' = some (l.getD i .nil, q) := by
  rcases Go.Deep.open_slice ht h with ⟨_, e⟩ | ⟨a, len, cap, m, n, D, Pl, ecs, _, hlc, _, hm, e, hS⟩
  · cases (Prod.mk.inj e).1
  · rw [if_pos rfl] at hm
    subst hm
    have e1 := (Prod.mk.inj e).1
    injection e1 with e2 e3
    have hlen : len = l.length := by have := congrArg List.length e2; simpa using this.symm
    have hcap : m - len = 0 := by have := congrArg List.length e3; simpa using this.symm
    have hmc : m = len := by omega
    subst hmc
    subst hlen
    refine ⟨a, n, ecs, fun i hi => ?_⟩
    obtain ⟨cs', h1, h2⟩ := hS i hi
    refine ⟨cs', Pl i, h1, ?_⟩
    rw [h2]
    have h3 := congrArg (fun z => z[i]?) e2
    simp only [List.getElem?_map, List.getElem?_range hi, List.getElem?_eq_getElem hi, Option.map_some, Option.some.injEq] at h3
    rw [List.getD_eq_getElem?_getD, List.getElem?_eq_getElem hi, Option.getD_some, h3]
/-- An array whose data are known. -/
theorem array_of {t e : TypeId} {n : Nat} {fuel : Nat} {cs : List Value} {p : List MemPlace} {l : List (DataW H)} (ht : P.underlying t = some (.array n e)) (h : DataW.trod enc P w base spare held fuel t cs = some (.agg l, p)) :
    ∃ m : Nat, ∀ i, i < n → ∃ q, DataW.trod enc P w base spare held m e ((cs.drop (i * P.cellsOf e)).take (P.cellsOf e)) = some (l.getD i .nil, q) := by
  obtain ⟨xs, m, _, hx, _, hlen, hf⟩ := DataW.trod_array ht h
  have e1 := (Prod.mk.inj hx).1
  injection e1 with e2
  refine ⟨m, fun i hi => ?_⟩
  have hi' : i < xs.length := by omega
  refine ⟨xs[i].2, ?_⟩
  rw [hf i hi, List.getElem?_eq_getElem hi', e2, List.getD_eq_getElem?_getD, List.getElem?_map, List.getElem?_eq_getElem hi']
  rfl
end
theorem block_of_cell {w : World} {a : Addr} {v : Value} (h : w.cell? a = some v) : a.block < w.heap.size := by
  rcases Nat.lt_or_ge a.block w.heap.size with h' | h'
  · exact h'
  · simp [World.cell?, Array.getElem?_eq_none h'] at h
theorem add_flat (b off i : Nat) : (⟨b, off, none⟩ : Addr).add i = ⟨b, off + i, none⟩ := by
  unfold Addr.add
  split
  · rename_i h; subst h; rfl
  · rfl
end Go.Proofs.YtelphbcdjfdjpaaGreatDoor
