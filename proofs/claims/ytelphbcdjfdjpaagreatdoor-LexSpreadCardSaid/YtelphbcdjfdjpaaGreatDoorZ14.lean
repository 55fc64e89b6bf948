/- A lexeme that is a number, under what esnum.Number answers of numerals. Conditions: those that each theorem names. The lexeme that a text begins with. Conditions: those that each theorem names. -/
import Derived.Test.YtelphbcdjfdjpaaGreatDoorZ13
namespace Go.Proofs.YtelphbcdjfdjpaaGreatDoor
open Go.RowKit Go.Shelf
set_option linter.all false

theorem whole_le (l : List UInt8) (h0 : 0 < l.length) : X.wholeSize l ≤ l.length := by
  unfold X.wholeSize
  split
  · omega
  · exact past_le _ _
theorem point_le (l : List UInt8) (h0 : 0 < l.length) : X.pointSize l ≤ l.length := by
  have h1 := whole_le l h0
  unfold X.pointSize
  split
  · rename_i h
    have h2 := g_pos (l := l) (i := X.wholeSize l) (by omega)
    have h3 := past_le X.digit (l.drop (X.wholeSize l + 1))
    rw [List.length_drop] at h3
    omega
  · exact h1
theorem power_le (l : List UInt8) : X.powerSize l ≤ l.length := by
  unfold X.powerSize
  split
  · split
    · omega
    · rename_i h1 h2
      have h3 := past_le X.digit (l.drop (X.powerDigits l))
      rw [List.length_drop] at h3
      omega
  · omega
theorem sixteens_le (l : List UInt8) : X.sixteensSize l ≤ l.length := by
  unfold X.sixteensSize
  split
  · split
    · omega
    · have h3 := past_le X.six (l.drop 2)
      rw [List.length_drop] at h3
      omega
  · omega
theorem number_le (l : List UInt8) (h0 : 0 < l.length) : X.numberSize l ≤ l.length := by
  unfold X.numberSize
  split
  · exact sixteens_le l
  · have h1 := point_le l h0
    have h2 := power_le (l.drop (X.pointSize l))
    rw [List.length_drop] at h2
    omega

set_option maxHeartbeats 4000000 in
theorem numberSize_any (l : List UInt8) (hl : l.length ≤ 65535) (h0 : 0 < l.length) (w : World) :
    Calls Tryz.prog 80 #[.string (bs l)] w fun e w' => e = .returned (.int .i64 (X.numberSize l : Int)) ∧ w = w' := by
  have hs := sixteens_any l (by omega) h0
  have hw := whole_any l (by omega) h0
  have hwl := whole_le l h0
  have hby := byteAt_any l (by omega) (X.wholeSize l) (by omega)
  have hpd : U.g l (X.wholeSize l) = 46 → ∀ w, Calls Tryz.prog 34 #[.string (bs l), .int .i64 ((X.wholeSize l + 1 : Nat) : Int), .func (.func 57) #[] #[]] w fun e w' => e = .returned (.int .i64 (X.pointSize l : Int)) ∧ w = w' := by
    intro h w
    have := g_pos (l := l) (i := X.wholeSize l) (by omega)
    exact past_digit l (by omega) (X.wholeSize l + 1) (by omega) (X.pointSize l) (by unfold X.pointSize; rw [if_pos h]) w
  have hpt : U.g l (X.wholeSize l) ≠ 46 → X.pointSize l = X.wholeSize l := by
    intro h; unfold X.pointSize; rw [if_neg h]
  have hpl := point_le l h0
  have hpw := power_any (l.drop (X.pointSize l)) (by rw [List.length_drop]; omega)
  rw [← bs_drop] at hpw
  have hpwl := power_le (l.drop (X.pointSize l))
  rw [List.length_drop] at hpwl
  have hr : X.numberSize l = if 0 < X.sixteensSize l then X.sixteensSize l else X.pointSize l + X.powerSize (l.drop (X.pointSize l)) := rfl
  have hsz := bs_size l
  have hx := U.g_lt l (X.wholeSize l)
  have h6 := sixteens_le l
  generalize X.numberSize l = R at hr ⊢
  generalize X.powerSize (l.drop (X.pointSize l)) = q at hpw hpwl hr
  generalize X.sixteensSize l = s at hs hr h6
  generalize X.pointSize l = p at hpd hpt hpl hpw hpwl hr
  generalize U.g l (X.wholeSize l) = x at hby hpd hpt hx
  generalize X.wholeSize l = z at hw hwl hby hpd hpt
  have hz : (bs l).size ≤ 65535 := by omega
  have hpS : p ≤ (bs l).size := by omega
  have hq64 : q ≤ 65535 := by omega
  have hz64 : z ≤ 65535 := by omega
  have hs64 : s ≤ 65535 := by omega
  clear hl h0 hwl hpl hpwl h6 hsz
  generalize bs l = S at hs hw hby hpd hpw hz hpS ⊢
  by_cases hs0 : 0 < s
  · rw [if_pos hs0] at hr
    subst hr
    have hsi : 0 < (R : Int) := by omega
    clear hw hby hpd hpt hpw
    go_enter Tryz.func80, Tryz.ntmps80
    go_wp2_with (go_at_call 93; refine (hs _).mono ?_; rintro e w' ⟨rfl, rfl⟩)
    go_ret
    exact ⟨rfl, rfl⟩
  · rw [if_neg hs0] at hr
    obtain rfl : s = 0 := by omega
    have hs : ∀ w, Calls Tryz.prog 93 #[.string S] w fun e w' => e = .returned (.int .i64 0) ∧ w = w' := hs
    clear hs0 hs64
    by_cases hx46 : x = 46
    · have hpd2 := hpd hx46
      clear hpd
      subst hx46
      have e1 : ((z + 1 : Nat) : Int) = (z : Int) + 1 := by omega
      rw [e1] at hpd2
      have hby : ∀ w, Calls Tryz.prog 33 #[.string S, .int .i64 (z : Int)] w fun e w' => e = .returned (.int .u8 46) ∧ w = w' := hby
      have hR : Hid ((R : Int) = (p : Int) + (q : Int)) := by show _ = _; omega
      clear hpt hr e1
      go_enter Tryz.func80, Tryz.ntmps80
      go_wp2_with (first
        | (go_at_call 93; refine (hs _).mono ?_; rintro e w' ⟨rfl, rfl⟩)
        | (go_at_call 94; refine (hw _).mono ?_; rintro e w' ⟨rfl, rfl⟩)
        | (go_at_call 33; refine (hby _).mono ?_; rintro e w' ⟨rfl, rfl⟩)
        | (go_at_call 34; refine (hpd2 _).mono ?_; rintro e w' ⟨rfl, rfl⟩)
        | (go_at_call 95; refine (hpw _).mono ?_; rintro e w' ⟨rfl, rfl⟩))
      go_ret
      exact ⟨(ret_int hR.out).symm, rfl⟩
    · have hpt := hpt hx46
      subst hpt
      have hxi : ((x : Int) == 46) = false := beq_eq_false_iff_ne.2 (by omega)
      have hR : Hid ((R : Int) = (p : Int) + (q : Int)) := by show _ = _; omega
      clear hx46 hr hpd
      go_enter Tryz.func80, Tryz.ntmps80
      go_wp2_with (first
        | (go_at_call 93; refine (hs _).mono ?_; rintro e w' ⟨rfl, rfl⟩)
        | (go_at_call 94; refine (hw _).mono ?_; rintro e w' ⟨rfl, rfl⟩)
        | (go_at_call 33; refine (hby _).mono ?_; rintro e w' ⟨rfl, rfl⟩)
        | (go_at_call 95; refine (hpw _).mono ?_; rintro e w' ⟨rfl, rfl⟩))
      go_ret
      exact ⟨(ret_int hR.out).symm, rfl⟩

/-- What is known of esnum.Number: the numerals of which num tells the number. -/
def NumOk (num : List UInt8 → Option Nat) (N : Nat) : Prop := ∀ t v, num t = some v → t.length ≤ 65535 → ∀ w, Low N w →
  Calls Tryz.prog 82 #[.string (bs (wideL t))] w fun e w' => e = .returned (.float .f64 v) ∧ Below w.heap.size w w'

set_option maxHeartbeats 4000000 in
theorem number_any (num : List UInt8 → Option Nat) (N : Nat) (hN : NumOk num N) (l : List UInt8) (hl : l.length ≤ 65535) (h0 : 0 < l.length) (hk : X.number num l ≠ .unknown) (w : World) (h : Low N w) :
    Calls Tryz.prog 64 #[.string (bs l)] w fun e w' => e = .returned (ansV (X.number num l)) ∧ Below w.heap.size w w' := by
  have hs := numberSize_any l hl h0
  have hle := number_le l h0
  have hby := byteAt_any l (by omega) (X.numberSize l) (by omega)
  have hg := goes_any (U.g l (X.numberSize l)) (U.g_lt l _)
  have hwd := fun W (hW : Low N W) => wide_bs N (l.take (X.numberSize l)) (by rw [List.length_take]; omega) W hW
  have hnm := fun v hv W (hW : Low N W) => hN (l.take (X.numberSize l)) v hv (by rw [List.length_take]; omega) W hW
  have hr : X.number num l = if X.goes (U.g l (X.numberSize l)) then .no else match num (l.take (X.numberSize l)) with
    | none => .unknown
    | some v => .yes 3 [] v (X.numberSize l) := rfl
  have het := bs_take l (X.numberSize l)
  rw [← het] at hwd
  have hsz := bs_size l
  obtain ⟨B, hB⟩ : ∃ B, w.heap.size = B := ⟨_, rfl⟩
  have HB := Lib.hid hB
  have HL : Hid (∀ W, Below B w W → Low N W) := Lib.hid fun W hW => h.bel (by rw [hB]; exact hW)
  have hZ : (w.alloc lexZ).heap[B]? = some lexZ := by rw [← hB]; exact heap_new w lexZ
  have hbA : Below B w (w.alloc lexZ) := (Below.refl _ _).alloc (by omega) _
  generalize X.number num l = R at hr hk ⊢
  generalize wideAt (l.take (X.numberSize l)) = q1 at hwd
  generalize wideErr (l.take (X.numberSize l)) = q2 at hwd
  generalize num (l.take (X.numberSize l)) = nv at hnm hr
  generalize wideL (l.take (X.numberSize l)) = wl at hwd hnm
  generalize X.numberSize l = n at hs hle hby hg hwd hr het
  generalize U.g l n = x at hby hg hr
  generalize X.goes x = gx at hg hr
  have hz : (bs l).size ≤ 65535 := by omega
  have hnS : n ≤ (bs l).size := by omega
  clear het hsz hle hl h0 h hB
  generalize bs l = S at hs hby hwd hz hnS ⊢
  have hst := store_float
  have hh := fun (k : Int) (v : Nat) => heap_new w (Obj.cells #[.int .i64 k, .string ⟨#[]⟩, .float .f64 v, .int .i64 0, .bool false] 32)
  have HH := Lib.hid hh
  clear hh
  cases gx with
  | true =>
    rw [if_pos rfl] at hr
    subst hr
    clear hwd hnm hk
    go_enter Tryz.func64, Tryz.ntmps64
    go_wp2_with (first
      | (go_at_call 80; refine (hs _).mono ?_; rintro e w' ⟨rfl, rfl⟩)
      | (go_at_call 33; refine (hby _).mono ?_; rintro e w' ⟨rfl, rfl⟩)
      | (go_at_call 35; refine (hg _).mono ?_; rintro e w' ⟨rfl, rfl⟩))
    obtain ⟨c0, c1, c2, c3, c4⟩ := lex_cells (HH.out 0 0)
    refine bodyPost_ret (v := .tuple #[.agg #[.int .i64 0, .string ⟨#[]⟩, .float .f64 0, .int .i64 0, .bool false], .int .i64 0]) ?_ rfl ?_
    · simp [results, Tryz.results64, go_sem, c0, c1, c2, c3, c4]
    · exact ⟨rfl, by rw [HB.out]; exact hbA⟩
  | false =>
    rw [if_neg (by decide)] at hr
    cases nv with
    | none => exact absurd hr hk
    | some v =>
      simp only at hr
      subst hr
      have hnm := hnm v rfl
      have hwA := hwd (w.alloc lexZ) (HL.out _ hbA)
      have HWA := Lib.hid hbA
      have HZA := Lib.hid hZ
      clear hk hwd hbA hZ
      go_enter Tryz.func64, Tryz.ntmps64
      go_wp2_with (first
        | (go_at_call 80; refine (hs _).mono ?_; rintro e w' ⟨rfl, rfl⟩)
        | (go_at_call 33; refine (hby _).mono ?_; rintro e w' ⟨rfl, rfl⟩)
        | (go_at_call 35; refine (hg _).mono ?_; rintro e w' ⟨rfl, rfl⟩)
        | (go_at_call 81; refine hwA.mono ?_; rintro e w1 ⟨rfl, hb1⟩; have hnm1 := hnm w1 (HL.out _ (HWA.out.trans (hb1.mono (by rw [heap_size, HB.out]; omega)))); have HB1 := Lib.hid hb1; clear hb1)
        | (go_at_call 82; refine hnm1.mono ?_; rintro e w2 ⟨rfl, hb2⟩; have hZ2 : w2.heap[w.heap.size]? = some lexZ := (by rw [HB.out]; exact Below.keep hb2 (Below.keep HB1.out HZA.out)); obtain ⟨c0, c1, c2, c3, c4⟩ := lex_cells hZ2; have f0 := Lib.frozen_of_heap hZ2 0; have f1 := Lib.frozen_of_heap hZ2 1; have f2 := Lib.frozen_of_heap hZ2 2; have f3 := Lib.frozen_of_heap hZ2 3; have f4 := Lib.frozen_of_heap hZ2 4; have HZ2 := Lib.hid hZ2; have HB2 := Lib.hid hb2; clear hZ2 hb2))
      have hs1' := HB1.out.size
      rw [HB.out]
      rw [heap_size, HB.out] at hs1'
      rw [HB.out] at HZ2
      have hf := lexZ_store HZ2.out (.int .i64 3) (.string ⟨#[]⟩) (.float .f64 v) (.int .i64 0) (.bool false)
      have hbF : Below B w (((((w2.setCell ⟨B, 0, none⟩ (.int .i64 3)).setCell ⟨B, 1, none⟩ (.string ⟨#[]⟩)).setCell ⟨B, 2, none⟩ (.float .f64 v)).setCell ⟨B, 3, none⟩ (.int .i64 0)).setCell ⟨B, 4, none⟩ (.bool false)) :=
        (((((((HWA.out.trans (HB1.out.mono (by rw [heap_size, HB.out]; omega))).trans (HB2.out.mono (by omega))).setCell (p := ⟨B, 0, none⟩) (Nat.le_refl _) _).setCell (p := ⟨B, 1, none⟩) (Nat.le_refl _) _).setCell (p := ⟨B, 2, none⟩) (Nat.le_refl _) _).setCell (p := ⟨B, 3, none⟩) (Nat.le_refl _) _).setCell (p := ⟨B, 4, none⟩) (Nat.le_refl _) _)
      generalize (((((w2.setCell ⟨B, 0, none⟩ (.int .i64 3)).setCell ⟨B, 1, none⟩ (.string ⟨#[]⟩)).setCell ⟨B, 2, none⟩ (.float .f64 v)).setCell ⟨B, 3, none⟩ (.int .i64 0)).setCell ⟨B, 4, none⟩ (.bool false)) = WZ at hf hbF ⊢
      obtain ⟨d0, d1, d2, d3, d4⟩ := lex_cells hf
      refine bodyPost_ret (v := .tuple #[.agg #[.int .i64 3, .string ⟨#[]⟩, .float .f64 v, .int .i64 0, .bool false], .int .i64 (n : Int)]) ?_ rfl ?_
      · simp [results, Tryz.results64, go_sem, d0, d1, d2, d3, d4]
      · exact ⟨rfl, hbF⟩
end Go.Proofs.YtelphbcdjfdjpaaGreatDoor
namespace Go.Proofs.YtelphbcdjfdjpaaGreatDoor
open Go.RowKit Go.Shelf
set_option linter.all false

theorem ansV_form (R : X.Ans) : ∃ (k : Nat) (t : List UInt8) (v n : Nat), ansV R = .tuple #[.agg #[.int .i64 (k : Int), .string (bs t), .float .f64 v, .int .i64 0, .bool false], .int .i64 (n : Int)] := by
  cases R with
  | yes k t v n => exact ⟨k, t, v, n, rfl⟩
  | unknown => exact ⟨0, [], 0, 0, rfl⟩
  | no => exact ⟨0, [], 0, 0, rfl⟩

/-- What first leaves behind its callee: the lexeme handed on. -/
theorem first_end {w w1 W : World} {B : Nat} (hB : w.heap.size = B) (hb : Below (w.alloc lexZ).heap.size (w.alloc lexZ) w1) {a0 a1 a2 a3 a4 : Value}
    (hW : W = (((((w1.setCell ⟨B, 0, none⟩ a0).setCell ⟨B, 1, none⟩ a1).setCell ⟨B, 2, none⟩ a2).setCell ⟨B, 3, none⟩ a3).setCell ⟨B, 4, none⟩ a4)) :
    W.heap[B]? = some (.cells #[a0, a1, a2, a3, a4] 32 (0, 0)) ∧ Below B w W := by
  have hZ : (w.alloc lexZ).heap[B]? = some lexZ := by rw [← hB]; exact heap_new w lexZ
  have hs : (w.alloc lexZ).heap.size = B + 1 := by rw [heap_size, hB]
  subst hW
  refine ⟨lexZ_store (Below.keep hb hZ) _ _ _ _ _, ?_⟩
  have h0 : Below B w w1 := ((Below.refl _ _).alloc (by omega) _).trans (hb.mono (by omega))
  exact ((((h0.setCell (p := ⟨B, 0, none⟩) (Nat.le_refl _) _).setCell (p := ⟨B, 1, none⟩) (Nat.le_refl _) _).setCell (p := ⟨B, 2, none⟩) (Nat.le_refl _) _).setCell (p := ⟨B, 3, none⟩) (Nat.le_refl _) _).setCell (p := ⟨B, 4, none⟩) (Nat.le_refl _) _

set_option maxHeartbeats 8000000 in
theorem first_any (num : List UInt8 → Option Nat) (N : Nat) (hN : NumOk num N) (l : List UInt8) (hl : l.length ≤ 65535) (h0 : 0 < l.length) (hk : X.first num l ≠ .unknown) (w : World) (h : Low N w) :
    Calls Tryz.prog 43 #[.string (bs l)] w fun e w' => e = .returned (ansV (X.first num l)) ∧ Below w.heap.size w w' := by
  have hbA : Below w.heap.size w (w.alloc lexZ) := (Below.refl _ _).alloc (Nat.le_refl _) _
  have hLA := h.bel hbA
  have hop := opens_any (U.g l 0) (U.g_lt l 0)
  have hd0 := isDigit_any (U.g l 0) (U.g_lt l 0)
  have hd1 := isDigit_any (U.g l 1) (U.g_lt l 1)
  have hby := byteAt_any l (by omega) 1 (by omega)
  have hnm := name_any N l hl _ hLA
  have htx := text_any N l hl h0 _ hLA
  have hmk := mark_any N l hl _ hLA
  have hnu := fun hk => number_any num N hN l hl h0 hk _ hLA
  have hr : X.first num l = if X.opens (U.g l 0) then X.nameAns l
    else if U.g l 0 = 34 ∨ U.g l 0 = 39 then X.text l
    else if U.g l 0 = 46 ∧ X.digit (U.g l 1) = false then X.mark l
    else if U.g l 0 = 46 ∨ X.digit (U.g l 0) = true then X.number num l
    else X.mark l := rfl
  obtain ⟨b0, e0, hget⟩ := first_byte l h0
  have hsz := bs_size l
  have hS0 : 0 < (bs l).size := by omega
  have hget := hget hS0
  have hbb : b0.toNat < 256 := UInt8.toNat_lt _
  have hy := U.g_lt l 1
  obtain ⟨B, hB⟩ : ∃ B, w.heap.size = B := ⟨_, rfl⟩
  have HB := Lib.hid hB
  rw [← e0] at hop hd0 hr
  generalize X.first num l = R at hr hk ⊢
  generalize X.opens b0.toNat = op at hop hr
  generalize X.digit b0.toNat = dx at hd0 hr
  generalize U.g l 1 = y at hd1 hby hr hy
  generalize X.digit y = dy at hd1 hr
  generalize X.nameAns l = Rn at hnm hr
  generalize X.text l = Rt at htx hr
  generalize X.mark l = Rm at hmk hr
  generalize X.number num l = Ru at hnu hr
  clear e0 hsz hl h0 h hB hLA hbA
  generalize bs l = S at hby hnm htx hmk hnu hS0 hget ⊢
  have hby : ∀ w, Calls Tryz.prog 33 #[.string S, .int .i64 1] w fun e w' => e = .returned (.int .u8 (y : Int)) ∧ w = w' := hby
  have hst := store_float
  cases op
  case true =>
    rw [if_pos rfl] at hr
    subst hr
    clear htx hmk hnu hd0 hd1 hby hk
    obtain ⟨k, t, v, n, hv⟩ := ansV_form R
    rw [hv] at hnm ⊢
    generalize bs t = T at hnm ⊢
    clear hv
    go_enter Tryz.func43, Tryz.ntmps43
    go_wp2_with (first
      | (go_at_call 32; refine (hop _).mono ?_; rintro e w' ⟨rfl, rfl⟩)
      | (go_at_call 33; refine (hby _).mono ?_; rintro e w' ⟨rfl, rfl⟩)
      | (go_at_call 57; first | ((with_reducible refine (hd1 _).mono ?_); rintro e w' ⟨rfl, rfl⟩) | ((with_reducible refine (hd0 _).mono ?_); rintro e w' ⟨rfl, rfl⟩))
      | (go_at_call 61; refine hnm.mono ?_; rintro e w1 ⟨rfl, hb1⟩; have hZ2 : w1.heap[w.heap.size]? = some lexZ := Below.keep hb1 (heap_new w lexZ); obtain ⟨c0, c1, c2, c3, c4⟩ := lex_cells hZ2; have f0 := Lib.frozen_of_heap hZ2 0; have f1 := Lib.frozen_of_heap hZ2 1; have f2 := Lib.frozen_of_heap hZ2 2; have f3 := Lib.frozen_of_heap hZ2 3; have f4 := Lib.frozen_of_heap hZ2 4; have HB1 := Lib.hid hb1; clear hZ2 hb1))
    generalize hWW : (((((w1.setCell _ _).setCell _ _).setCell _ _).setCell _ _).setCell _ _) = WZ
    obtain ⟨hf, hbF⟩ := first_end (w := w) (w1 := w1) (B := w.heap.size) rfl HB1.out hWW.symm
    obtain ⟨d0, d1, d2, d3, d4⟩ := lex_cells hf
    refine bodyPost_ret (v := .tuple #[.agg #[.int .i64 (k : Int), .string T, .float .f64 v, .int .i64 0, .bool false], .int .i64 (n : Int)]) ?_ rfl ?_
    · simp [results, Tryz.results43, go_sem, d0, d1, d2, d3, d4]
    · exact ⟨rfl, hbF⟩
  rw [if_neg (by decide)] at hr
  by_cases q34 : b0.toNat = 34
  · rw [if_pos (by omega)] at hr
    subst hr
    have i34 : (b0.toNat : Int) = 34 := by omega
    rw [i34] at hop
    clear hnm hmk hnu hd0 hd1 hby hk q34
    obtain ⟨k, t, v, n, hv⟩ := ansV_form R
    rw [hv] at htx ⊢
    generalize bs t = T at htx ⊢
    clear hv
    go_enter Tryz.func43, Tryz.ntmps43
    go_wp2_with (first
      | (go_at_call 32; refine (hop _).mono ?_; rintro e w' ⟨rfl, rfl⟩)
      | (go_at_call 33; refine (hby _).mono ?_; rintro e w' ⟨rfl, rfl⟩)
      | (go_at_call 57; first | ((with_reducible refine (hd1 _).mono ?_); rintro e w' ⟨rfl, rfl⟩) | ((with_reducible refine (hd0 _).mono ?_); rintro e w' ⟨rfl, rfl⟩))
      | (go_at_call 62; refine htx.mono ?_; rintro e w1 ⟨rfl, hb1⟩; have hZ2 : w1.heap[w.heap.size]? = some lexZ := Below.keep hb1 (heap_new w lexZ); obtain ⟨c0, c1, c2, c3, c4⟩ := lex_cells hZ2; have f0 := Lib.frozen_of_heap hZ2 0; have f1 := Lib.frozen_of_heap hZ2 1; have f2 := Lib.frozen_of_heap hZ2 2; have f3 := Lib.frozen_of_heap hZ2 3; have f4 := Lib.frozen_of_heap hZ2 4; have HB1 := Lib.hid hb1; clear hZ2 hb1))
    generalize hWW : (((((w1.setCell _ _).setCell _ _).setCell _ _).setCell _ _).setCell _ _) = WZ
    obtain ⟨hf, hbF⟩ := first_end (w := w) (w1 := w1) (B := w.heap.size) rfl HB1.out hWW.symm
    obtain ⟨d0, d1, d2, d3, d4⟩ := lex_cells hf
    refine bodyPost_ret (v := .tuple #[.agg #[.int .i64 (k : Int), .string T, .float .f64 v, .int .i64 0, .bool false], .int .i64 (n : Int)]) ?_ rfl ?_
    · simp [results, Tryz.results43, go_sem, d0, d1, d2, d3, d4]
    · exact ⟨rfl, hbF⟩
  by_cases q39 : b0.toNat = 39
  · rw [if_pos (by omega)] at hr
    subst hr
    have i39 : (b0.toNat : Int) = 39 := by omega
    rw [i39] at hop
    clear hnm hmk hnu hd0 hd1 hby hk q34 q39
    obtain ⟨k, t, v, n, hv⟩ := ansV_form R
    rw [hv] at htx ⊢
    generalize bs t = T at htx ⊢
    clear hv
    go_enter Tryz.func43, Tryz.ntmps43
    go_wp2_with (first
      | (go_at_call 32; refine (hop _).mono ?_; rintro e w' ⟨rfl, rfl⟩)
      | (go_at_call 33; refine (hby _).mono ?_; rintro e w' ⟨rfl, rfl⟩)
      | (go_at_call 57; first | ((with_reducible refine (hd1 _).mono ?_); rintro e w' ⟨rfl, rfl⟩) | ((with_reducible refine (hd0 _).mono ?_); rintro e w' ⟨rfl, rfl⟩))
      | (go_at_call 62; refine htx.mono ?_; rintro e w1 ⟨rfl, hb1⟩; have hZ2 : w1.heap[w.heap.size]? = some lexZ := Below.keep hb1 (heap_new w lexZ); obtain ⟨c0, c1, c2, c3, c4⟩ := lex_cells hZ2; have f0 := Lib.frozen_of_heap hZ2 0; have f1 := Lib.frozen_of_heap hZ2 1; have f2 := Lib.frozen_of_heap hZ2 2; have f3 := Lib.frozen_of_heap hZ2 3; have f4 := Lib.frozen_of_heap hZ2 4; have HB1 := Lib.hid hb1; clear hZ2 hb1))
    generalize hWW : (((((w1.setCell _ _).setCell _ _).setCell _ _).setCell _ _).setCell _ _) = WZ
    obtain ⟨hf, hbF⟩ := first_end (w := w) (w1 := w1) (B := w.heap.size) rfl HB1.out hWW.symm
    obtain ⟨d0, d1, d2, d3, d4⟩ := lex_cells hf
    refine bodyPost_ret (v := .tuple #[.agg #[.int .i64 (k : Int), .string T, .float .f64 v, .int .i64 0, .bool false], .int .i64 (n : Int)]) ?_ rfl ?_
    · simp [results, Tryz.results43, go_sem, d0, d1, d2, d3, d4]
    · exact ⟨rfl, hbF⟩
  rw [if_neg (by omega)] at hr
  have i34 : ((b0.toNat : Int) == 34) = false := beq_eq_false_iff_ne.2 (by omega)
  have i39 : ((b0.toNat : Int) == 39) = false := beq_eq_false_iff_ne.2 (by omega)
  clear q34 q39 hnm htx
  by_cases q46 : b0.toNat = 46
  · have i46 : (b0.toNat : Int) = 46 := by omega
    rw [i46] at hop
    cases dy
    · rw [if_pos ⟨q46, rfl⟩] at hr
      subst hr
      clear q46 hnu hd0 hk i34 i39
      obtain ⟨k, t, v, n, hv⟩ := ansV_form R
      rw [hv] at hmk ⊢
      generalize bs t = T at hmk ⊢
      clear hv
      go_enter Tryz.func43, Tryz.ntmps43
      go_wp2_with (first
        | (go_at_call 32; refine (hop _).mono ?_; rintro e w' ⟨rfl, rfl⟩)
        | (go_at_call 33; refine (hby _).mono ?_; rintro e w' ⟨rfl, rfl⟩)
        | (go_at_call 57; first | ((with_reducible refine (hd1 _).mono ?_); rintro e w' ⟨rfl, rfl⟩) | ((with_reducible refine (hd0 _).mono ?_); rintro e w' ⟨rfl, rfl⟩))
        | (go_at_call 63; refine hmk.mono ?_; rintro e w1 ⟨rfl, hb1⟩; have hZ2 : w1.heap[w.heap.size]? = some lexZ := Below.keep hb1 (heap_new w lexZ); obtain ⟨c0, c1, c2, c3, c4⟩ := lex_cells hZ2; have f0 := Lib.frozen_of_heap hZ2 0; have f1 := Lib.frozen_of_heap hZ2 1; have f2 := Lib.frozen_of_heap hZ2 2; have f3 := Lib.frozen_of_heap hZ2 3; have f4 := Lib.frozen_of_heap hZ2 4; have HB1 := Lib.hid hb1; clear hZ2 hb1))
      generalize hWW : (((((w1.setCell _ _).setCell _ _).setCell _ _).setCell _ _).setCell _ _) = WZ
      obtain ⟨hf, hbF⟩ := first_end (w := w) (w1 := w1) (B := w.heap.size) rfl HB1.out hWW.symm
      obtain ⟨d0, d1, d2, d3, d4⟩ := lex_cells hf
      refine bodyPost_ret (v := .tuple #[.agg #[.int .i64 (k : Int), .string T, .float .f64 v, .int .i64 0, .bool false], .int .i64 (n : Int)]) ?_ rfl ?_
      · simp [results, Tryz.results43, go_sem, d0, d1, d2, d3, d4]
      · exact ⟨rfl, hbF⟩
    · rw [if_neg (by simp), if_pos (.inl q46)] at hr
      subst hr
      have hnu := hnu hk
      clear q46 hmk hd0 hk i34 i39
      obtain ⟨k, t, v, n, hv⟩ := ansV_form R
      rw [hv] at hnu ⊢
      generalize bs t = T at hnu ⊢
      clear hv
      go_enter Tryz.func43, Tryz.ntmps43
      go_wp2_with (first
        | (go_at_call 32; refine (hop _).mono ?_; rintro e w' ⟨rfl, rfl⟩)
        | (go_at_call 33; refine (hby _).mono ?_; rintro e w' ⟨rfl, rfl⟩)
        | (go_at_call 57; first | ((with_reducible refine (hd1 _).mono ?_); rintro e w' ⟨rfl, rfl⟩) | ((with_reducible refine (hd0 _).mono ?_); rintro e w' ⟨rfl, rfl⟩))
        | (go_at_call 64; refine hnu.mono ?_; rintro e w1 ⟨rfl, hb1⟩; have hZ2 : w1.heap[w.heap.size]? = some lexZ := Below.keep hb1 (heap_new w lexZ); obtain ⟨c0, c1, c2, c3, c4⟩ := lex_cells hZ2; have f0 := Lib.frozen_of_heap hZ2 0; have f1 := Lib.frozen_of_heap hZ2 1; have f2 := Lib.frozen_of_heap hZ2 2; have f3 := Lib.frozen_of_heap hZ2 3; have f4 := Lib.frozen_of_heap hZ2 4; have HB1 := Lib.hid hb1; clear hZ2 hb1))
      generalize hWW : (((((w1.setCell _ _).setCell _ _).setCell _ _).setCell _ _).setCell _ _) = WZ
      obtain ⟨hf, hbF⟩ := first_end (w := w) (w1 := w1) (B := w.heap.size) rfl HB1.out hWW.symm
      obtain ⟨d0, d1, d2, d3, d4⟩ := lex_cells hf
      refine bodyPost_ret (v := .tuple #[.agg #[.int .i64 (k : Int), .string T, .float .f64 v, .int .i64 0, .bool false], .int .i64 (n : Int)]) ?_ rfl ?_
      · simp [results, Tryz.results43, go_sem, d0, d1, d2, d3, d4]
      · exact ⟨rfl, hbF⟩
  · rw [if_neg (by omega)] at hr
    have i46 : ((b0.toNat : Int) == 46) = false := beq_eq_false_iff_ne.2 (by omega)
    cases dx
    · rw [if_neg (by simp [q46])] at hr
      subst hr
      clear q46 hnu hd1 hby hk
      obtain ⟨k, t, v, n, hv⟩ := ansV_form R
      rw [hv] at hmk ⊢
      generalize bs t = T at hmk ⊢
      clear hv
      go_enter Tryz.func43, Tryz.ntmps43
      go_wp2_with (first
        | (go_at_call 32; refine (hop _).mono ?_; rintro e w' ⟨rfl, rfl⟩)
        | (go_at_call 33; refine (hby _).mono ?_; rintro e w' ⟨rfl, rfl⟩)
        | (go_at_call 57; first | ((with_reducible refine (hd1 _).mono ?_); rintro e w' ⟨rfl, rfl⟩) | ((with_reducible refine (hd0 _).mono ?_); rintro e w' ⟨rfl, rfl⟩))
        | (go_at_call 63; refine hmk.mono ?_; rintro e w1 ⟨rfl, hb1⟩; have hZ2 : w1.heap[w.heap.size]? = some lexZ := Below.keep hb1 (heap_new w lexZ); obtain ⟨c0, c1, c2, c3, c4⟩ := lex_cells hZ2; have f0 := Lib.frozen_of_heap hZ2 0; have f1 := Lib.frozen_of_heap hZ2 1; have f2 := Lib.frozen_of_heap hZ2 2; have f3 := Lib.frozen_of_heap hZ2 3; have f4 := Lib.frozen_of_heap hZ2 4; have HB1 := Lib.hid hb1; clear hZ2 hb1))
      generalize hWW : (((((w1.setCell _ _).setCell _ _).setCell _ _).setCell _ _).setCell _ _) = WZ
      obtain ⟨hf, hbF⟩ := first_end (w := w) (w1 := w1) (B := w.heap.size) rfl HB1.out hWW.symm
      obtain ⟨d0, d1, d2, d3, d4⟩ := lex_cells hf
      refine bodyPost_ret (v := .tuple #[.agg #[.int .i64 (k : Int), .string T, .float .f64 v, .int .i64 0, .bool false], .int .i64 (n : Int)]) ?_ rfl ?_
      · simp [results, Tryz.results43, go_sem, d0, d1, d2, d3, d4]
      · exact ⟨rfl, hbF⟩
    · rw [if_pos (.inr rfl)] at hr
      subst hr
      have hnu := hnu hk
      clear q46 hmk hd1 hby hk
      obtain ⟨k, t, v, n, hv⟩ := ansV_form R
      rw [hv] at hnu ⊢
      generalize bs t = T at hnu ⊢
      clear hv
      go_enter Tryz.func43, Tryz.ntmps43
      go_wp2_with (first
        | (go_at_call 32; refine (hop _).mono ?_; rintro e w' ⟨rfl, rfl⟩)
        | (go_at_call 33; refine (hby _).mono ?_; rintro e w' ⟨rfl, rfl⟩)
        | (go_at_call 57; first | ((with_reducible refine (hd1 _).mono ?_); rintro e w' ⟨rfl, rfl⟩) | ((with_reducible refine (hd0 _).mono ?_); rintro e w' ⟨rfl, rfl⟩))
        | (go_at_call 64; refine hnu.mono ?_; rintro e w1 ⟨rfl, hb1⟩; have hZ2 : w1.heap[w.heap.size]? = some lexZ := Below.keep hb1 (heap_new w lexZ); obtain ⟨c0, c1, c2, c3, c4⟩ := lex_cells hZ2; have f0 := Lib.frozen_of_heap hZ2 0; have f1 := Lib.frozen_of_heap hZ2 1; have f2 := Lib.frozen_of_heap hZ2 2; have f3 := Lib.frozen_of_heap hZ2 3; have f4 := Lib.frozen_of_heap hZ2 4; have HB1 := Lib.hid hb1; clear hZ2 hb1))
      generalize hWW : (((((w1.setCell _ _).setCell _ _).setCell _ _).setCell _ _).setCell _ _) = WZ
      obtain ⟨hf, hbF⟩ := first_end (w := w) (w1 := w1) (B := w.heap.size) rfl HB1.out hWW.symm
      obtain ⟨d0, d1, d2, d3, d4⟩ := lex_cells hf
      refine bodyPost_ret (v := .tuple #[.agg #[.int .i64 (k : Int), .string T, .float .f64 v, .int .i64 0, .bool false], .int .i64 (n : Int)]) ?_ rfl ?_
      · simp [results, Tryz.results43, go_sem, d0, d1, d2, d3, d4]
      · exact ⟨rfl, hbF⟩
end Go.Proofs.YtelphbcdjfdjpaaGreatDoor
