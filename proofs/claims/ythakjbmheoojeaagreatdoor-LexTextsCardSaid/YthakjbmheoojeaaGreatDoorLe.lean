/- The lexeme that a text begins with. Conditions: those that each theorem names. -/
import Derived.Test.YthakjbmheoojeaaGreatDoorLd
namespace Go.Proofs.YthakjbmheoojeaaGreatDoor
open Go.RowKit Go.Shelf
set_option linter.all false

theorem ansV_form (R : X.Ans) : ∃ (k : Nat) (t : List UInt8) (v n : Nat), ansV R = .tuple #[.agg #[.int .i64 (k : Int), .string (bs t), .float .f64 v, .int .i64 0, .bool false], .int .i64 (n : Int)] := by
  cases R with
  | yes k t v n => exact ⟨k, t, v, n, rfl⟩
  | unknown => exact ⟨0, [], 0, 0, rfl⟩
  | no => exact ⟨0, [], 0, 0, rfl⟩

/-- What first leaves behind its callee: the lexeme handed on. -/
theorem first_end {w w1 W : World} {B : Nat} (hB : w.heap.size = B) (hb : Below (w.alloc lexZ).heap.size (w.alloc lexZ) w1) {a0 a1 a2 a3 a4 : Value}
    (hW : W = (((((w1.setCell ⟨B, 0, none⟩ a0).setCell ⟨B, 1, none⟩ a1).setCell ⟨B, 2, none⟩ a2).setCell ⟨B, 3, none⟩ a3).setCell ⟨B, 4, none⟩ a4)) :
    W.heap[B]? = some (.cells #[a0, a1, a2, a3, a4] 32 (0, 0)) ∧ Below B w W := by
  have hZ : (w.alloc lexZ).heap[B]? = some lexZ := by rw [← hB]; exact heap_new w lexZ
  have hs : (w.alloc lexZ).heap.size = B + 1 := by rw [heap_size, hB]
  subst hW
  refine ⟨lexZ_store (Below.keep hb hZ) _ _ _ _ _, ?_⟩
  have h0 : Below B w w1 := ((Below.refl _ _).alloc (by omega) _).trans (hb.mono (by omega))
  exact ((((h0.setCell (p := ⟨B, 0, none⟩) (Nat.le_refl _) _).setCell (p := ⟨B, 1, none⟩) (Nat.le_refl _) _).setCell (p := ⟨B, 2, none⟩) (Nat.le_refl _) _).setCell (p := ⟨B, 3, none⟩) (Nat.le_refl _) _).setCell (p := ⟨B, 4, none⟩) (Nat.le_refl _) _

set_option maxHeartbeats 8000000 in
theorem first_any (num : List UInt8 → Option Nat) (N : Nat) (hN : NumOk num N) (l : List UInt8) (hl : l.length ≤ 65535) (h0 : 0 < l.length) (hk : X.first num l ≠ .unknown) (w : World) (h : Low N w) :
    Calls Tryz.prog 43 #[.string (bs l)] w fun e w' => e = .returned (ansV (X.first num l)) ∧ Below w.heap.size w w' := by
  have hbA : Below w.heap.size w (w.alloc lexZ) := (Below.refl _ _).alloc (Nat.le_refl _) _
  have hLA := h.bel hbA
  have hop := opens_any (U.g l 0) (U.g_lt l 0)
  have hd0 := isDigit_any (U.g l 0) (U.g_lt l 0)
  have hd1 := isDigit_any (U.g l 1) (U.g_lt l 1)
  have hby := byteAt_any l (by omega) 1 (by omega)
  have hnm := name_any N l hl _ hLA
  have htx := text_any N l hl h0 _ hLA
  have hmk := mark_any N l hl _ hLA
  have hnu := fun hk => number_any num N hN l hl h0 hk _ hLA
  have hr : X.first num l = if X.opens (U.g l 0) then X.nameAns l
    else if U.g l 0 = 34 ∨ U.g l 0 = 39 then X.text l
    else if U.g l 0 = 46 ∧ X.digit (U.g l 1) = false then X.mark l
    else if U.g l 0 = 46 ∨ X.digit (U.g l 0) = true then X.number num l
    else X.mark l := rfl
  obtain ⟨b0, e0, hget⟩ := first_byte l h0
  have hsz := bs_size l
  have hS0 : 0 < (bs l).size := by omega
  have hget := hget hS0
  have hbb : b0.toNat < 256 := UInt8.toNat_lt _
  have hy := U.g_lt l 1
  obtain ⟨B, hB⟩ : ∃ B, w.heap.size = B := ⟨_, rfl⟩
  have HB := Lib.hid hB
  rw [← e0] at hop hd0 hr
  generalize X.first num l = R at hr hk ⊢
  generalize X.opens b0.toNat = op at hop hr
  generalize X.digit b0.toNat = dx at hd0 hr
  generalize U.g l 1 = y at hd1 hby hr hy
  generalize X.digit y = dy at hd1 hr
  generalize X.nameAns l = Rn at hnm hr
  generalize X.text l = Rt at htx hr
  generalize X.mark l = Rm at hmk hr
  generalize X.number num l = Ru at hnu hr
  clear e0 hsz hl h0 h hB hLA hbA
  generalize bs l = S at hby hnm htx hmk hnu hS0 hget ⊢
  have hby : ∀ w, Calls Tryz.prog 33 #[.string S, .int .i64 1] w fun e w' => e = .returned (.int .u8 (y : Int)) ∧ w = w' := hby
  have hst := store_float
  cases op
  case true =>
    rw [if_pos rfl] at hr
    subst hr
    clear htx hmk hnu hd0 hd1 hby hk
    obtain ⟨k, t, v, n, hv⟩ := ansV_form R
    rw [hv] at hnm ⊢
    generalize bs t = T at hnm ⊢
    clear hv
    go_enter Tryz.func43, Tryz.ntmps43
    go_wp2_with (first
      | (go_at_call 32; refine (hop _).mono ?_; rintro e w' ⟨rfl, rfl⟩)
      | (go_at_call 33; refine (hby _).mono ?_; rintro e w' ⟨rfl, rfl⟩)
      | (go_at_call 57; first | ((with_reducible refine (hd1 _).mono ?_); rintro e w' ⟨rfl, rfl⟩) | ((with_reducible refine (hd0 _).mono ?_); rintro e w' ⟨rfl, rfl⟩))
      | (go_at_call 61; refine hnm.mono ?_; rintro e w1 ⟨rfl, hb1⟩; have hZ2 : w1.heap[w.heap.size]? = some lexZ := Below.keep hb1 (heap_new w lexZ); obtain ⟨c0, c1, c2, c3, c4⟩ := lex_cells hZ2; have f0 := Lib.frozen_of_heap hZ2 0; have f1 := Lib.frozen_of_heap hZ2 1; have f2 := Lib.frozen_of_heap hZ2 2; have f3 := Lib.frozen_of_heap hZ2 3; have f4 := Lib.frozen_of_heap hZ2 4; have HB1 := Lib.hid hb1; clear hZ2 hb1))
    generalize hWW : (((((w1.setCell _ _).setCell _ _).setCell _ _).setCell _ _).setCell _ _) = WZ
    obtain ⟨hf, hbF⟩ := first_end (w := w) (w1 := w1) (B := w.heap.size) rfl HB1.out hWW.symm
    obtain ⟨d0, d1, d2, d3, d4⟩ := lex_cells hf
    refine bodyPost_ret (v := .tuple #[.agg #[.int .i64 (k : Int), .string T, .float .f64 v, .int .i64 0, .bool false], .int .i64 (n : Int)]) ?_ rfl ?_
    · simp [results, Tryz.results43, go_sem, d0, d1, d2, d3, d4]
    · exact ⟨rfl, hbF⟩
  rw [if_neg (by decide)] at hr
  by_cases q34 : b0.toNat = 34
  · rw [if_pos (by omega)] at hr
    subst hr
    have i34 : (b0.toNat : Int) = 34 := by omega
    rw [i34] at hop
    clear hnm hmk hnu hd0 hd1 hby hk q34
    obtain ⟨k, t, v, n, hv⟩ := ansV_form R
    rw [hv] at htx ⊢
    generalize bs t = T at htx ⊢
    clear hv
    go_enter Tryz.func43, Tryz.ntmps43
    go_wp2_with (first
      | (go_at_call 32; refine (hop _).mono ?_; rintro e w' ⟨rfl, rfl⟩)
      | (go_at_call 33; refine (hby _).mono ?_; rintro e w' ⟨rfl, rfl⟩)
      | (go_at_call 57; first | ((with_reducible refine (hd1 _).mono ?_); rintro e w' ⟨rfl, rfl⟩) | ((with_reducible refine (hd0 _).mono ?_); rintro e w' ⟨rfl, rfl⟩))
      | (go_at_call 62; refine htx.mono ?_; rintro e w1 ⟨rfl, hb1⟩; have hZ2 : w1.heap[w.heap.size]? = some lexZ := Below.keep hb1 (heap_new w lexZ); obtain ⟨c0, c1, c2, c3, c4⟩ := lex_cells hZ2; have f0 := Lib.frozen_of_heap hZ2 0; have f1 := Lib.frozen_of_heap hZ2 1; have f2 := Lib.frozen_of_heap hZ2 2; have f3 := Lib.frozen_of_heap hZ2 3; have f4 := Lib.frozen_of_heap hZ2 4; have HB1 := Lib.hid hb1; clear hZ2 hb1))
    generalize hWW : (((((w1.setCell _ _).setCell _ _).setCell _ _).setCell _ _).setCell _ _) = WZ
    obtain ⟨hf, hbF⟩ := first_end (w := w) (w1 := w1) (B := w.heap.size) rfl HB1.out hWW.symm
    obtain ⟨d0, d1, d2, d3, d4⟩ := lex_cells hf
    refine bodyPost_ret (v := .tuple #[.agg #[.int .i64 (k : Int), .string T, .float .f64 v, .int .i64 0, .bool false], .int .i64 (n : Int)]) ?_ rfl ?_
    · simp [results, Tryz.results43, go_sem, d0, d1, d2, d3, d4]
    · exact ⟨rfl, hbF⟩
  by_cases q39 : b0.toNat = 39
  · rw [if_pos (by omega)] at hr
    subst hr
    have i39 : (b0.toNat : Int) = 39 := by omega
    rw [i39] at hop
    clear hnm hmk hnu hd0 hd1 hby hk q34 q39
    obtain ⟨k, t, v, n, hv⟩ := ansV_form R
    rw [hv] at htx ⊢
    generalize bs t = T at htx ⊢
    clear hv
    go_enter Tryz.func43, Tryz.ntmps43
    go_wp2_with (first
      | (go_at_call 32; refine (hop _).mono ?_; rintro e w' ⟨rfl, rfl⟩)
      | (go_at_call 33; refine (hby _).mono ?_; rintro e w' ⟨rfl, rfl⟩)
      | (go_at_call 57; first | ((with_reducible refine (hd1 _).mono ?_); rintro e w' ⟨rfl, rfl⟩) | ((with_reducible refine (hd0 _).mono ?_); rintro e w' ⟨rfl, rfl⟩))
      | (go_at_call 62; refine htx.mono ?_; rintro e w1 ⟨rfl, hb1⟩; have hZ2 : w1.heap[w.heap.size]? = some lexZ := Below.keep hb1 (heap_new w lexZ); obtain ⟨c0, c1, c2, c3, c4⟩ := lex_cells hZ2; have f0 := Lib.frozen_of_heap hZ2 0; have f1 := Lib.frozen_of_heap hZ2 1; have f2 := Lib.frozen_of_heap hZ2 2; have f3 := Lib.frozen_of_heap hZ2 3; have f4 := Lib.frozen_of_heap hZ2 4; have HB1 := Lib.hid hb1; clear hZ2 hb1))
    generalize hWW : (((((w1.setCell _ _).setCell _ _).setCell _ _).setCell _ _).setCell _ _) = WZ
    obtain ⟨hf, hbF⟩ := first_end (w := w) (w1 := w1) (B := w.heap.size) rfl HB1.out hWW.symm
    obtain ⟨d0, d1, d2, d3, d4⟩ := lex_cells hf
    refine bodyPost_ret (v := .tuple #[.agg #[.int .i64 (k : Int), .string T, .float .f64 v, .int .i64 0, .bool false], .int .i64 (n : Int)]) ?_ rfl ?_
    · simp [results, Tryz.results43, go_sem, d0, d1, d2, d3, d4]
    · exact ⟨rfl, hbF⟩
  rw [if_neg (by omega)] at hr
  have i34 : ((b0.toNat : Int) == 34) = false := beq_eq_false_iff_ne.2 (by omega)
  have i39 : ((b0.toNat : Int) == 39) = false := beq_eq_false_iff_ne.2 (by omega)
  clear q34 q39 hnm htx
  by_cases q46 : b0.toNat = 46
  · have i46 : (b0.toNat : Int) = 46 := by omega
    rw [i46] at hop
    cases dy
    · rw [if_pos ⟨q46, rfl⟩] at hr
      subst hr
      clear q46 hnu hd0 hk i34 i39
      obtain ⟨k, t, v, n, hv⟩ := ansV_form R
      rw [hv] at hmk ⊢
      generalize bs t = T at hmk ⊢
      clear hv
      go_enter Tryz.func43, Tryz.ntmps43
      go_wp2_with (first
        | (go_at_call 32; refine (hop _).mono ?_; rintro e w' ⟨rfl, rfl⟩)
        | (go_at_call 33; refine (hby _).mono ?_; rintro e w' ⟨rfl, rfl⟩)
        | (go_at_call 57; first | ((with_reducible refine (hd1 _).mono ?_); rintro e w' ⟨rfl, rfl⟩) | ((with_reducible refine (hd0 _).mono ?_); rintro e w' ⟨rfl, rfl⟩))
        | (go_at_call 63; refine hmk.mono ?_; rintro e w1 ⟨rfl, hb1⟩; have hZ2 : w1.heap[w.heap.size]? = some lexZ := Below.keep hb1 (heap_new w lexZ); obtain ⟨c0, c1, c2, c3, c4⟩ := lex_cells hZ2; have f0 := Lib.frozen_of_heap hZ2 0; have f1 := Lib.frozen_of_heap hZ2 1; have f2 := Lib.frozen_of_heap hZ2 2; have f3 := Lib.frozen_of_heap hZ2 3; have f4 := Lib.frozen_of_heap hZ2 4; have HB1 := Lib.hid hb1; clear hZ2 hb1))
      generalize hWW : (((((w1.setCell _ _).setCell _ _).setCell _ _).setCell _ _).setCell _ _) = WZ
      obtain ⟨hf, hbF⟩ := first_end (w := w) (w1 := w1) (B := w.heap.size) rfl HB1.out hWW.symm
      obtain ⟨d0, d1, d2, d3, d4⟩ := lex_cells hf
      refine bodyPost_ret (v := .tuple #[.agg #[.int .i64 (k : Int), .string T, .float .f64 v, .int .i64 0, .bool false], .int .i64 (n : Int)]) ?_ rfl ?_
      · simp [results, Tryz.results43, go_sem, d0, d1, d2, d3, d4]
      · exact ⟨rfl, hbF⟩
    · rw [if_neg (by simp), if_pos (.inl q46)] at hr
      subst hr
      have hnu := hnu hk
      clear q46 hmk hd0 hk i34 i39
      obtain ⟨k, t, v, n, hv⟩ := ansV_form R
      rw [hv] at hnu ⊢
      generalize bs t = T at hnu ⊢
      clear hv
      go_enter Tryz.func43, Tryz.ntmps43
      go_wp2_with (first
        | (go_at_call 32; refine (hop _).mono ?_; rintro e w' ⟨rfl, rfl⟩)
        | (go_at_call 33; refine (hby _).mono ?_; rintro e w' ⟨rfl, rfl⟩)
        | (go_at_call 57; first | ((with_reducible refine (hd1 _).mono ?_); rintro e w' ⟨rfl, rfl⟩) | ((with_reducible refine (hd0 _).mono ?_); rintro e w' ⟨rfl, rfl⟩))
        | (go_at_call 64; refine hnu.mono ?_; rintro e w1 ⟨rfl, hb1⟩; have hZ2 : w1.heap[w.heap.size]? = some lexZ := Below.keep hb1 (heap_new w lexZ); obtain ⟨c0, c1, c2, c3, c4⟩ := lex_cells hZ2; have f0 := Lib.frozen_of_heap hZ2 0; have f1 := Lib.frozen_of_heap hZ2 1; have f2 := Lib.frozen_of_heap hZ2 2; have f3 := Lib.frozen_of_heap hZ2 3; have f4 := Lib.frozen_of_heap hZ2 4; have HB1 := Lib.hid hb1; clear hZ2 hb1))
      generalize hWW : (((((w1.setCell _ _).setCell _ _).setCell _ _).setCell _ _).setCell _ _) = WZ
      obtain ⟨hf, hbF⟩ := first_end (w := w) (w1 := w1) (B := w.heap.size) rfl HB1.out hWW.symm
      obtain ⟨d0, d1, d2, d3, d4⟩ := lex_cells hf
      refine bodyPost_ret (v := .tuple #[.agg #[.int .i64 (k : Int), .string T, .float .f64 v, .int .i64 0, .bool false], .int .i64 (n : Int)]) ?_ rfl ?_
      · simp [results, Tryz.results43, go_sem, d0, d1, d2, d3, d4]
      · exact ⟨rfl, hbF⟩
  · rw [if_neg (by omega)] at hr
    have i46 : ((b0.toNat : Int) == 46) = false := beq_eq_false_iff_ne.2 (by omega)
    cases dx
    · rw [if_neg (by simp [q46])] at hr
      subst hr
      clear q46 hnu hd1 hby hk
      obtain ⟨k, t, v, n, hv⟩ := ansV_form R
      rw [hv] at hmk ⊢
      generalize bs t = T at hmk ⊢
      clear hv
      go_enter Tryz.func43, Tryz.ntmps43
      go_wp2_with (first
        | (go_at_call 32; refine (hop _).mono ?_; rintro e w' ⟨rfl, rfl⟩)
        | (go_at_call 33; refine (hby _).mono ?_; rintro e w' ⟨rfl, rfl⟩)
        | (go_at_call 57; first | ((with_reducible refine (hd1 _).mono ?_); rintro e w' ⟨rfl, rfl⟩) | ((with_reducible refine (hd0 _).mono ?_); rintro e w' ⟨rfl, rfl⟩))
        | (go_at_call 63; refine hmk.mono ?_; rintro e w1 ⟨rfl, hb1⟩; have hZ2 : w1.heap[w.heap.size]? = some lexZ := Below.keep hb1 (heap_new w lexZ); obtain ⟨c0, c1, c2, c3, c4⟩ := lex_cells hZ2; have f0 := Lib.frozen_of_heap hZ2 0; have f1 := Lib.frozen_of_heap hZ2 1; have f2 := Lib.frozen_of_heap hZ2 2; have f3 := Lib.frozen_of_heap hZ2 3; have f4 := Lib.frozen_of_heap hZ2 4; have HB1 := Lib.hid hb1; clear hZ2 hb1))
      generalize hWW : (((((w1.setCell _ _).setCell _ _).setCell _ _).setCell _ _).setCell _ _) = WZ
      obtain ⟨hf, hbF⟩ := first_end (w := w) (w1 := w1) (B := w.heap.size) rfl HB1.out hWW.symm
      obtain ⟨d0, d1, d2, d3, d4⟩ := lex_cells hf
      refine bodyPost_ret (v := .tuple #[.agg #[.int .i64 (k : Int), .string T, .float .f64 v, .int .i64 0, .bool false], .int .i64 (n : Int)]) ?_ rfl ?_
      · simp [results, Tryz.results43, go_sem, d0, d1, d2, d3, d4]
      · exact ⟨rfl, hbF⟩
    · rw [if_pos (.inr rfl)] at hr
      subst hr
      have hnu := hnu hk
      clear q46 hmk hd1 hby hk
      obtain ⟨k, t, v, n, hv⟩ := ansV_form R
      rw [hv] at hnu ⊢
      generalize bs t = T at hnu ⊢
      clear hv
      go_enter Tryz.func43, Tryz.ntmps43
      go_wp2_with (first
        | (go_at_call 32; refine (hop _).mono ?_; rintro e w' ⟨rfl, rfl⟩)
        | (go_at_call 33; refine (hby _).mono ?_; rintro e w' ⟨rfl, rfl⟩)
        | (go_at_call 57; first | ((with_reducible refine (hd1 _).mono ?_); rintro e w' ⟨rfl, rfl⟩) | ((with_reducible refine (hd0 _).mono ?_); rintro e w' ⟨rfl, rfl⟩))
        | (go_at_call 64; refine hnu.mono ?_; rintro e w1 ⟨rfl, hb1⟩; have hZ2 : w1.heap[w.heap.size]? = some lexZ := Below.keep hb1 (heap_new w lexZ); obtain ⟨c0, c1, c2, c3, c4⟩ := lex_cells hZ2; have f0 := Lib.frozen_of_heap hZ2 0; have f1 := Lib.frozen_of_heap hZ2 1; have f2 := Lib.frozen_of_heap hZ2 2; have f3 := Lib.frozen_of_heap hZ2 3; have f4 := Lib.frozen_of_heap hZ2 4; have HB1 := Lib.hid hb1; clear hZ2 hb1))
      generalize hWW : (((((w1.setCell _ _).setCell _ _).setCell _ _).setCell _ _).setCell _ _) = WZ
      obtain ⟨hf, hbF⟩ := first_end (w := w) (w1 := w1) (B := w.heap.size) rfl HB1.out hWW.symm
      obtain ⟨d0, d1, d2, d3, d4⟩ := lex_cells hf
      refine bodyPost_ret (v := .tuple #[.agg #[.int .i64 (k : Int), .string T, .float .f64 v, .int .i64 0, .bool false], .int .i64 (n : Int)]) ?_ rfl ?_
      · simp [results, Tryz.results43, go_sem, d0, d1, d2, d3, d4]
      · exact ⟨rfl, hbF⟩
end Go.Proofs.YthakjbmheoojeaaGreatDoor
