/- What package strconv's listed variables hold, as the walks ask it. Conditions: that each reads as it is listed. The library's variables that the rows list: a world that holds them, and what the rows' list of them gives the walks. eslex.Name. Conditions: those that each theorem names. -/
import Derived.Test.YtelphbcdjfdjpaaGreatDoorZ25
import Derived.Test.YtelphbcdjfdjpaaGreatDoorZ9
import Derived.Lib.LaidU8T
import Derived.Test.YtelphbcdjfdjpaaGreatDoorCards
import Derived.Test.YtelphbcdjfdjpaaGreatDoorTie
import Derived.Test.YtelphbcdjfdjpaaGreatDoorZ10
import Derived.WalkKit
import Derived.ProofKit
import Derived.OpenShut
import Derived.ShutString
import Derived.LaidMore
import Derived.Lay
import Derived.HandedShaped
import Derived.Deep.DeepHandedRow
import Derived.Deep.Strs
import Derived.Lib.LaidTab
import Derived.Stop.LaidErr
import Derived.SizedLaws
import Derived.Test.YtelphbcdjfdjpaaGreatDoorZ17
namespace Go.Proofs.YtelphbcdjfdjpaaGreatDoor
open Go.ChangeShapes Go.WideShapes Go.Joins Go.Deep Go.Lib
set_option linter.all false

theorem opt_of {W : World} (h : VarReads Tryz.prog W "internal/strconv.optimize" (.lit (.bool true))) : W.cell? ⟨9, 0, none⟩ = some (.bool true) := by
  obtain ⟨g, t, cs, fuel, p, hg, ht, hv, hd⟩ := h
  have gn : Tryz.prog.globalNamed "internal/strconv.optimize" = some 9 := by kernel_rfl
  have ty : (Tryz.prog.globals[9]?).map (·.type) = some 4 := by kernel_rfl
  obtain rfl := Option.some.inj (gn.symm.trans hg)
  obtain rfl := Option.some.inj (ty.symm.trans ht)
  obtain ⟨b, hc, hx⟩ := DataW.trod_bool Tryz.underlying4 hd
  cases hx
  have e : cs = #[.bool true] := Array.ext' hc
  have := World.var?_cell gn hv 0
  rw [this, e]; rfl
theorem info_of {W : World} (h : VarReads Tryz.prog W "internal/strconv.float64info" (.agg [.lit (.int .u64 52), .lit (.int .u64 11), .lit (.int .i64 (-1023))])) :
    W.cell? ⟨10, 0, none⟩ = some (.int .u64 52) ∧ W.cell? ⟨10, 1, none⟩ = some (.int .u64 11) ∧ W.cell? ⟨10, 2, none⟩ = some (.int .i64 (-1023)) := by
  obtain ⟨g, t, cs, fuel, p, hg, ht, hv, hd⟩ := h
  have gn : Tryz.prog.globalNamed "internal/strconv.float64info" = some 10 := by kernel_rfl
  have ty : (Tryz.prog.globals[10]?).map (·.type) = some 177 := by kernel_rfl
  obtain rfl := Option.some.inj (gn.symm.trans hg)
  obtain rfl := Option.some.inj (ty.symm.trans ht)
  obtain ⟨v0, v1, v2, y0, y1, y2, n, ec, ex, h0, h1, h2⟩ := three_of Tryz.underlying177 (by kernel_rfl) (by kernel_rfl) hd
  obtain ⟨z0, e0, rfl, _⟩ := DataW.trod_int Tryz.underlying101 h0
  obtain ⟨z1, e1, rfl, _⟩ := DataW.trod_int Tryz.underlying101 h1
  obtain ⟨z2, e2, rfl, _⟩ := DataW.trod_int Tryz.underlying3 h2
  cases e0
  cases e1
  cases e2
  simp only [DataW.agg.injEq, List.cons.injEq, DataW.lit.injEq, Lit.int.injEq, and_true, true_and] at ex
  obtain ⟨rfl, rfl, rfl⟩ := ex
  have e : cs = #[.int .u64 52, .int .u64 11, .int .i64 (-1023)] := Array.ext' ec
  refine ⟨?_, ?_, ?_⟩
  · rw [World.var?_cell gn hv 0, e]; rfl
  · rw [World.var?_cell gn hv 1, e]; rfl
  · rw [World.var?_cell gn hv 2, e]; rfl
/-- A slice's variable: its row's cells. -/
theorem var_slice {W : World} {n : String} {g : Nat} {cs : Array Value} {v : Value} (gn : Tryz.prog.globalNamed n = some g) (hv : W.var? Tryz.prog n = some cs) (ec : cs.toList = [v]) : W.cell? ⟨g, 0, none⟩ = some v := by
  have e : cs = #[v] := Array.ext' ec
  rw [World.var?_cell gn hv 0, e]; rfl
theorem pow_of {W : World} (h : VarReads Tryz.prog W "internal/strconv.powtab" (.slice ([1, 3, 6, 9, 13, 16, 19, 23, 26].map fun z => .lit (.int .i64 z)) [])) :
    ∃ g off cap : Nat, g < W.heap.size ∧ 13 < W.heap.size ∧ W.cell? ⟨13, 0, none⟩ = some (.slice (some ⟨g, off, none⟩) 9 cap) ∧ ∀ i, i < 9 → W.cell? ⟨g, off + i, none⟩ = some (.int .i64 (PF.stepOf i : Int)) := by
  obtain ⟨g, t, cs, fuel, p, hg, ht, hv, hd⟩ := h
  have gn : Tryz.prog.globalNamed "internal/strconv.powtab" = some 13 := by kernel_rfl
  have ty : (Tryz.prog.globals[13]?).map (·.type) = some 61 := by kernel_rfl
  obtain rfl := Option.some.inj (gn.symm.trans hg)
  obtain rfl := Option.some.inj (ty.symm.trans ht)
  have c1 : Tryz.prog.cellsOf 3 = 1 := by kernel_rfl
  obtain ⟨⟨b, off, spot⟩, n, ec, hS⟩ := slice_of Tryz.underlying61 (by decide) hd
  have hS' : ∀ i, i < 9 → W.cell? ((⟨b, off, spot⟩ : Addr).add i) = some (.int .i64 (PF.stepOf i : Int)) := by
    intro i hi
    obtain ⟨cs', q, h1, h2⟩ := hS i hi
    rw [c1, Nat.mul_one] at h1
    obtain ⟨z, e0, ex, _⟩ := DataW.trod_int Tryz.underlying3 h2
    subst e0
    rw [cell_of_cells?_one h1]
    have e1 := (Prod.mk.inj ex).1
    match i, hi with
    | 0, _ => cases e1; rfl
    | 1, _ => cases e1; rfl
    | 2, _ => cases e1; rfl
    | 3, _ => cases e1; rfl
    | 4, _ => cases e1; rfl
    | 5, _ => cases e1; rfl
    | 6, _ => cases e1; rfl
    | 7, _ => cases e1; rfl
    | 8, _ => cases e1; rfl
  have hspot : spot = none := by simpa [Addr.add] using World.cell?_spot (hS' 0 (by omega))
  subst hspot
  have hc := var_slice gn hv ec
  refine ⟨b, off, 9, block_of_cell (hS' 0 (by omega)), block_of_cell hc, hc, fun i hi => ?_⟩
  have := hS' i hi
  rw [add_flat] at this
  exact this
theorem ten_of {W : World} (h : VarReads Tryz.prog W "internal/strconv.float64pow10" (.slice (pow10F.map fun z => .lit (.float .f64 z)) [])) : TenAt W.heap.size W := by
  obtain ⟨g, t, cs, fuel, p, hg, ht, hv, hd⟩ := h
  have gn : Tryz.prog.globalNamed "internal/strconv.float64pow10" = some 14 := by kernel_rfl
  have ty : (Tryz.prog.globals[14]?).map (·.type) = some 208 := by kernel_rfl
  obtain rfl := Option.some.inj (gn.symm.trans hg)
  obtain rfl := Option.some.inj (ty.symm.trans ht)
  have c1 : Tryz.prog.cellsOf 30 = 1 := by kernel_rfl
  have hl : (pow10F.map fun z => (DataW.lit (.float .f64 z) : DataW Unit)).length = 23 := rfl
  obtain ⟨⟨b, off, spot⟩, n, ec, hS⟩ := slice_of Tryz.underlying208 (by rw [hl]; decide) hd
  rw [hl] at ec hS
  have hS' : ∀ i, i < 23 → W.cell? ((⟨b, off, spot⟩ : Addr).add i) = some (.float .f64 (p10 i)) := by
    intro i hi
    obtain ⟨cs', q, h1, h2⟩ := hS i hi
    rw [c1, Nat.mul_one] at h1
    obtain ⟨_, hlen, _⟩ := World.cells?_some h1
    match cs', hlen with
    | [v], _ =>
      obtain ⟨z, e0, ex⟩ := trodF Tryz.underlying30 h2
      subst e0
      rw [cell_of_cells?_one h1]
      have e1 := (Prod.mk.inj ex).1
      have hi' : i < pow10F.length := hi
      rw [List.getD_eq_getElem?_getD, List.getElem?_map, List.getElem?_eq_getElem hi'] at e1
      simp only [Option.map_some, Option.getD_some, DataW.lit.injEq, Lit.float.injEq, true_and] at e1
      unfold p10
      rw [List.getD_eq_getElem?_getD, List.getElem?_eq_getElem hi', Option.getD_some, e1]
  have hspot : spot = none := by simpa [Addr.add] using World.cell?_spot (hS' 0 (by omega))
  subst hspot
  have hc := var_slice gn hv ec
  refine ⟨b, off, 23, block_of_cell (hS' 0 (by omega)), block_of_cell hc, hc, fun i hi => ?_⟩
  have := hS' i hi
  rw [add_flat] at this
  exact this
theorem cheats_len : Go.Pinned.cheatRows.length = 61 := by kernel_rfl
theorem cheat_of {W : World} (h : VarReads Tryz.prog W "internal/strconv.leftcheats" Go.Pinned.leftcheats) :
    ∃ g off cap : Nat, g < W.heap.size ∧ 18 < W.heap.size ∧ W.cell? ⟨18, 0, none⟩ = some (.slice (some ⟨g, off, none⟩) 61 cap) ∧
    ∀ k, k < 61 → W.cell? ⟨g, off + k * 2, none⟩ = some (.int .i64 ((PF.cheat k).1 : Int)) ∧ W.cell? ⟨g, off + k * 2 + 1, none⟩ = some (.string ⟨(PF.cheat k).2.toArray⟩) := by
  obtain ⟨g, t, cs, fuel, p, hg, ht, hv, hd⟩ := h
  have gn : Tryz.prog.globalNamed "internal/strconv.leftcheats" = some 18 := by kernel_rfl
  have ty : (Tryz.prog.globals[18]?).map (·.type) = some 222 := by kernel_rfl
  obtain rfl := Option.some.inj (gn.symm.trans hg)
  obtain rfl := Option.some.inj (ty.symm.trans ht)
  have c2 : Tryz.prog.cellsOf 221 = 2 := by kernel_rfl
  unfold Go.Pinned.leftcheats at hd
  have hl : (Go.Pinned.cheatRows.map fun x => (DataW.agg [.lit (.int .i64 x.1), .lit (.string x.2)] : DataW Unit)).length = 61 := by rw [List.length_map]; exact cheats_len
  obtain ⟨⟨b, off, spot⟩, n, ec, hS⟩ := slice_of Tryz.underlying222 (by rw [hl]; decide) hd
  rw [hl] at ec hS
  have hS' : ∀ k, k < 61 → W.cell? (((⟨b, off, spot⟩ : Addr).add (k * 2)).add 0) = some (.int .i64 ((PF.cheat k).1 : Int)) ∧ W.cell? (((⟨b, off, spot⟩ : Addr).add (k * 2)).add 1) = some (.string ⟨(PF.cheat k).2.toArray⟩) := by
    intro k hk
    obtain ⟨cs', q, h1, h2⟩ := hS k hk
    rw [c2] at h1
    obtain ⟨_, hlen, hcell⟩ := World.cells?_some h1
    obtain ⟨v0, v1, y0, y1, m, e0, ex, i0, i1⟩ := two_of Tryz.underlying221 (by kernel_rfl) (by kernel_rfl) h2
    subst e0
    obtain ⟨z0, f0, rfl, _⟩ := DataW.trod_int Tryz.underlying3 i0
    obtain ⟨s1, f1, rfl, _⟩ := DataW.trod_string Tryz.underlying9 i1
    cases f0
    cases f1
    have hk' : k < Go.Pinned.cheatRows.length := by rw [cheats_len]; exact hk
    rw [List.getD_eq_getElem?_getD, List.getElem?_map, List.getElem?_eq_getElem hk'] at ex
    simp only [Option.map_some, Option.getD_some, DataW.agg.injEq, List.cons.injEq, DataW.lit.injEq, Lit.int.injEq, Lit.string.injEq, and_true, true_and] at ex
    have ec : PF.cheat k = Go.Pinned.cheatRows[k] := by unfold PF.cheat; rw [List.getD_eq_getElem?_getD, List.getElem?_eq_getElem hk', Option.getD_some]
    refine ⟨?_, ?_⟩
    · rw [hcell 0 (by omega), ec, ex.1]; rfl
    · rw [hcell 1 (by omega), ec, ex.2]
      show some (Value.string s1) = _
      congr 2
  have hspot : spot = none := by simpa [Addr.add] using World.cell?_spot (hS' 0 (by omega)).1
  subst hspot
  have hc := var_slice gn hv ec
  refine ⟨b, off, 61, by simpa [Addr.add] using block_of_cell (hS' 0 (by omega)).1, block_of_cell hc, hc, fun i hi => ?_⟩
  have := hS' i hi
  rw [add_flat, add_flat, add_flat] at this
  exact this
theorem scale_of {W : World} (h : VarReads Tryz.prog W "internal/strconv.pow10Tab" Go.Pinned.pow10Tab) : ScaleTab W.heap.size W := by
  obtain ⟨g, t, cs, fuel, p, hg, ht, hv, hd⟩ := h
  have gn : Tryz.prog.globalNamed "internal/strconv.pow10Tab" = some 15 := by kernel_rfl
  have ty : (Tryz.prog.globals[15]?).map (·.type) = some 213 := by kernel_rfl
  obtain rfl := Option.some.inj (gn.symm.trans hg)
  obtain rfl := Option.some.inj (ty.symm.trans ht)
  have c2 : Tryz.prog.cellsOf 212 = 2 := by kernel_rfl
  unfold Go.Pinned.pow10Tab at hd
  obtain ⟨m, hS⟩ := array_of Tryz.underlying213 hd
  rw [c2] at hS
  have hall : ∀ i, i < 696 → W.cell? ⟨15, i * 2, none⟩ = some (.int .u64 (sHi i : Int)) ∧ W.cell? ⟨15, i * 2 + 1, none⟩ = some (.int .u64 (sLo i : Int)) := by
    intro i hi
    obtain ⟨q, h2⟩ := hS i hi
    obtain ⟨v0, v1, y0, y1, m, e0, ex, i0, i1⟩ := two_of Tryz.underlying212 (by kernel_rfl) (by kernel_rfl) h2
    obtain ⟨z0, f0, rfl, _⟩ := DataW.trod_int Tryz.underlying71 i0
    obtain ⟨z1, f1, rfl, _⟩ := DataW.trod_int Tryz.underlying71 i1
    cases f0
    cases f1
    have hk' : i < Go.Pinned.pow10Rows.length := by rw [rows_len]; exact hi
    rw [List.getD_eq_getElem?_getD, List.getElem?_map, List.getElem?_eq_getElem hk'] at ex
    simp only [Option.map_some, Option.getD_some, DataW.agg.injEq, List.cons.injEq, DataW.lit.injEq, Lit.int.injEq, and_true, true_and] at ex
    have eh : (sHi i : Int) = z0 := by unfold sHi; rw [List.getD_eq_getElem?_getD, List.getElem?_eq_getElem hk', Option.getD_some]; exact ex.1
    have el : (sLo i : Int) = z1 := by unfold sLo; rw [List.getD_eq_getElem?_getD, List.getElem?_eq_getElem hk', Option.getD_some]; exact ex.2
    have g0 : cs[i * 2]? = some (.int .u64 z0) := by
      have := congrArg (·[0]?) e0
      simpa [List.getElem?_take, List.getElem?_drop] using this
    have g1 : cs[i * 2 + 1]? = some (.int .u64 z1) := by
      have := congrArg (·[1]?) e0
      simpa [List.getElem?_take, List.getElem?_drop] using this
    exact ⟨by rw [World.var?_cell gn hv, g0, eh], by rw [World.var?_cell gn hv, g1, el]⟩
  exact ⟨block_of_cell (hall 0 (by omega)).1, hall⟩
theorem it_of {W : World} (h : VarReads Tryz.prog W "internal/strconv.uint64pow10" (Lib.tabData .u64 Lib.pow10Tab)) : ItTab W.heap.size W := by
  obtain ⟨g, t, cs, fuel, p, hg, ht, hv, hd⟩ := h
  have ty : (Tryz.prog.globals[11]?).map (·.type) = some 193 := by kernel_rfl
  obtain rfl := Option.some.inj (gn_it.symm.trans hg)
  obtain rfl := Option.some.inj (ty.symm.trans ht)
  have hT : Lib.TabIs Tryz.prog W "internal/strconv.uint64pow10" .u64 Lib.pow10Tab := by
    unfold Lib.TabIs
    rw [hv, ← Lib.cells_of_tab Tryz.underlying193 Tryz.underlying71 (by kernel_rfl) (by kernel_rfl) hd]
  refine ⟨?_, hT⟩
  have := hT.cell gn_it 0 (by decide)
  exact block_of_cell this
/-- All of them. -/
theorem numE_of {W : World} (h1 : VarReads Tryz.prog W "internal/strconv.optimize" (.lit (.bool true))) (h2 : VarReads Tryz.prog W "internal/strconv.float64info" (.agg [.lit (.int .u64 52), .lit (.int .u64 11), .lit (.int .i64 (-1023))]))
    (h3 : VarReads Tryz.prog W "internal/strconv.powtab" (.slice ([1, 3, 6, 9, 13, 16, 19, 23, 26].map fun z => .lit (.int .i64 z)) [])) (h4 : VarReads Tryz.prog W "internal/strconv.float64pow10" (.slice (pow10F.map fun z => .lit (.float .f64 z)) []))
    (h5 : VarReads Tryz.prog W "internal/strconv.leftcheats" Go.Pinned.leftcheats) (h6 : VarReads Tryz.prog W "internal/strconv.pow10Tab" Go.Pinned.pow10Tab) (h7 : VarReads Tryz.prog W "internal/strconv.uint64pow10" (Lib.tabData .u64 Lib.pow10Tab)) : NumE W.heap.size W :=
  ⟨⟨⟨pow_of h3, cheat_of h5, block_of_cell (info_of h2).1, info_of h2⟩, ten_of h4, scale_of h6, block_of_cell (opt_of h1), opt_of h1⟩, it_of h7⟩
end Go.Proofs.YtelphbcdjfdjpaaGreatDoor
namespace Go.Proofs.YtelphbcdjfdjpaaGreatDoor
open Go.ChangeShapes Go.WideShapes Go.ChangeAt Go.RowKit Go.Shelf Go.Lib
set_option linter.all false

theorem own : ownKnob Tryz.prog.godebug = none := by kernel_rfl
def laidList : List (String × DataW Unit) := [("math/bits.deBruijn32tab", Rows.laid_math_bits_deBruijn32tab), ("math/bits.deBruijn64tab", Rows.laid_math_bits_deBruijn64tab), ("internal/strconv.float32info", Rows.laid_internal_strconv_float32info), ("internal/strconv.float64info", Rows.laid_internal_strconv_float64info), ("internal/strconv.optimize", Rows.laid_internal_strconv_optimize), ("internal/strconv.powtab", Rows.laid_internal_strconv_powtab), ("internal/strconv.float64pow10", Rows.laid_internal_strconv_float64pow10), ("internal/strconv.float32pow10", Rows.laid_internal_strconv_float32pow10), ("internal/strconv.uint64pow10", Rows.laid_internal_strconv_uint64pow10), ("unicode/utf8.acceptRanges", Rows.laid_unicode_utf8_acceptRanges), ("strconv.ErrRange", Rows.laid_strconv_ErrRange), ("strconv.ErrSyntax", Rows.laid_strconv_ErrSyntax), ("pennant/eslex.words", Rows.laid_pennant_eslex_words), ("pennant/eslex.marks", Rows.laid_pennant_eslex_marks), ("internal/strconv.leftcheats", Rows.laid_internal_strconv_leftcheats), ("internal/strconv.pow10Tab", Rows.laid_internal_strconv_pow10Tab), ("unicode/utf8.first", Rows.laid_unicode_utf8_first)]
theorem first_data : Rows.laid_unicode_utf8_first = Lib.firstData := by kernel_rfl
theorem accept_data : (Rows.laid_unicode_utf8_acceptRanges : DataW Unit) = Lib.acceptData := by kernel_rfl
def strsData (l : List (List UInt8)) : DataW Unit := .slice (l.map fun x => .lit (.string x)) []
theorem words_data : (Rows.laid_pennant_eslex_words : DataW Unit) = strsData X.words := by kernel_rfl
theorem num_data : (Rows.laid_internal_strconv_optimize : DataW Unit) = .lit (.bool true) ∧ (Rows.laid_internal_strconv_float64info : DataW Unit) = .agg [.lit (.int .u64 52), .lit (.int .u64 11), .lit (.int .i64 (-1023))] ∧
    (Rows.laid_internal_strconv_powtab : DataW Unit) = .slice ([1, 3, 6, 9, 13, 16, 19, 23, 26].map fun z => .lit (.int .i64 z)) [] ∧ (Rows.laid_internal_strconv_float64pow10 : DataW Unit) = .slice (pow10F.map fun z => .lit (.float .f64 z)) [] ∧ (Rows.laid_internal_strconv_uint64pow10 : DataW Unit) = Lib.tabData .u64 Lib.pow10Tab :=
  ⟨by kernel_rfl, by kernel_rfl, by kernel_rfl, by kernel_rfl, by kernel_rfl⟩
theorem num_of {W : World} (h : laidMet Tryz.prog laidList W) : NumE W.heap.size W := by
  obtain ⟨d1, d2, d3, d4, d5⟩ := num_data
  have h1 := Lib.laidMet.reads h (n := "internal/strconv.optimize") (d := Rows.laid_internal_strconv_optimize) (by unfold laidList; simp)
  have h2 := Lib.laidMet.reads h (n := "internal/strconv.float64info") (d := Rows.laid_internal_strconv_float64info) (by unfold laidList; simp)
  have h3 := Lib.laidMet.reads h (n := "internal/strconv.powtab") (d := Rows.laid_internal_strconv_powtab) (by unfold laidList; simp)
  have h4 := Lib.laidMet.reads h (n := "internal/strconv.float64pow10") (d := Rows.laid_internal_strconv_float64pow10) (by unfold laidList; simp)
  have h5 := Lib.laidMet.reads h (n := "internal/strconv.leftcheats") (d := Rows.laid_internal_strconv_leftcheats) (by unfold laidList; simp)
  have h6 := Lib.laidMet.reads h (n := "internal/strconv.pow10Tab") (d := Rows.laid_internal_strconv_pow10Tab) (by unfold laidList; simp)
  have h7 := Lib.laidMet.reads h (n := "internal/strconv.uint64pow10") (d := Rows.laid_internal_strconv_uint64pow10) (by unfold laidList; simp)
  rw [d1] at h1
  rw [d2] at h2
  rw [d3] at h3
  rw [d4] at h4
  rw [d5] at h7
  exact numE_of h1 h2 h3 h4 h5 h6 h7
theorem marks_data : (Rows.laid_pennant_eslex_marks : DataW Unit) = strsData X.marks := by kernel_rfl
theorem tabs {W : World} (h : laidMet Tryz.prog laidList W) : Lib.Utf8Tabs 3 4 W := by
  have h3 := Lib.laidMet.reads h (n := "unicode/utf8.first") (d := Rows.laid_unicode_utf8_first) (by unfold laidList; simp)
  have h4 := Lib.laidMet.reads h (n := "unicode/utf8.acceptRanges") (d := Rows.laid_unicode_utf8_acceptRanges) (by unfold laidList; simp)
  rw [first_data] at h3
  rw [accept_data] at h4
  exact utf8Tabs_of_readsT (ρ := Tryz.lays260_ren) (U8Types.of260 Tryz.lays260) ⟨by kernel_rfl, by kernel_rfl, by kernel_rfl, by kernel_rfl, by kernel_rfl, by kernel_rfl, by kernel_rfl⟩ h3 h4
theorem lt_of_cell {w : World} {a : Addr} {v : Value} (h : w.cell? a = some v) : a.block < w.heap.size := block_of_cell h
/-- A listed table of texts. -/
theorem tab_of {W : World} {n : String} {g : Nat} (l : List (List UInt8)) (hpos : 0 < l.length) (h : VarReads Tryz.prog W n (strsData l)) (hg : Tryz.prog.globalNamed n = some g) (ht : (Tryz.prog.globals[g]?).map (·.type) = some 49) : Tab W.heap.size g l W := by
  obtain ⟨g0, t, cs, fuel, p, hg0, ht0, hv, hd⟩ := h
  obtain rfl := Option.some.inj (hg.symm.trans hg0)
  obtain rfl := Option.some.inj (ht.symm.trans ht0)
  have hcell := fun v (e : cs = #[v]) => World.var?_cell hg (show W.var? Tryz.prog n = some #[v] by rw [hv, e]) 0
  rcases Go.Deep.open_strs Tryz.underlying49 Tryz.underlying9 (by kernel_rfl) hd with ⟨_, e⟩ | ⟨a, len, cap, m, Sx, ecs, _, hlc, _, hm, e, hS⟩
  · cases (Prod.mk.inj e).1
  · rw [if_pos rfl] at hm
    subst hm
    have e1 := (Prod.mk.inj e).1
    unfold strsData at e1
    injection e1 with e2 e3
    have hlen : len = l.length := by have := congrArg List.length e2; simpa using this.symm
    have hcap : m - len = 0 := by have := congrArg List.length e3; simpa using this.symm
    have hmc : m = len := by omega
    subst hmc
    subst hlen
    obtain ⟨b, off, spot⟩ := a
    have hc0 := (hS 0 hpos).1
    have hspot : spot = none := by simpa [Addr.add] using World.cell?_spot hc0
    subst hspot
    have hcs : cs = #[.slice (some ⟨b, off, none⟩) l.length l.length] := Array.ext' ecs
    have hc := hcell _ hcs
    refine ⟨?_, b, off, l.length, lt_of_cell hc0, ?_, fun i hi => ?_⟩
    · exact lt_of_cell (a := ⟨g, 0, none⟩) (by simpa using hc)
    · simpa using hc
    · have h1 := (hS i hi).1
      rw [Lib.add_plain] at h1
      rw [h1]
      have h2 := congrArg (fun z => z[i]?) e2
      simp only [List.getElem?_map, List.getElem?_range hi, List.getElem?_eq_getElem hi, Option.map_some] at h2
      have h3 : l[i] = (Sx i).data.toList := by simpa using h2
      rw [h3, bs_data]
theorem star : "*errors.errorString" = "*" ++ "errors.errorString" := by decide
theorem rowPtr (u : TypeId) (h : Tryz.prog.typeName? 3 u = some "*errors.errorString") : u = 154 :=
  typeName_ptr_named (nm := "errors.errorString") (by rw [← star]; kernel_rfl) (by kernel_rfl) (by decide) u (by rw [← star]; exact h)
theorem maxl_of {W : World} (h : W.ShapedOpen Tryz.prog) : ∃ m, W.cell? ⟨5, 0, none⟩ = some (.int .i64 m) :=
  cell_of_shapedOpen_int (zero := #[.int .i64 0]) (t := 3) h (of_decide_eq_true (by kernel_rfl)) (by kernel_rfl) rfl (by kernel_rfl) (by kernel_rfl) Tryz.underlying3
theorem heap19 {W : World} (h : laidMet Tryz.prog laidList W) : 19 ≤ W.heap.size := by
  have hr := Lib.laidMet.reads h (n := "internal/strconv.leftcheats") (d := Rows.laid_internal_strconv_leftcheats) (by unfold laidList; simp)
  obtain ⟨g, t, cs, fuel, p, hg, hty, hvar, hd⟩ := hr
  have g18 : Tryz.prog.globalNamed "internal/strconv.leftcheats" = some 18 := by kernel_rfl
  rcases Nat.lt_or_ge 18 W.heap.size with h' | h'
  · omega
  · exfalso
    unfold World.var? at hvar
    rw [g18] at hvar
    simp [Array.getElem?_eq_none h'] at hvar
theorem low_of {W : World} (h0 : laidMetH Tryz.prog laidList W) (hS : W.ShapedOpen Tryz.prog) : Low W.heap.size W := by
  have h : laidMet Tryz.prog laidList W := by rw [MakeChecks.laidMetH_plain _ _ _ (by kernel_rfl)] at h0; exact h0
  have h10 := laidMet.tail (laidMet.tail (laidMet.tail (laidMet.tail (laidMet.tail (laidMet.tail (laidMet.tail (laidMet.tail (laidMet.tail (laidMet.tail h)))))))))
  have h11 := laidMet.tail h10
  obtain ⟨a4, s4, hv4, _⟩ := laid_sentinel (g := 7) h10 (by kernel_rfl) (by kernel_rfl) Tryz.underlying92 rowPtr Tryz.underlying154 Tryz.underlying156 rfl rfl Tryz.underlying9 (by kernel_rfl) (by kernel_rfl)
  obtain ⟨a5, s5, hv5, _⟩ := laid_sentinel (g := 6) h11 (by kernel_rfl) (by kernel_rfl) Tryz.underlying92 rowPtr Tryz.underlying154 Tryz.underlying156 rfl rfl Tryz.underlying9 (by kernel_rfl) (by kernel_rfl)
  have gr : Tryz.prog.globalNamed "strconv.ErrRange" = some 7 := by kernel_rfl
  have gs : Tryz.prog.globalNamed "strconv.ErrSyntax" = some 6 := by kernel_rfl
  have c8 : W.cell? ⟨7, 0, none⟩ = some (.iface 154 (.pointer (some a4))) := by simpa using World.var?_cell gr hv4 0
  have c7 : W.cell? ⟨6, 0, none⟩ = some (.iface 154 (.pointer (some a5))) := by simpa using World.var?_cell gs hv5 0
  have hwr := Lib.laidMet.reads h (n := "pennant/eslex.words") (d := Rows.laid_pennant_eslex_words) (by unfold laidList; simp)
  have hmr := Lib.laidMet.reads h (n := "pennant/eslex.marks") (d := Rows.laid_pennant_eslex_marks) (by unfold laidList; simp)
  rw [words_data] at hwr
  rw [marks_data] at hmr
  exact ⟨heap19 h, Nat.le_refl _, tabs h, maxl_of hS, ⟨_, _, c7⟩, ⟨_, _, c8⟩, tab_of X.words (by decide) hwr (by kernel_rfl) (by kernel_rfl), tab_of X.marks (by decide) hmr (by kernel_rfl) (by kernel_rfl), num_of h⟩

/-- The settled world. -/
noncomputable def baseWorld (os : Os) : World := World.holding Tryz.prog os ⟨#[], #[], []⟩
/-- .. and the listed variables. -/
noncomputable def laidWorld (os : Os) : World := (baseWorld os).layVars Tryz.prog laidList
theorem laidWorld_os (os : Os) : (laidWorld os).os = os := World.layVars_os _ _ _
theorem plain_met (os : Os) : laidMet Tryz.prog laidList (laidWorld os) := by
  have e1 : (laidList.filter fun x => (laidList.map (·.1)).contains x.1) = laidList := List.filter_eq_self.2 fun x hx => List.contains_iff_mem.2 (List.mem_map.2 ⟨x, hx, rfl⟩)
  have e2 : (laidList.filter fun x => !(laidList.map (·.1)).contains x.1) = [] := List.filter_eq_nil_iff.2 fun x hx => by rw [List.contains_iff_mem.2 (List.mem_map.2 ⟨x, hx, rfl⟩)]; simp
  exact laidMet_layVars (w0 := baseWorld os) (laidList.map (·.1)) [] (by rw [e1]; rfl) (by rw [e1]; kernel_rfl) (by rw [e1]; kernel_rfl) (by rw [e2]; exact LaidIn.none)
theorem laid_met (os : Os) (args : Array Value) : laidMetH Tryz.prog laidList ((laidWorld os).forCall (fun _ _ => 0) ⟨#[], args, []⟩).memory := by
  rw [MakeChecks.laidMetH_plain _ _ _ (by kernel_rfl)]
  exact (plain_met os).of_heap (by simp [World.memory, World.forCall, Input.heap])
theorem shaped (os : Os) (args : Array Value) : ((laidWorld os).forCall (fun _ _ => 0) ⟨#[], args, []⟩).Shaped Tryz.prog := World.shaped_of_ZipB (by kernel_rfl) (by kernel_rfl)
end Go.Proofs.YtelphbcdjfdjpaaGreatDoor
namespace Go.Proofs.YtelphbcdjfdjpaaGreatDoor
open Go.RowKit
set_option linter.all false

set_option maxHeartbeats 4000000 in
theorem nameF_any (N : Nat) (l : List UInt8) (hl : l.length ≤ 140737488355328) (w : World) (hT : Tab N 0 X.words w) :
    Calls Tryz.prog 15 #[.string (bs l)] w fun e w' => e = .returned (.bool (X.name l)) ∧ w = w' := by
  have hby : ∀ w, Calls Tryz.prog 33 #[.string (bs l), .int .i64 0] w fun e w' => e = .returned (.int .u8 (U.g l 0 : Int)) ∧ w = w' := byteAt_any l hl 0 (by omega)
  have hop := opens_any (U.g l 0) (U.g_lt l 0)
  have hpa : ∀ w, Calls Tryz.prog 34 #[.string (bs l), .int .i64 0, .func (.func 35) #[] #[]] w fun e w' => e = .returned (.int .i64 (X.past X.goes l : Int)) ∧ w = w' := past_goes l hl 0 (by omega) (X.past X.goes l) (by rw [Nat.zero_add]; rfl)
  have hwd := word_any N l hl w hT
  have hsz := bs_size l
  have hn : X.name l = (X.opens (U.g l 0) && (X.past X.goes l == l.length) && !X.word l) := rfl
  have hle := past_le X.goes l
  rw [hn]
  generalize X.opens (U.g l 0) = o at *
  generalize X.past X.goes l = p at *
  generalize X.word l = wd at *
  generalize U.g l 0 = b at *
  have hps : ((p : Int) == ((bs l).size : Int)) = (p == l.length) := by
    rw [hsz]
    by_cases h : p = l.length
    · rw [h, beq_self_eq_true, beq_self_eq_true]
    · have h2 : ¬ (p : Int) = (l.length : Int) := by omega
      rw [beq_eq_false_iff_ne.2 h2, beq_eq_false_iff_ne.2 h]
  generalize (bs l) = S at *
  go_enter Tryz.func15, Tryz.ntmps15
  go_wp2_with (with_reducible first | (refine (hby _).mono ?_; rintro e w' ⟨rfl, rfl⟩) | (refine (hop _).mono ?_; rintro e w' ⟨rfl, rfl⟩) | (refine (hpa _).mono ?_; rintro e w' ⟨rfl, rfl⟩) | (refine hwd.mono ?_; rintro e w' ⟨rfl, rfl⟩))
  all_goals (go_ret; refine ⟨ret_bool ?_, rfl⟩; simp_all <;> (try (intro h; exfalso; omega)))
end Go.Proofs.YtelphbcdjfdjpaaGreatDoor
