/- The library's variables that the rows list: a world that holds them, and what the rows' list of them gives the walks. -/
import Derived.Test.YthakjbmheoojeaaGreatDoorCards
import Derived.Test.YthakjbmheoojeaaGreatDoorTie
import Derived.Test.YthakjbmheoojeaaGreatDoorL6
import Derived.WalkKit
import Derived.ProofKit
import Derived.OpenShut
import Derived.ShutString
import Derived.LaidMore
import Derived.Lay
import Derived.HandedShaped
import Derived.Deep.DeepHandedRow
import Derived.Deep.Strs
import Derived.Lib.LaidU8T
import Derived.Lib.LaidTab
import Derived.Stop.LaidErr
import Derived.SizedLaws
namespace Go.Proofs.YthakjbmheoojeaaGreatDoor
open Go.ChangeShapes Go.WideShapes Go.ChangeAt Go.RowKit Go.Shelf Go.Lib
set_option linter.all false

theorem own : ownKnob Tryz.prog.godebug = none := by kernel_rfl
def laidList : List (String × DataW Unit) := [("math/bits.deBruijn32tab", Rows.laid_math_bits_deBruijn32tab), ("math/bits.deBruijn64tab", Rows.laid_math_bits_deBruijn64tab), ("internal/strconv.float32info", Rows.laid_internal_strconv_float32info), ("internal/strconv.float64info", Rows.laid_internal_strconv_float64info), ("internal/strconv.optimize", Rows.laid_internal_strconv_optimize), ("internal/strconv.powtab", Rows.laid_internal_strconv_powtab), ("internal/strconv.float64pow10", Rows.laid_internal_strconv_float64pow10), ("internal/strconv.float32pow10", Rows.laid_internal_strconv_float32pow10), ("internal/strconv.uint64pow10", Rows.laid_internal_strconv_uint64pow10), ("unicode/utf8.acceptRanges", Rows.laid_unicode_utf8_acceptRanges), ("strconv.ErrRange", Rows.laid_strconv_ErrRange), ("strconv.ErrSyntax", Rows.laid_strconv_ErrSyntax), ("pennant/eslex.words", Rows.laid_pennant_eslex_words), ("pennant/eslex.marks", Rows.laid_pennant_eslex_marks), ("internal/strconv.leftcheats", Rows.laid_internal_strconv_leftcheats), ("internal/strconv.pow10Tab", Rows.laid_internal_strconv_pow10Tab), ("unicode/utf8.first", Rows.laid_unicode_utf8_first)]
theorem first_data : Rows.laid_unicode_utf8_first = Lib.firstData := by kernel_rfl
theorem accept_data : (Rows.laid_unicode_utf8_acceptRanges : DataW Unit) = Lib.acceptData := by kernel_rfl
def strsData (l : List (List UInt8)) : DataW Unit := .slice (l.map fun x => .lit (.string x)) []
theorem words_data : (Rows.laid_pennant_eslex_words : DataW Unit) = strsData X.words := by kernel_rfl
theorem marks_data : (Rows.laid_pennant_eslex_marks : DataW Unit) = strsData X.marks := by kernel_rfl
theorem tabs {W : World} (h : laidMet Tryz.prog laidList W) : Lib.Utf8Tabs 3 4 W := by
  have h3 := Lib.laidMet.reads h (n := "unicode/utf8.first") (d := Rows.laid_unicode_utf8_first) (by unfold laidList; simp)
  have h4 := Lib.laidMet.reads h (n := "unicode/utf8.acceptRanges") (d := Rows.laid_unicode_utf8_acceptRanges) (by unfold laidList; simp)
  rw [first_data] at h3
  rw [accept_data] at h4
  exact utf8Tabs_of_readsT (ρ := Tryz.lays260_ren) (U8Types.of260 Tryz.lays260) ⟨by kernel_rfl, by kernel_rfl, by kernel_rfl, by kernel_rfl, by kernel_rfl, by kernel_rfl, by kernel_rfl⟩ h3 h4
theorem lt_of_cell {w : World} {a : Addr} {v : Value} (h : w.cell? a = some v) : a.block < w.heap.size := by
  rcases Nat.lt_or_ge a.block w.heap.size with h' | h'
  · exact h'
  · simp [World.cell?, Array.getElem?_eq_none h'] at h
/-- A listed table of texts. -/
theorem tab_of {W : World} {n : String} {g : Nat} (l : List (List UInt8)) (hpos : 0 < l.length) (h : VarReads Tryz.prog W n (strsData l)) (hg : Tryz.prog.globalNamed n = some g) (ht : (Tryz.prog.globals[g]?).map (·.type) = some 49) : Tab W.heap.size g l W := by
  obtain ⟨g0, t, cs, fuel, p, hg0, ht0, hv, hd⟩ := h
  obtain rfl := Option.some.inj (hg.symm.trans hg0)
  obtain rfl := Option.some.inj (ht.symm.trans ht0)
  have hcell := fun v (e : cs = #[v]) => World.var?_cell hg (show W.var? Tryz.prog n = some #[v] by rw [hv, e]) 0
  rcases Go.Deep.open_strs Tryz.underlying49 Tryz.underlying9 (by kernel_rfl) hd with ⟨_, e⟩ | ⟨a, len, cap, m, Sx, ecs, _, hlc, _, hm, e, hS⟩
  · cases (Prod.mk.inj e).1
  · rw [if_pos rfl] at hm
    subst hm
    have e1 := (Prod.mk.inj e).1
    unfold strsData at e1
    injection e1 with e2 e3
    have hlen : len = l.length := by have := congrArg List.length e2; simpa using this.symm
    have hcap : m - len = 0 := by have := congrArg List.length e3; simpa using this.symm
    have hmc : m = len := by omega
    subst hmc
    subst hlen
    obtain ⟨b, off, spot⟩ := a
    have hc0 := (hS 0 hpos).1
    have hspot : spot = none := by simpa [Addr.add] using World.cell?_spot hc0
    subst hspot
    have hcs : cs = #[.slice (some ⟨b, off, none⟩) l.length l.length] := Array.ext' ecs
    have hc := hcell _ hcs
    refine ⟨?_, b, off, l.length, lt_of_cell hc0, ?_, fun i hi => ?_⟩
    · exact lt_of_cell (a := ⟨g, 0, none⟩) (by simpa using hc)
    · simpa using hc
    · have h1 := (hS i hi).1
      rw [add_plain] at h1
      rw [h1]
      have h2 := congrArg (fun z => z[i]?) e2
      simp only [List.getElem?_map, List.getElem?_range hi, List.getElem?_eq_getElem hi, Option.map_some] at h2
      have h3 : l[i] = (Sx i).data.toList := by simpa using h2
      rw [h3, bs_data]
theorem star : "*errors.errorString" = "*" ++ "errors.errorString" := by decide
theorem rowPtr (u : TypeId) (h : Tryz.prog.typeName? 3 u = some "*errors.errorString") : u = 154 :=
  typeName_ptr_named (nm := "errors.errorString") (by rw [← star]; kernel_rfl) (by kernel_rfl) (by decide) u (by rw [← star]; exact h)
theorem maxl_of {W : World} (h : W.ShapedOpen Tryz.prog) : ∃ m, W.cell? ⟨5, 0, none⟩ = some (.int .i64 m) :=
  cell_of_shapedOpen_int (zero := #[.int .i64 0]) (t := 3) h (of_decide_eq_true (by kernel_rfl)) (by kernel_rfl) rfl (by kernel_rfl) (by kernel_rfl) Tryz.underlying3
theorem heap19 {W : World} (h : laidMet Tryz.prog laidList W) : 19 ≤ W.heap.size := by
  have hr := Lib.laidMet.reads h (n := "internal/strconv.leftcheats") (d := Rows.laid_internal_strconv_leftcheats) (by unfold laidList; simp)
  obtain ⟨g, t, cs, fuel, p, hg, hty, hvar, hd⟩ := hr
  have g18 : Tryz.prog.globalNamed "internal/strconv.leftcheats" = some 18 := by kernel_rfl
  rcases Nat.lt_or_ge 18 W.heap.size with h' | h'
  · omega
  · exfalso
    unfold World.var? at hvar
    rw [g18] at hvar
    simp [Array.getElem?_eq_none h'] at hvar
theorem low_of {W : World} (h0 : laidMetH Tryz.prog laidList W) (hS : W.ShapedOpen Tryz.prog) : Low W.heap.size W := by
  have h : laidMet Tryz.prog laidList W := by rw [MakeChecks.laidMetH_plain _ _ _ (by kernel_rfl)] at h0; exact h0
  have h10 := laidMet.tail (laidMet.tail (laidMet.tail (laidMet.tail (laidMet.tail (laidMet.tail (laidMet.tail (laidMet.tail (laidMet.tail (laidMet.tail h)))))))))
  have h11 := laidMet.tail h10
  obtain ⟨a4, s4, hv4, _⟩ := laid_sentinel (g := 7) h10 (by kernel_rfl) (by kernel_rfl) Tryz.underlying92 rowPtr Tryz.underlying154 Tryz.underlying156 rfl rfl Tryz.underlying9 (by kernel_rfl) (by kernel_rfl)
  obtain ⟨a5, s5, hv5, _⟩ := laid_sentinel (g := 6) h11 (by kernel_rfl) (by kernel_rfl) Tryz.underlying92 rowPtr Tryz.underlying154 Tryz.underlying156 rfl rfl Tryz.underlying9 (by kernel_rfl) (by kernel_rfl)
  have gr : Tryz.prog.globalNamed "strconv.ErrRange" = some 7 := by kernel_rfl
  have gs : Tryz.prog.globalNamed "strconv.ErrSyntax" = some 6 := by kernel_rfl
  have c8 : W.cell? ⟨7, 0, none⟩ = some (.iface 154 (.pointer (some a4))) := by simpa using World.var?_cell gr hv4 0
  have c7 : W.cell? ⟨6, 0, none⟩ = some (.iface 154 (.pointer (some a5))) := by simpa using World.var?_cell gs hv5 0
  have hwr := Lib.laidMet.reads h (n := "pennant/eslex.words") (d := Rows.laid_pennant_eslex_words) (by unfold laidList; simp)
  have hmr := Lib.laidMet.reads h (n := "pennant/eslex.marks") (d := Rows.laid_pennant_eslex_marks) (by unfold laidList; simp)
  rw [words_data] at hwr
  rw [marks_data] at hmr
  exact ⟨heap19 h, Nat.le_refl _, tabs h, maxl_of hS, ⟨_, _, c7⟩, ⟨_, _, c8⟩, tab_of X.words (by decide) hwr (by kernel_rfl) (by kernel_rfl), tab_of X.marks (by decide) hmr (by kernel_rfl) (by kernel_rfl)⟩

/-- The settled world. -/
noncomputable def baseWorld (os : Os) : World := World.holding Tryz.prog os ⟨#[], #[], []⟩
/-- .. and the listed variables. -/
noncomputable def laidWorld (os : Os) : World := (baseWorld os).layVars Tryz.prog laidList
theorem laidWorld_os (os : Os) : (laidWorld os).os = os := World.layVars_os _ _ _
theorem plain_met (os : Os) : laidMet Tryz.prog laidList (laidWorld os) := by
  have e1 : (laidList.filter fun x => (laidList.map (·.1)).contains x.1) = laidList := List.filter_eq_self.2 fun x hx => List.contains_iff_mem.2 (List.mem_map.2 ⟨x, hx, rfl⟩)
  have e2 : (laidList.filter fun x => !(laidList.map (·.1)).contains x.1) = [] := List.filter_eq_nil_iff.2 fun x hx => by rw [List.contains_iff_mem.2 (List.mem_map.2 ⟨x, hx, rfl⟩)]; simp
  exact laidMet_layVars (w0 := baseWorld os) (laidList.map (·.1)) [] (by rw [e1]; rfl) (by rw [e1]; kernel_rfl) (by rw [e1]; kernel_rfl) (by rw [e2]; exact LaidIn.none)
theorem laid_met (os : Os) (args : Array Value) : laidMetH Tryz.prog laidList ((laidWorld os).forCall (fun _ _ => 0) ⟨#[], args, []⟩).memory := by
  rw [MakeChecks.laidMetH_plain _ _ _ (by kernel_rfl)]
  exact (plain_met os).of_heap (by simp [World.memory, World.forCall, Input.heap])
theorem shaped (os : Os) (args : Array Value) : ((laidWorld os).forCall (fun _ _ => 0) ⟨#[], args, []⟩).Shaped Tryz.prog := World.shaped_of_ZipB (by kernel_rfl) (by kernel_rfl)
end Go.Proofs.YthakjbmheoojeaaGreatDoor
