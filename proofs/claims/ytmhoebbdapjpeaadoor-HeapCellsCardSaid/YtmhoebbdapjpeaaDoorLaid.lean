/- The library's variables that the rows list: a world that holds them, and what the rows' list of them gives the walks. -/
import Derived.Test.YtmhoebbdapjpeaaDoorCards
import Derived.Test.YtmhoebbdapjpeaaDoorTie
import Derived.Test.YtmhoebbdapjpeaaDoorY9
import Derived.WalkKit
import Derived.ProofKit
import Derived.OpenShut
import Derived.ShutString
import Derived.LaidMore
import Derived.Lay
import Derived.HandedShaped
import Derived.Deep.DeepHandedRow
import Derived.Lib.LaidU8T
import Derived.Lib.LaidTab
import Derived.SizedLaws
namespace Go.Proofs.YtmhoebbdapjpeaaDoor
open Go.ChangeShapes Go.WideShapes Go.ChangeAt Go.RowKit Go.Shelf Go.Lib
set_option linter.all false

theorem own : ownKnob Tryd.prog.godebug = none := by kernel_rfl
def laidList : List (String × DataW Unit) := [("math/bits.deBruijn32tab", Rows.laid_math_bits_deBruijn32tab), ("math/bits.deBruijn64tab", Rows.laid_math_bits_deBruijn64tab), ("internal/strconv.uint64pow10", Rows.laid_internal_strconv_uint64pow10), ("unicode/utf8.acceptRanges", Rows.laid_unicode_utf8_acceptRanges), ("unicode/utf8.first", Rows.laid_unicode_utf8_first)]
theorem first_data : Rows.laid_unicode_utf8_first = Lib.firstData := by kernel_rfl
theorem accept_data : (Rows.laid_unicode_utf8_acceptRanges : DataW Unit) = Lib.acceptData := by kernel_rfl
theorem pow_data : (Rows.laid_internal_strconv_uint64pow10 : DataW Unit) = Lib.tabData .u64 Lib.pow10Tab := by kernel_rfl
theorem tabs {W : World} (h : laidMet Tryd.prog laidList W) : Lib.Utf8Tabs 1 2 W := by
  have h3 := Lib.laidMet.reads h (n := "unicode/utf8.first") (d := Rows.laid_unicode_utf8_first) (by unfold laidList; simp)
  have h4 := Lib.laidMet.reads h (n := "unicode/utf8.acceptRanges") (d := Rows.laid_unicode_utf8_acceptRanges) (by unfold laidList; simp)
  rw [first_data] at h3
  rw [accept_data] at h4
  exact utf8Tabs_of_readsT (ρ := Tryd.lays260_ren) (U8Types.of260 Tryd.lays260) ⟨by kernel_rfl, by kernel_rfl, by kernel_rfl, by kernel_rfl, by kernel_rfl, by kernel_rfl, by kernel_rfl⟩ h3 h4
theorem heap6 {W : World} (h : laidMet Tryd.prog laidList W) : 6 ≤ W.heap.size := by
  have hr := Lib.laidMet.reads h (n := "math/bits.deBruijn64tab") (d := Rows.laid_math_bits_deBruijn64tab) (by unfold laidList; simp)
  obtain ⟨g, t, cs, fuel, p, hg, hty, hvar, hd⟩ := hr
  have g5 : Tryd.prog.globalNamed "math/bits.deBruijn64tab" = some 5 := by kernel_rfl
  rcases Nat.lt_or_ge 5 W.heap.size with h' | h'
  · omega
  · exfalso
    unfold World.var? at hvar
    rw [g5] at hvar
    simp [Array.getElem?_eq_none h'] at hvar
theorem tb_of {W : World} (h0 : laidMetH Tryd.prog laidList W) (hS : W.ShapedOpen Tryd.prog) : Tb W.heap.size W := by
  have h : laidMet Tryd.prog laidList W := by rw [MakeChecks.laidMetH_plain _ _ _ (by kernel_rfl)] at h0; exact h0
  refine ⟨heap6 h, Nat.le_refl _, tabs h, ?_⟩
  have hr := Lib.laidMet.reads h (n := "internal/strconv.uint64pow10") (d := Rows.laid_internal_strconv_uint64pow10) (by unfold laidList; simp)
  rw [pow_data] at hr
  obtain ⟨g', t', cs, fuel, p, hg', ht', hvar, hd⟩ := hr
  have hty : (Tryd.prog.globals[3]?).map (·.type) = some 142 := by kernel_rfl
  obtain rfl := Option.some.inj (gn_it.symm.trans hg')
  obtain rfl := Option.some.inj (hty.symm.trans ht')
  unfold Lib.TabIs
  rw [hvar, ← Lib.cells_of_tab Tryd.underlying142 Tryd.underlying118 (by kernel_rfl) (by kernel_rfl) hd]

/-- The settled world. -/
noncomputable def baseWorld (os : Os) : World := World.holding Tryd.prog os ⟨#[], #[], []⟩
/-- .. and the listed variables. -/
noncomputable def laidWorld (os : Os) : World := (baseWorld os).layVars Tryd.prog laidList
theorem laidWorld_os (os : Os) : (laidWorld os).os = os := World.layVars_os _ _ _
theorem plain_met (os : Os) : laidMet Tryd.prog laidList (laidWorld os) := by
  have e1 : (laidList.filter fun x => (laidList.map (·.1)).contains x.1) = laidList := List.filter_eq_self.2 fun x hx => List.contains_iff_mem.2 (List.mem_map.2 ⟨x, hx, rfl⟩)
  have e2 : (laidList.filter fun x => !(laidList.map (·.1)).contains x.1) = [] := List.filter_eq_nil_iff.2 fun x hx => by rw [List.contains_iff_mem.2 (List.mem_map.2 ⟨x, hx, rfl⟩)]; simp
  exact laidMet_layVars (w0 := baseWorld os) (laidList.map (·.1)) [] (by rw [e1]; rfl) (by rw [e1]; kernel_rfl) (by rw [e1]; kernel_rfl) (by rw [e2]; exact LaidIn.none)
theorem laid_met (os : Os) (args : Array Value) : laidMetH Tryd.prog laidList ((laidWorld os).forCall (fun _ _ => 0) ⟨#[], args, []⟩).memory := by
  rw [MakeChecks.laidMetH_plain _ _ _ (by kernel_rfl)]
  exact (plain_met os).of_heap (by simp [World.memory, World.forCall, Input.heap])
theorem shaped (os : Os) (args : Array Value) : ((laidWorld os).forCall (fun _ _ => 0) ⟨#[], args, []⟩).Shaped Tryd.prog := World.shaped_of_ZipB (by kernel_rfl) (by kernel_rfl)
end Go.Proofs.YtmhoebbdapjpeaaDoor
