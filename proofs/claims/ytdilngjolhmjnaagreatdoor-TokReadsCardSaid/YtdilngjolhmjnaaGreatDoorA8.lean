/- A strings.Builder wherever it lies (a block of its own, or a field of the reader): what its methods leave. Conditions: those that each theorem names. A strings.Builder wherever it lies, on: WriteRune, Len, Reset, String. Conditions: those that each theorem names. -/
import Derived.Test.YtdilngjolhmjnaaGreatDoorA7
import Derived.Lib.FrozenHead2
import Derived.Laws.Entries
import Derived.RegionTactic
namespace Go.Proofs.YtdilngjolhmjnaaGreatDoor
open Go.RowKit Go.Shelf
set_option linter.all false

/-- Where a Builder may lie: n cells of type T, the Builder's two from o on. -/
structure BdKind (T o n : Nat) : Prop where
  lies : liesAt Tryz.prog Tryz.prog.depth T (n / Tryz.prog.cellsOf T) o 55 1 = true
  ne : T ≠ 5
  room : o + 1 < n
theorem kindOwn : BdKind 55 0 2 := ⟨by kernel_rfl, by decide, by decide⟩
theorem kindReader : BdKind 57 5 9 := ⟨by kernel_rfl, by decide, by decide⟩

/-- A Builder at place o of block b, which holds C, whose blocks are B and beyond, with these bytes' cells. -/
def BdAt (B b o T : Nat) (C : Array Value) (xs : List Value) (w : World) : Prop :=
  B ≤ b ∧ BdKind T o C.size ∧ w.heap[b]? = some (.cells C T (0, 0)) ∧ (C[o]? = some (.pointer none) ∨ C[o]? = some (.pointer (some ⟨b, o, none⟩))) ∧ ∃ v, C[o + 1]? = some v ∧ w.ownsRowF B 5 1 v xs.length xs
theorem bd_x72 : Builder.X72 Tryz.prog Tryz.lays169_ren := ⟨by kernel_rfl, by kernel_rfl⟩

set_option maxHeartbeats 1000000 in
set_option maxRecDepth 100000 in
theorem copyCheck_used (b o : Nat) (w : World) (h0 : w.cell? ⟨b, o, none⟩ = some (.pointer (some ⟨b, o, none⟩))) :
    Calls Tryz.prog 57 #[.pointer (some ⟨b, o, none⟩)] w fun e w' => e = .returned (.tuple #[]) ∧ w = w' := by
  obtain ⟨j, hj, _⟩ := Option.map_eq_some_iff.1 bd_x72.sizeBuilder
  go_enter Tryz.func57, Tryz.ntmps57
  go_wp2
  rw [Lib.run_neq_ptr_same w _ Tryz.underlying52 hj]
  go_wp2
  go_end0
  exact ⟨rfl, rfl⟩

set_option maxHeartbeats 1000000 in
set_option maxRecDepth 100000 in
theorem copyCheck_fresh (b o T n : Nat) (hk : BdKind T o n) (w : World) (h0 : w.cell? ⟨b, o, none⟩ = some (.pointer none)) (hsh : w.shape? b = some (T, n)) (hfz : w.frozen? ⟨b, o, none⟩ = false) :
    Calls Tryz.prog 57 #[.pointer (some ⟨b, o, none⟩)] w fun e w' => e = .returned (.tuple #[]) ∧ w.setCell ⟨b, o, none⟩ (.pointer (some ⟨b, o, none⟩)) = w' := by
  obtain ⟨j, hj, hjs⟩ := Option.map_eq_some_iff.1 bd_x72.sizeBuilder
  have hroom := hk.room
  go_enter Tryz.func57, Tryz.ntmps57
  go_wp2
  rw [Lib.run_to_unsafe w ⟨b, o, none⟩ Tryz.underlying52 Tryz.underlying86 hj (by rw [hjs]; decide) hsh (by show o < n; omega)]
  simp only [Result.andThen]
  rw [Oper.upon_value]
  go_wp2
  rw [run_callFunc_extern Tryz.func82 (by kernel_rfl) (by kernel_rfl) (by kernel_rfl) (e := Extern.AbiNoEscape.same) (by kernel_rfl)]
  rw [Lib.run_noEscape]
  simp only [Result.andThen]
  rw [Oper.upon_value]
  go_wp2
  rw [Lib.run_from_unsafe w ⟨b, o, none⟩ Tryz.underlying86 Tryz.underlying52 hj hsh hk.lies]
  simp only [Result.andThen]
  rw [Oper.upon_value]
  go_wp2
  go_end0
  exact ⟨rfl, rfl⟩

theorem bd_ne {B b o T : Nat} {C : Array Value} {xs : List Value} {w : World} {v : Value} (hk : BdKind T o C.size) (hb : w.heap[b]? = some (.cells C T (0, 0))) (hown : w.ownsRowF B 5 1 v xs.length xs) : v.ownBlock ≠ some b :=
  Lib.ownBlock_neF hown hb hk.ne
/-- A store into the Builder's own block leaves its buffer. -/
theorem own_set {B b T : Nat} {C : Array Value} {xs : List Value} {w : World} {v : Value} (i : Nat) (x : Value) (hown : w.ownsRowF B 5 1 v xs.length xs) (hne : v.ownBlock ≠ some b) : (w.setCell ⟨b, i, none⟩ x).ownsRowF B 5 1 v xs.length xs :=
  hown.kept (row := some b) ⟨rfl, rfl, rfl, by simp [World.setCell], fun k _ hk => Below.heap_setCell _ _ _ _ (fun e => hk (by simp [e]))⟩ (.inr hne)

theorem copyCheck_any (B b o T : Nat) (C : Array Value) (xs : List Value) (w : World) (h : BdAt B b o T C xs w) :
    Calls Tryz.prog 57 #[.pointer (some ⟨b, o, none⟩)] w fun e w' => e = .returned (.tuple #[]) ∧ (BdAt B b o T (C.setIfInBounds o (.pointer (some ⟨b, o, none⟩))) xs w' ∧ Below B w w' ∧ Lib.OthersKept 5 (some b) w w') := by
  obtain ⟨hB, hk, hb, ha, v, hv, hown⟩ := h
  have hne := bd_ne hk hb hown
  have hroom := hk.room
  rcases ha with ha | ha
  · refine (copyCheck_fresh b o T C.size hk w (by rw [Lib.cell_of_heap hb]; exact ha) (by simp [World.shape?, hb]) (Lib.frozen_of_heap hb o)).mono ?_
    rintro e w' ⟨rfl, rfl⟩
    refine ⟨rfl, ⟨hB, by rw [Array.size_setIfInBounds]; exact hk, heap_set hb o _, .inr (by rw [Array.getElem?_setIfInBounds_self_of_lt (by omega)]), v, by rw [Array.getElem?_setIfInBounds_ne (by omega)]; exact hv, own_set (T := T) (C := C) o _ hown hne⟩, (Below.refl B w).setCell (p := ⟨b, o, none⟩) hB _, (Lib.OthersKept.refl _ _ _).setCell ⟨b, o, none⟩ rfl _⟩
  · refine (copyCheck_used b o w (by rw [Lib.cell_of_heap hb]; exact ha)).mono ?_
    rintro e w' ⟨rfl, rfl⟩
    have hC : C.setIfInBounds o (.pointer (some ⟨b, o, none⟩)) = C := by
      refine Array.ext_getElem? ?_
      intro i
      by_cases hi : i = o
      · subst hi; rw [Array.getElem?_setIfInBounds_self_of_lt (by omega), ha]
      · rw [Array.getElem?_setIfInBounds_ne (fun e => hi e.symm)]
    rw [hC]
    exact ⟨rfl, ⟨hB, hk, hb, .inr ha, v, hv, hown⟩, Below.refl B _, Lib.OthersKept.refl _ _ _⟩

/-- What a writer leaves: the buffer's value anew, the address laid. -/
def Wrote (B b o T : Nat) (C : Array Value) (xs : List Value) (ys : List Value) (w w' : World) : Prop :=
  ∃ v', BdAt B b o T ((C.setIfInBounds o (.pointer (some ⟨b, o, none⟩))).setIfInBounds (o + 1) v') (xs ++ ys) w' ∧ Below B w w' ∧ Lib.OthersKept 5 (some b) w w'

set_option maxHeartbeats 2000000 in
set_option maxRecDepth 100000 in
theorem writeString_any (B b o T : Nat) (C : Array Value) (xs : List Value) (s : ByteArray) (w : World) (h : BdAt B b o T C xs w) (hlen : xs.length + s.size ≤ 140737488355328) (hBw : B ≤ w.heap.size) :
    Calls Tryz.prog 34 #[.pointer (some ⟨b, o, none⟩), .string s] w fun e w' => e = .returned (.tuple #[.int .i64 s.size, .nilIface]) ∧ Wrote B b o T C xs (Lib.strCells s) w w' := by
  obtain ⟨i0, hi, hz0, hz1, hz2⟩ := info_parts Tryz.Builder_Extra_169.infoByte
  have hcc := copyCheck_any B b o T C xs w h
  clear h
  go_enter Tryz.func34, Tryz.ntmps34
  go_wp2_with (go_at_call 57; refine hcc.mono ?_)
  rintro e w1 ⟨rfl, h1, hb1, hk1⟩
  obtain ⟨hB, hk, hbk, ha, v, hv, hown⟩ := h1
  have hne := bd_ne hk hbk hown
  have hroom := hk.room
  have c1 : w1.cell? ⟨b, o + 1, none⟩ = some v := by rw [Lib.cell_of_heap hbk]; exact hv
  go_wp2_with (at_builtin; refine Lib.wpList_append_own_stringF _ rfl _ _ 53 9 rfl B 5 i0 Tryz.underlying53 Tryz.underlying9 hi hz0 hz1 hz2 _ _ _ rfl hown s rfl ?c3 ?c4 ?c5 ?_)
  case c3 => unfold maxLen; omega
  case c4 => omega
  case c5 => have := hb1.size; omega
  intro v' w2 hown' hgrow _
  have hlt : b < w1.heap.size := lt_of_heap hbk
  have hb2 : w2.heap[b]? = some (.cells (C.setIfInBounds o (.pointer (some ⟨b, o, none⟩))) T (0, 0)) := by
    rw [hgrow.block b hlt (fun e => hne e.symm)]
    exact hbk
  have d1 : w2.cell? ⟨b, o + 1, none⟩ = some v := by rw [Lib.cell_of_heap hb2]; exact hv
  have f1 : w2.frozen? ⟨b, o + 1, none⟩ = false := Lib.frozen_of_heap hb2 _
  obtain ⟨ao, n', cap, rfl⟩ : ∃ ao n' cap, v' = .slice ao n' cap := by
    rcases hown'.2 with ⟨hv, _⟩ | ⟨g, cap, cur, fz, hv, _⟩
    · exact ⟨_, _, _, hv⟩
    · exact ⟨_, _, _, hv⟩
  have hne' : (Value.slice ao n' cap).ownBlock ≠ some b := Lib.ownBlock_neF hown' hb2 hk.ne
  have HO := Lib.hid hown'
  have HA := Lib.hid ha
  have HV := Lib.hid hv
  have HC := Lib.hid hbk
  have HG := Lib.hid hgrow
  have HB2 := Lib.hid hb2
  have HOW := Lib.hid hown
  clear hown' ha hv hbk hgrow hb2 hown c1
  go_wp2
  go_ret2
  refine ⟨rfl, .slice ao n' cap, ⟨hB, by rw [Array.size_setIfInBounds]; exact hk, heap_set HB2.out (o + 1) _, ?_, .slice ao n' cap, ?_, ?_⟩, ?_, ?_⟩
  · right
    rw [Array.getElem?_setIfInBounds_ne (by omega)]
    rcases HA.out with e | e
    · rw [Array.getElem?_setIfInBounds_self_of_lt (by rw [Array.size_setIfInBounds] at hroom; omega)]
    · exact e
  · rw [Array.getElem?_setIfInBounds_self_of_lt (by omega)]
  · have := own_set (T := T) (C := C) (xs := xs ++ Lib.strCells s) (o + 1) (.slice ao n' cap) (by simpa [Lib.strCells_length] using HO.out) hne'
    exact this
  · exact (hb1.grown HG.out (by have := hb1.size; omega) (fun k hk => (HOW.out.lt k hk).1)).setCell (p := ⟨b, o + 1, none⟩) hB _
  · exact (hk1.grown HG.out (Lib.ownsRowF_kind HOW.out)).setCell ⟨b, o + 1, none⟩ rfl _
end Go.Proofs.YtdilngjolhmjnaaGreatDoor
namespace Go.Proofs.YtdilngjolhmjnaaGreatDoor
open Go.RowKit Go.Shelf
set_option linter.all false

set_option maxHeartbeats 4000000 in
set_option maxRecDepth 100000 in
theorem writeRune_any (B b o T : Nat) (C : Array Value) (xs : List Value) (r : Int) (hr0 : -2147483648 ≤ r) (hr1 : r ≤ 2147483647) (w : World) (h : BdAt B b o T C xs w) (hlen : xs.length + 4 ≤ 140737488355328) (hBw : B ≤ w.heap.size) :
    Calls Tryz.prog 109 #[.pointer (some ⟨b, o, none⟩), .int .i32 r] w fun e w' => e = .returned (.tuple #[.int .i64 (Lib.runeCells r).length, .nilIface]) ∧ Wrote B b o T C xs (Lib.runeCells r) w w' := by
  have hk4 := Lib.runeCells_le r
  have hcc := copyCheck_any B b o T C xs w h
  clear h
  go_enter Tryz.func109, Tryz.ntmps109
  go_wp2_with (go_at_call 57; refine hcc.mono ?_)
  rintro e w1 ⟨rfl, h1, hb1, hk1⟩
  obtain ⟨hB, hk, hbk, ha, v, hv, hown⟩ := h1
  have hne := bd_ne hk hbk hown
  have hroom := hk.room
  obtain ⟨ao, cap, rfl⟩ : ∃ ao cap, v = .slice ao xs.length cap := by
    rcases hown.2 with ⟨hv, h0⟩ | ⟨g, cap, cur, fz, hv, _⟩
    · exact ⟨none, 0, by rw [hv, h0]⟩
    · exact ⟨_, _, hv⟩
  have c1 : w1.cell? ⟨b, o + 1, none⟩ = some (.slice ao xs.length cap) := by rw [Lib.cell_of_heap hbk]; exact hv
  have HA := Lib.hid ha
  have HV := Lib.hid hv
  have HC := Lib.hid hbk
  clear ha hv hbk
  go_wp2_with (go_at_call 121; refine (Tryz.utf8_AppendRune_row B _ xs.length xs r hr0 hr1 _ hown hlen (by have := hb1.size; omega)).mono ?_)
  rintro e w2 ⟨v', rfl, hown', oo, hgrow⟩
  have hlt : b < w1.heap.size := lt_of_heap HC.out
  have hb2 : w2.heap[b]? = some (.cells (C.setIfInBounds o (.pointer (some ⟨b, o, none⟩))) T (0, 0)) := by
    rw [hgrow.block b (by simp; omega) (fun e => hne e.symm), Lib.alloc_old w1 _ b hlt]
    exact HC.out
  have d1 : w2.cell? ⟨b, o + 1, none⟩ = some (.slice ao xs.length cap) := by rw [Lib.cell_of_heap hb2]; exact HV.out
  have f1 : w2.frozen? ⟨b, o + 1, none⟩ = false := Lib.frozen_of_heap hb2 _
  obtain ⟨g, cap', rfl⟩ : ∃ g cap', v' = .slice g (xs.length + (Lib.runeCells r).length) cap' := by
    rcases hown'.2 with ⟨hv, h0⟩ | ⟨g, cap', cur, fz, hv, _⟩
    · exact ⟨none, 0, by rw [hv, h0]⟩
    · exact ⟨_, _, hv⟩
  have hne' : (Value.slice g (xs.length + (Lib.runeCells r).length) cap').ownBlock ≠ some b := Lib.ownBlock_neF hown' hb2 hk.ne
  have HO := Lib.hid hown'
  have HG := Lib.hid hgrow
  have HB2 := Lib.hid hb2
  have HOW := Lib.hid hown
  clear hown' hgrow hb2 hown c1
  go_wp2
  go_ret2
  refine ⟨?_, .slice g (xs.length + (Lib.runeCells r).length) cap', ⟨hB, by rw [Array.size_setIfInBounds]; exact hk, heap_set HB2.out (o + 1) _, ?_, .slice g (xs.length + (Lib.runeCells r).length) cap', ?_, ?_⟩, ?_, ?_⟩
  · have e : ((xs.length : Int) + ((Lib.runeCells r).length : Int) - (xs.length : Int)) = ((Lib.runeCells r).length : Int) := by omega
    simp [e]
  · right
    rw [Array.getElem?_setIfInBounds_ne (by omega)]
    rcases HA.out with e | e
    · rw [Array.getElem?_setIfInBounds_self_of_lt (by rw [Array.size_setIfInBounds] at hroom; omega)]
    · exact e
  · rw [Array.getElem?_setIfInBounds_self_of_lt (by omega)]
  · have := own_set (T := T) (C := C) (xs := xs ++ Lib.runeCells r) (o + 1) (.slice g (xs.length + (Lib.runeCells r).length) cap') (by simpa using HO.out) hne'
    exact this
  · exact ((hb1.alloc (by have := hb1.size; omega) _).grown HG.out (by have := hb1.size; simp; omega) (fun k hk => (HOW.out.lt k hk).1)).setCell (p := ⟨b, o + 1, none⟩) hB _
  · exact ((hk1.alloc _).grown HG.out (Lib.ownsRowF_kind (HOW.out.kept (World.grownBy_alloc _ _ none) (by cases hv : (Value.slice ao xs.length cap).ownBlock <;> simp)))).setCell ⟨b, o + 1, none⟩ rfl _

theorem len_any (B b o T : Nat) (C : Array Value) (xs : List Value) (w : World) (h : BdAt B b o T C xs w) :
    Calls Tryz.prog 70 #[.pointer (some ⟨b, o, none⟩)] w fun e w' => e = .returned (.int .i64 xs.length) ∧ w = w' := by
  obtain ⟨hB, hk, hbk, ha, v, hv, hown⟩ := h
  obtain ⟨ao, cap, rfl⟩ : ∃ ao cap, v = .slice ao xs.length cap := by
    rcases hown.2 with ⟨hv, h0⟩ | ⟨g, cap, cur, fz, hv, _⟩
    · exact ⟨none, 0, by rw [hv, h0]⟩
    · exact ⟨_, _, hv⟩
  have c1 : w.cell? ⟨b, o + 1, none⟩ = some (.slice ao xs.length cap) := by rw [Lib.cell_of_heap hbk]; exact hv
  clear hbk ha hv hown
  go_enter Tryz.func70, Tryz.ntmps70
  go_wp2
  go_ret
  exact ⟨rfl, rfl⟩

theorem reset_any (B b o T : Nat) (C : Array Value) (xs : List Value) (w : World) (h : BdAt B b o T C xs w) :
    Calls Tryz.prog 71 #[.pointer (some ⟨b, o, none⟩)] w fun e w' => e = .returned (.tuple #[]) ∧ BdAt B b o T ((C.setIfInBounds o (.pointer none)).setIfInBounds (o + 1) (.slice none 0 0)) [] w' ∧ Below B w w' ∧ Lib.OthersKept 5 (some b) w w' := by
  obtain ⟨hB, hk, hbk, ha, v, hv, hown⟩ := h
  have hroom := hk.room
  obtain ⟨p, hp⟩ : ∃ p, C[o]? = some p := ⟨_, Array.getElem?_eq_getElem (by omega)⟩
  have c0 : w.cell? ⟨b, o, none⟩ = some p := by rw [Lib.cell_of_heap hbk]; exact hp
  have c1 : w.cell? ⟨b, o + 1, none⟩ = some v := by rw [Lib.cell_of_heap hbk]; exact hv
  have f0 : w.frozen? ⟨b, o, none⟩ = false := Lib.frozen_of_heap hbk _
  have f1 : w.frozen? ⟨b, o + 1, none⟩ = false := Lib.frozen_of_heap hbk _
  have HBK := Lib.hid hbk
  clear hbk ha hv hown hp
  go_enter Tryz.func71, Tryz.ntmps71
  go_wp2
  go_end0
  refine ⟨rfl, ⟨hB, by simpa using hk, heap_set (heap_set HBK.out o _) (o + 1) _, .inl ?_, .slice none 0 0, ?_, World.ownsRowF_nil _ _ _ _⟩, ((Below.refl B w).setCell (p := ⟨b, o, none⟩) hB _).setCell (p := ⟨b, o + 1, none⟩) hB _, ((Lib.OthersKept.refl _ _ _).setCell ⟨b, o, none⟩ rfl _).setCell ⟨b, o + 1, none⟩ rfl _⟩
  · rw [Array.getElem?_setIfInBounds_ne (by omega), Array.getElem?_setIfInBounds_self_of_lt (by omega)]
  · rw [Array.getElem?_setIfInBounds_self_of_lt (by rw [Array.size_setIfInBounds]; omega)]

set_option maxHeartbeats 2000000 in
set_option maxRecDepth 100000 in
theorem string_any (B b o T : Nat) (C : Array Value) (l : List UInt8) (w : World) (h : BdAt B b o T C (Lib.byteCells l) w) (h0 : l ≠ []) :
    Calls Tryz.prog 36 #[.pointer (some ⟨b, o, none⟩)] w fun e w' => e = .returned (.string (bs l)) ∧ w'.heap[b]? = some (.cells C T (0, 0)) ∧ Below B w w' ∧ Lib.OthersKept 5 (some b) w w' := by
  obtain ⟨hB, hk, hbk, ha, v, hv, hown⟩ := h
  have hne := bd_ne hk hbk hown
  have hl0 : l.length ≠ 0 := by simpa using h0
  rw [Lib.byteCells_length] at hown
  obtain ⟨g, cap, cur, fz, rfl, hbg, hg, hfz, hnc, hcm, hcs, htake⟩ : ∃ g cap cur fz, v = .slice (some ⟨g, 0, none⟩) l.length cap ∧ B ≤ g ∧ w.heap[g]? = some (.cells cur 5 fz) ∧ fz.2 ≤ l.length * 1 ∧ l.length ≤ cap ∧ cap ≤ maxLen ∧ cur.size = cap * 1 ∧ cur.toList.take (l.length * 1) = Lib.byteCells l := by
    rcases hown.2 with ⟨_, hz⟩ | ⟨g, cap, cur, fz, hv, r⟩
    · exact absurd hz hl0
    · exact ⟨g, cap, cur, fz, hv, r⟩
  have c1 : w.cell? ⟨b, o + 1, none⟩ = some (.slice (some ⟨g, 0, none⟩) l.length cap) := by rw [Lib.cell_of_heap hbk]; exact hv
  have hSD : (Builtin.unsafeSliceData_ #[53] 102 #[.slice (some ⟨g, 0, none⟩) l.length cap]).run Tryz.prog w.drew = .ok (.pointer (some ⟨g, 0, none⟩)) w.drew :=
    Lib.run_unsafeSliceData_row _ _ _ _ _ _ (by omega)
  have hUS : (Builtin.unsafeString_ #[102, 3] 9 #[.pointer (some ⟨g, 0, none⟩), .int .i64 l.length]).run Tryz.prog w.drew = .ok (.string ⟨l.toArray⟩) (w.drew.freeze ⟨g, 0, none⟩ l.length) := by
    refine Lib.run_unsafeString_row w.drew 102 3 9 5 Tryz.underlying102 Tryz.Builder_Extra_169.cellsByte g cur.size (by have hg' : w.drew.heap[g]? = some (.cells cur 5 fz) := hg; simp [World.shape?, hg']) l h0 (by omega) (by unfold maxLen at hcm; omega) ?_
    intro j x hx
    have := hown.cells (g := g) rfl j (.int .u8 x.toNat) (by simp [Lib.byteCells, hx])
    exact this
  have hgb : g ≠ b := fun e => hne (by rw [e]; rfl)
  have hend : (w.drew.freeze ⟨g, 0, none⟩ l.length).heap[b]? = some (.cells C T (0, 0)) := by
    unfold World.freeze
    rw [if_neg hl0]
    simp only [Array.getElem?_modify]
    rw [if_neg hgb]
    exact hbk
  have HE := Lib.hid hend
  have HBl : Hid (Below B w (w.drew.freeze ⟨g, 0, none⟩ l.length)) := Lib.hid (Lib.below_freeze (Below.drew (Below.refl B w)) (p := ⟨g, 0, none⟩) hbg _)
  have HOk : Hid (Lib.OthersKept 5 (some b) w (w.drew.freeze ⟨g, 0, none⟩ l.length)) := Lib.hid ((Lib.OthersKept.refl 5 (some b) w).drew.freeze ⟨g, 0, none⟩ _ ⟨_, _, hg⟩)
  clear hend hgb hne hbk ha hv hown hg hfz hnc hcm hcs htake
  go_enter Tryz.func36, Tryz.ntmps36
  go_wp2
  go_region
  all_goals (go_wp2; go_ret; exact ⟨rfl, HE.out, HBl.out, HOk.out⟩)
end Go.Proofs.YtdilngjolhmjnaaGreatDoor
