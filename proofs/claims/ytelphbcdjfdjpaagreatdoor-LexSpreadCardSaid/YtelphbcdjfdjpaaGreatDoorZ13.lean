/- A lexeme that is a name or a mark. Conditions: those that each theorem names. A lexeme that is a mark. Conditions: those that each theorem names. A lexeme that is a text. Conditions: those that each theorem names. -/
import Derived.Test.YtelphbcdjfdjpaaGreatDoorZ12
namespace Go.Proofs.YtelphbcdjfdjpaaGreatDoor
open Go.RowKit Go.Shelf
set_option linter.all false
abbrev lexV (k : Nat) (t : List UInt8) (v : Nat) : Value := .agg #[.int .i64 (k : Int), .string (bs t), .float .f64 v, .int .i64 0, .bool false]
def ansV : X.Ans → Value
  | .yes k t v n => .tuple #[lexV k t v, .int .i64 (n : Int)]
  | _ => .tuple #[lexV 0 [] 0, .int .i64 0]
theorem store_float (a : Addr) (b : Nat) (m : Mode) (w : World) : (store a (.float .f64 b) m).run Tryz.prog w = stored Tryz.prog w a (.float .f64 b) m := run_store Tryz.prog w a _ m rfl
/-- Five cells as a lexeme's. -/
abbrev lexC (k : Int) (t : ByteArray) (v : Nat) (p : Int) (ln : Bool) : Array Value := #[.int .i64 k, .string t, .float .f64 v, .int .i64 p, .bool ln]
theorem lex_cells {w : World} {b : Nat} {a0 a1 a2 a3 a4 : Value} {T : TypeId} {f : Nat × Nat} (h : w.heap[b]? = some (.cells #[a0, a1, a2, a3, a4] T f)) :
    w.cell? ⟨b, 0, none⟩ = some a0 ∧ w.cell? ⟨b, 1, none⟩ = some a1 ∧ w.cell? ⟨b, 2, none⟩ = some a2 ∧ w.cell? ⟨b, 3, none⟩ = some a3 ∧ w.cell? ⟨b, 4, none⟩ = some a4 := by
  refine ⟨?_, ?_, ?_, ?_, ?_⟩ <;> rw [Lib.cell_of_heap h] <;> rfl
theorem name_any (N : Nat) (l : List UInt8) (hl : l.length ≤ 65535) (w : World) (h : Low N w) :
    Calls Tryz.prog 61 #[.string (bs l)] w fun e w' => e = .returned (ansV (X.nameAns l)) ∧ Below w.heap.size w w' := by
  have hp := past_goes l (by omega) 0 (by omega) (X.past X.goes l) (by rw [Nat.zero_add]; rfl)
  have hle := past_le X.goes l
  have hwd := fun W (hW : Low N W) => word_any N (l.take (X.past X.goes l)) (by rw [List.length_take]; omega) W hW.words
  have hr : X.nameAns l = .yes (if X.word (l.take (X.past X.goes l)) then 2 else 1) (l.take (X.past X.goes l)) 0 (X.past X.goes l) := rfl
  have het := bs_take l (X.past X.goes l)
  rw [← het] at hwd
  have hsz := bs_size l
  generalize X.nameAns l = R at hr ⊢
  generalize X.past X.goes l = n at hp hle hwd hr het
  have hnS : n ≤ (bs l).size := by omega
  have hz : (bs l).size ≤ 65535 := by omega
  generalize X.word (l.take n) = wd at hwd hr
  have hwd := hwd (w.alloc (Obj.cells #[Value.int IntKind.i64 0, Value.string { data := #[] }, Value.float FloatKind.f64 0, Value.int IntKind.i64 0, Value.bool false] 32)) (h.bel ((Below.refl _ _).alloc (Nat.le_refl _) _))
  clear h hl hle hsz
  have hv : ansV R = .tuple #[.agg #[.int .i64 (if wd then 2 else 1 : Nat), .string ((bs l).extract 0 n), .float .f64 0, .int .i64 0, .bool false], .int .i64 (n : Int)] := by rw [hr, het]; rfl
  rw [hv]
  clear hr hv het
  generalize bs l = S at hp hnS hz hwd ⊢
  have hst := store_float
  have hh := fun k : Int => heap_new w (Obj.cells #[.int .i64 k, .string (S.extract 0 n), .float .f64 0, .int .i64 0, .bool false] 32)
  have HH := Lib.hid hh
  clear hh
  cases wd
  · have hv2 : (.tuple #[.agg #[.int .i64 (if false then 2 else 1 : Nat), .string (S.extract 0 n), .float .f64 0, .int .i64 0, .bool false], .int .i64 (n : Int)] : Value) = .tuple #[.agg #[.int .i64 1, .string (S.extract 0 n), .float .f64 0, .int .i64 0, .bool false], .int .i64 (n : Int)] := rfl
    rw [hv2]
    clear hv2
    go_enter Tryz.func61, Tryz.ntmps61
    go_wp2_with (first | (go_at_call 34; refine (hp _).mono ?_; rintro e w' ⟨rfl, rfl⟩) | (go_at_call 13; refine hwd.mono ?_; rintro e w' ⟨rfl, rfl⟩))
    obtain ⟨c0, c1, c2, c3, c4⟩ := lex_cells (HH.out 1)
    refine bodyPost_ret (v := .tuple #[.agg #[.int .i64 1, .string (S.extract 0 n), .float .f64 0, .int .i64 0, .bool false], .int .i64 (n : Int)]) ?_ rfl ?_
    · simp [results, Tryz.results61, go_sem, c0, c1, c2, c3, c4]
    · exact ⟨rfl, (Below.refl _ _).alloc (Nat.le_refl _) _⟩
  · have hv2 : (.tuple #[.agg #[.int .i64 (if true then 2 else 1 : Nat), .string (S.extract 0 n), .float .f64 0, .int .i64 0, .bool false], .int .i64 (n : Int)] : Value) = .tuple #[.agg #[.int .i64 2, .string (S.extract 0 n), .float .f64 0, .int .i64 0, .bool false], .int .i64 (n : Int)] := rfl
    rw [hv2]
    clear hv2
    go_enter Tryz.func61, Tryz.ntmps61
    go_wp2_with (first | (go_at_call 34; refine (hp _).mono ?_; rintro e w' ⟨rfl, rfl⟩) | (go_at_call 13; refine hwd.mono ?_; rintro e w' ⟨rfl, rfl⟩))
    obtain ⟨c0, c1, c2, c3, c4⟩ := lex_cells (HH.out 2)
    refine bodyPost_ret (v := .tuple #[.agg #[.int .i64 2, .string (S.extract 0 n), .float .f64 0, .int .i64 0, .bool false], .int .i64 (n : Int)]) ?_ rfl ?_
    · simp [results, Tryz.results61, go_sem, c0, c1, c2, c3, c4]
    · exact ⟨rfl, (Below.refl _ _).alloc (Nat.le_refl _) _⟩
end Go.Proofs.YtelphbcdjfdjpaaGreatDoor
namespace Go.Proofs.YtelphbcdjfdjpaaGreatDoor
open Go.RowKit Go.Shelf
set_option linter.all false
theorem longest_cons (l m : List UInt8) (r : List (List UInt8)) (b : List UInt8) : X.longest l (m :: r) b = X.longest l r (if b.length < m.length ∧ m.isPrefixOf l = true then m else b) := rfl
theorem marks_few : ∀ m ∈ X.marks, m.length ≤ 3 := by decide
abbrev lexZ : Obj := Obj.cells #[Value.int IntKind.i64 0, Value.string { data := #[] }, Value.float FloatKind.f64 0, Value.int IntKind.i64 0, Value.bool false] 32

set_option maxHeartbeats 4000000 in
theorem mark_any (N : Nat) (l : List UInt8) (hl : l.length ≤ 65535) (w : World) (h : Low N w) :
    Calls Tryz.prog 63 #[.string (bs l)] w fun e w' => e = .returned (ansV (X.mark l)) ∧ Below w.heap.size w w' := by
  have hr : X.mark l = if X.longest l X.marks [] = [] then .no else .yes 5 (X.longest l X.marks []) 0 (X.longest l X.marks []).length := rfl
  have hpre : ∀ m W, Calls Tryz.prog 38 #[.string (bs l), .string (bs m)] W fun e w' => e = .returned (.bool (List.isPrefixOf m l)) ∧ W = w' := by
    intro m W
    refine (Tryz.strings_HasPrefix _ _ _).mono ?_
    rintro e w' ⟨rfl, rfl⟩
    exact ⟨rfl, rfl⟩
  have hbel : Below w.heap.size w (w.alloc lexZ) := (Below.refl _ _).alloc (Nat.le_refl _) _
  obtain ⟨hg, b, o, cap, hb, hc, hs⟩ := (h.bel hbel).marks
  have hlen : X.marks.length = 42 := rfl
  have hfew := marks_few
  have HB := Lib.hid hbel
  have HR := Lib.hid hr
  have HP := Lib.hid hpre
  have HFW := Lib.hid hfew
  generalize hM : X.marks = ws at hc hs hlen HR HFW
  rw [hlen] at hc
  have HS := Lib.hid hs
  have hst := store_float
  have hh := fun (k : Int) (t : ByteArray) => heap_new w (Obj.cells #[.int .i64 k, .string t, .float .f64 0, .int .i64 0, .bool false] 32)
  have HH := Lib.hid hh
  clear hr hpre hbel hs hfew hM h hh hl
  generalize bs l = S at HP ⊢
  go_enter Tryz.func63, Tryz.ntmps63
  go_wp2
  go_loopw [9, 4, 6] (fun vi vl _ wr => ∃ (k : Nat) (lg : List UInt8), Hid (wr = w.alloc lexZ) ∧ k ≤ 42 ∧ vi = .int .i64 (k : Int) ∧ vl = .string (bs lg) ∧ lg.length ≤ 3 ∧ Hid (X.longest l ws [] = X.longest l (ws.drop k) lg)) (fun vi _ _ _ => 42 - (intOf vi).toNat)
  case atStart => exact ⟨0, [], rfl, by omega, rfl, rfl, by decide, rfl⟩
  case round =>
    obtain ⟨k, lg, hw, hk, rfl, rfl, h3, hh⟩ := hrel
    by_cases hk2 : k < 42
    · obtain ⟨m, hm⟩ : ∃ m, ws[k]'(by omega) = m := ⟨_, rfl⟩
      have hki : (k : Int) < 42 := by omega
      have hcell := HS.out k (by omega)
      rw [hm, ← show wr = w.alloc lexZ from hw.out] at hcell
      have hm3 : m.length ≤ 3 := HFW.out m (by rw [← hm]; exact List.getElem_mem _)
      have hd : ws.drop k = m :: ws.drop (k + 1) := by rw [List.drop_eq_getElem_cons (by omega), hm]
      have hpm := HP.out m
      have hnext : Hid (X.longest l ws [] = X.longest l (ws.drop (k + 1)) (if lg.length < m.length ∧ m.isPrefixOf l = true then m else lg)) := by
        show _ = _
        rw [hh.out, hd, longest_cons]
      have s1 := bs_size m
      have s2 := bs_size lg
      clear hh hd hm
      generalize hMM : bs m = M at hcell hpm s1
      generalize hLL : bs lg = L at s2 ⊢
      have HMM := Lib.hid hMM
      have HLL := Lib.hid hLL
      clear hMM hLL
      generalize hpp : m.isPrefixOf l = pp at hpm hnext
      clear hpp
      have hMs : M.size ≤ 3 := by omega
      have hLs : L.size ≤ 3 := by omega
      by_cases hlt : lg.length < m.length
      · have hlt' : (L.size : Int) < (M.size : Int) := by omega
        have hltN : L.size < M.size := by omega
        cases pp
        · clear s1 s2
          go_wp2_with (go_at_call 38; refine (hpm _).mono ?_; rintro e w' ⟨rfl, rfl⟩)
          go_roundw
          case rel => exact ⟨k + 1, lg, hw, by omega, by go_num, by rw [HLL.out], h3, by simpa using hnext⟩
          case measure => simp [intOf]; omega
        · clear s1 s2
          go_wp2_with (go_at_call 38; refine (hpm _).mono ?_; rintro e w' ⟨rfl, rfl⟩)
          go_roundw
          case rel => exact ⟨k + 1, m, hw, by omega, by go_num, by rw [HMM.out], hm3, by simpa [hlt] using hnext⟩
          case measure => simp [intOf]; omega
      · have hlt' : ¬ (L.size : Int) < (M.size : Int) := by omega
        have hltN : ¬ L.size < M.size := by omega
        clear s1 s2
        go_wp2
        go_roundw
        case rel => exact ⟨k + 1, lg, hw, by omega, by go_num, by rw [HLL.out], h3, by simpa [hlt] using hnext⟩
        case measure => simp [intOf]; omega
    · obtain rfl : k = 42 := by omega
      have hfin : X.longest l ws [] = lg := by rw [hh.out, List.drop_eq_nil_of_le (by omega)]; rfl
      have HF := Lib.hid hfin
      have s2 := bs_size lg
      clear hh hfin
      have hw2 : wr = w.alloc lexZ := hw.out
      subst hw2
      cases lg with
      | nil =>
        have he : bs [] = ⟨#[]⟩ := rfl
        rw [he]
        go_wp2
        obtain ⟨c0, c1, c2, c3, c4⟩ := lex_cells (HH.out 0 ⟨#[]⟩)
        refine bodyPost_ret (v := .tuple #[.agg #[.int .i64 0, .string ⟨#[]⟩, .float .f64 0, .int .i64 0, .bool false], .int .i64 0]) ?_ rfl ?_
        · simp [results, Tryz.results63, go_sem, c0, c1, c2, c3, c4]
        · exact ⟨by rw [HR.out, HF.out]; rfl, HB.out⟩
      | cons x r =>
        have hne : (bs (x :: r)).toList.isEmpty = false := by rw [Lib.toList_data]; rfl
        have hfe : Hid (ansV (X.mark l) = .tuple #[.agg #[.int .i64 5, .string (bs (x :: r)), .float .f64 0, .int .i64 0, .bool false], .int .i64 ((bs (x :: r)).size : Int)]) := by
          show _ = _
          rw [HR.out, HF.out, if_neg (by simp), s2]
          rfl
        have hs3 : (bs (x :: r)).size ≤ 3 := by omega
        clear s2 HF h3
        generalize bs (x :: r) = L at hne hfe hs3 ⊢
        go_wp2
        obtain ⟨c0, c1, c2, c3, c4⟩ := lex_cells (HH.out 5 L)
        refine bodyPost_ret (v := .tuple #[.agg #[.int .i64 5, .string L, .float .f64 0, .int .i64 0, .bool false], .int .i64 (L.size : Int)]) ?_ rfl ?_
        · simp [results, Tryz.results63, go_sem, c0, c1, c2, c3, c4]
        · exact ⟨by rw [hfe.out], (Below.refl _ _).alloc (Nat.le_refl _) _⟩
end Go.Proofs.YtelphbcdjfdjpaaGreatDoor
namespace Go.Proofs.YtelphbcdjfdjpaaGreatDoor
open Go.RowKit Go.Shelf
set_option linter.all false

/-- What text has come to behind k bytes of what the marks hold. -/
def TextRel (l : List UInt8) (q : Nat) (B : Nat) (w : World) (iv : Value) (wr : World) : Prop :=
  ∃ (k f : Nat) (us : List UInt8), 1 + k ≤ l.length ∧ iv = .int .i64 (1 + (k : Int)) ∧ Lib.IsBuilderF 89 5 (B + 1) (B + 1) (Lib.byteCells us) wr ∧ Below B w wr ∧ wr.heap[B]? = some lexZ ∧ B + 1 < wr.heap.size ∧ us.length ≤ 2 * k ∧ l.length ≤ f + k ∧
    X.textF l.length q (l.drop 1) = (X.textF f q (l.drop (1 + k))).map fun r => (us ++ r.1, k + r.2)
theorem text_step (f q : Nat) (l : List UInt8) : X.textF (f + 1) q l = if U.g l 0 = q then some ([], 1) else match X.said l with
    | none => none
    | some (u, n) => (X.textF f q (l.drop n)).map fun r => (u ++ r.1, n + r.2) := rfl

theorem text_next {l : List UInt8} {q k f : Nat} {us u : List UInt8} {n : Nat} (hf : l.length ≤ f + k) (hk : 1 + k ≤ l.length) (hs : X.textF l.length q (l.drop 1) = (X.textF f q (l.drop (1 + k))).map fun r => (us ++ r.1, k + r.2))
    (hq : U.g (l.drop (1 + k)) 0 ≠ q) (hsd : X.said (l.drop (1 + k)) = some (u, n)) :
    1 + (k + n) ≤ l.length ∧ 1 ≤ n ∧ u.length ≤ 2 * n ∧ ∃ f', l.length ≤ f' + (k + n) ∧ X.textF l.length q (l.drop 1) = (X.textF f' q (l.drop (1 + (k + n)))).map fun r => ((us ++ u) ++ r.1, (k + n) + r.2) := by
  obtain ⟨h1, h2, h3⟩ := said_some hsd
  rw [List.length_drop] at h2
  simp only at h1 h2 h3
  refine ⟨by omega, h1, h3, ?_⟩
  cases f with
  | zero => omega
  | succ f =>
    refine ⟨f, by omega, ?_⟩
    rw [hs, text_step, if_neg hq, hsd]
    simp only [List.drop_drop]
    rw [show 1 + k + n = 1 + (k + n) by omega]
    cases X.textF f q (l.drop (1 + (k + n))) with
    | none => rfl
    | some r => simp [Nat.add_assoc]
theorem text_none {l : List UInt8} {q k f : Nat} {us : List UInt8} (hf : l.length ≤ f + k) (hk : 1 + k ≤ l.length) (hs : X.textF l.length q (l.drop 1) = (X.textF f q (l.drop (1 + k))).map fun r => (us ++ r.1, k + r.2))
    (hq : U.g (l.drop (1 + k)) 0 ≠ q) (hsd : X.said (l.drop (1 + k)) = none) : X.textF l.length q (l.drop 1) = none := by
  cases f with
  | zero => omega
  | succ f => rw [hs, text_step, if_neg hq, hsd]; rfl
theorem text_end {l : List UInt8} {q k f : Nat} {us : List UInt8} (hf : l.length ≤ f + k) (hk : 1 + k ≤ l.length) (hs : X.textF l.length q (l.drop 1) = (X.textF f q (l.drop (1 + k))).map fun r => (us ++ r.1, k + r.2))
    (hq : U.g (l.drop (1 + k)) 0 = q) : X.textF l.length q (l.drop 1) = some (us, k + 1) := by
  cases f with
  | zero => omega
  | succ f => rw [hs, text_step, if_pos hq]; simp

theorem strCells_bs (u : List UInt8) : Lib.strCells (bs u) = Lib.byteCells u := rfl

theorem quiet_more {P : Program} {f : FuncId} {args : Array Value} {w : World} {a n : Nat} {v : Value} (c : ∀ W : World, Calls P f args W fun e w' => e = .returned v ∧ W = w') :
    Calls P f args (w.drewN (a + n)) fun e w'' => e = .returned v ∧ ∃ m, w'' = w.drewN (a + m) :=
  (c _).mono fun _ _ ⟨he, hm⟩ => ⟨he, n, hm.symm⟩
theorem lexZ_store {w : World} {b : Nat} (h : w.heap[b]? = some lexZ) (a0 a1 a2 a3 a4 : Value) :
    (((((w.setCell ⟨b, 0, none⟩ a0).setCell ⟨b, 1, none⟩ a1).setCell ⟨b, 2, none⟩ a2).setCell ⟨b, 3, none⟩ a3).setCell ⟨b, 4, none⟩ a4).heap[b]? = some (.cells #[a0, a1, a2, a3, a4] 32 (0, 0)) := by
  have := heap_set (heap_set (heap_set (heap_set (heap_set h 0 a0) 1 a1) 2 a2) 3 a3) 4 a4
  simpa using this

set_option maxHeartbeats 4000000 in
theorem text_any (N : Nat) (l : List UInt8) (hl : l.length ≤ 65535) (h0 : 0 < l.length) (w : World) (h : Low N w) :
    Calls Tryz.prog 62 #[.string (bs l)] w fun e w' => e = .returned (ansV (X.text l)) ∧ Below w.heap.size w w' := by
  have hr : X.text l = match X.textF l.length (U.g l 0) (l.drop 1) with
    | none => .no
    | some (u, n) => .yes 4 u 0 (1 + n) := rfl
  have hsz := bs_size l
  obtain ⟨b0, e0, hget⟩ := first_byte l h0
  have hS0 : 0 < (bs l).size := by omega
  have hget := hget hS0
  have hby := fun i (hi : i ≤ 65537) => byteAt_any l (by omega) i (by omega)
  have hsd := fun k => said_any N (l.drop (1 + k)) (by rw [List.length_drop]; omega)
  have hbb : b0.toNat < 256 := UInt8.toNat_lt _
  have hz : (bs l).size ≤ 65535 := by omega
  obtain ⟨B, hB⟩ : ∃ B, w.heap.size = B := ⟨_, rfl⟩
  have HB := Lib.hid hB
  have HL : Hid (∀ W, Below B w W → Low N W) := Lib.hid fun W hW => h.bel (by rw [hB]; exact hW)
  have hn1 : (w.alloc lexZ).heap[B]? = some lexZ := by rw [← hB]; exact heap_new w lexZ
  have hs1 : (w.alloc lexZ).heap.size = B + 1 := by rw [heap_size, hB]
  have Hst : TextRel l b0.toNat B w (.int .i64 1) ((w.alloc lexZ).alloc (.cells #[.pointer none, .slice none 0 0] 89)) := by
    refine ⟨0, l.length, [], by omega, rfl, ?_, ((Below.refl _ _).alloc (by omega) _).alloc (by rw [hs1]; omega) _, ?_, by rw [heap_size, hs1]; omega, by simp, by omega, ?_⟩
    · have := Lib.fresh_isBuilder 89 5 (w.alloc lexZ)
      rw [hs1] at this
      exact .of this
    · rw [Below.heap_alloc _ _ _ (by rw [hs1]; omega)]; exact hn1
    · cases X.textF l.length b0.toNat (l.drop (1 + 0)) with
      | none => rfl
      | some r => simp
  have HBY := Lib.hid hby
  have HSD := Lib.hid hsd
  have HR := Lib.hid hr
  have HE0 := Lib.hid e0
  have HSZ := Lib.hid hsz
  have hst := store_float
  clear hby hsd hr h e0 hsz hB hl h0 hn1 hs1
  go_enter Tryz.func62, Tryz.ntmps62
  go_wp2
  rw [HB.out]
  go_loopw [5] (fun iv wr => TextRel l b0.toNat B w iv wr) (fun iv wr => l.length - (intOf iv).toNat)
  case atStart => exact Hst
  case round =>
    obtain ⟨k, f, us, hk, rfl, hbd, hbel, hzB, hlt, hus, hf, hs⟩ := hrel
    have hby := HBY.out (1 + k) (by have := HSZ.out; omega)
    have hgk : U.g l (1 + k) = U.g (l.drop (1 + k)) 0 := by rw [g_drop]; rfl
    have hx := U.g_lt l (1 + k)
    have e1 : ((1 + k : Nat) : Int) = 1 + (k : Int) := by omega
    rw [e1] at hby
    have HS := Lib.hid hs
    have HF := Lib.hid hf
    have HK := Lib.hid hk
    clear hs hf
    generalize hX : U.g l (1 + k) = x at hby hgk hx
    have hkz : 1 + (k : Int) ≤ ((bs l).size : Int) := by have := HSZ.out; omega
    have hk64 : k ≤ 65535 := by have := HSZ.out; omega
    have hex : (bs l).extract (1 + k) (bs l).size = bs (l.drop (1 + k)) := bs_drop l (1 + k)
    have h1k : (1 + (k : Int)).toNat = 1 + k := by omega
    have HZB := Lib.hid hzB
    have HBEL := Lib.hid hbel
    clear hzB hX
    by_cases hq : x = b0.toNat
    · have hte := text_end HF.out HK.out HS.out (by rw [← hgk, hq])
      have HT : Hid (ansV (X.text l) = .tuple #[.agg #[.int .i64 4, .string (bs us), .float .f64 0, .int .i64 0, .bool false], .int .i64 (1 + (k : Int) + 1)]) := by
        show _ = _
        rw [HR.out, ← HE0.out, hte]
        show Value.tuple #[lexV 4 us 0, .int .i64 ((1 + (k + 1) : Nat) : Int)] = _
        rw [show ((1 + (k + 1) : Nat) : Int) = 1 + (k : Int) + 1 by omega]
        rfl
      clear hte hex hgk
      subst hq
      go_wp2
      go_quiet ((go_at_call 33; first | exact quiet_more hby | exact Calls.quiet_of_same ((hby _).mono fun _ _ h => ⟨h.1, h.2.symm⟩)))
      generalize hWW : wr.drewN _ = W1
      have hb1 : Below wr.heap.size wr W1 := by rw [← hWW]; exact below_drewN (Below.refl _ _) _
      have hbd1 := builder_below hbd hb1
      have hZ1 := Below.keep hb1 HZB.out
      have HB1 := Lib.hid hb1
      have HZ1 := Lib.hid hZ1
      clear hWW hb1 hZ1 hbd
      go_wp2_with (go_at_call 79; refine (Tryz.Builder_String_any_f (B + 1) (B + 1) us _ hbd1 (by have := HB1.out.size; omega)).mono ?_; rintro e w1 ⟨rfl, hbb1, hb2⟩; have hZ2 : w1.heap[B]? = some lexZ := (by rw [hb2.block B (by omega)]; exact HZ1.out); obtain ⟨c0, c1, c2, c3, c4⟩ := lex_cells hZ2; have f0 := Lib.frozen_of_heap hZ2 0; have f1 := Lib.frozen_of_heap hZ2 1; have f2 := Lib.frozen_of_heap hZ2 2; have f3 := Lib.frozen_of_heap hZ2 3; have f4 := Lib.frozen_of_heap hZ2 4; have HZ2 := Lib.hid hZ2; have HB2 := Lib.hid hb2; clear hZ2 hb2 hbb1)
      have hf := lexZ_store HZ2.out (.int .i64 4) (.string ⟨us.toArray⟩) (.float .f64 0) (.int .i64 0) (.bool false)
      have hbF : Below B w (((((w1.setCell ⟨B, 0, none⟩ (.int .i64 4)).setCell ⟨B, 1, none⟩ (.string ⟨us.toArray⟩)).setCell ⟨B, 2, none⟩ (.float .f64 0)).setCell ⟨B, 3, none⟩ (.int .i64 0)).setCell ⟨B, 4, none⟩ (.bool false)) :=
        (((((((HBEL.out.trans (HB1.out.mono (by omega))).trans (HB2.out.mono (by omega))).setCell (p := ⟨B, 0, none⟩) (Nat.le_refl _) _).setCell (p := ⟨B, 1, none⟩) (Nat.le_refl _) _).setCell (p := ⟨B, 2, none⟩) (Nat.le_refl _) _).setCell (p := ⟨B, 3, none⟩) (Nat.le_refl _) _).setCell (p := ⟨B, 4, none⟩) (Nat.le_refl _) _)
      generalize (((((w1.setCell ⟨B, 0, none⟩ (.int .i64 4)).setCell ⟨B, 1, none⟩ (.string ⟨us.toArray⟩)).setCell ⟨B, 2, none⟩ (.float .f64 0)).setCell ⟨B, 3, none⟩ (.int .i64 0)).setCell ⟨B, 4, none⟩ (.bool false)) = WZ at hf hbF ⊢
      obtain ⟨d0, d1, d2, d3, d4⟩ := lex_cells hf
      refine bodyPost_ret (v := .tuple #[.agg #[.int .i64 4, .string ⟨us.toArray⟩, .float .f64 0, .int .i64 0, .bool false], .int .i64 (1 + (k : Int) + 1)]) ?_ rfl ?_
      · simp [results, Tryz.results62, go_sem, d0, d1, d2, d3, d4]
      · exact ⟨by rw [HT.out]; rfl, by rw [HB.out]; exact hbF⟩
    · have hne : ((x : Int) != (b0.toNat : Int)) = true := bne_iff_ne.2 (by omega)
      have hqg : U.g (l.drop (1 + k)) 0 ≠ b0.toNat := by rw [← hgk]; exact hq
      have hsd := HSD.out k
      rw [← hex] at hsd
      have HQ := Lib.hid hqg
      clear hq hgk hex hqg
      cases hsv : X.said (l.drop (1 + k)) with
      | none =>
        rw [hsv] at hsd
        have hsd : ∀ W, Low N W → Calls Tryz.prog 77 #[.string ((bs l).extract (1 + k) (bs l).size)] W fun e w' => e = .returned (.tuple #[.string (bs []), .int .i64 0]) ∧ Below W.heap.size W w' := hsd
        have hnn := text_none HF.out HK.out HS.out HQ.out hsv
        have HT : Hid (ansV (X.text l) = .tuple #[lexV 0 [] 0, .int .i64 0]) := by
          show _ = _
          rw [HR.out, ← HE0.out, hnn]; rfl
        clear hsv hnn
        go_wp2
        go_quiet ((go_at_call 33; first | exact quiet_more hby | exact Calls.quiet_of_same ((hby _).mono fun _ _ h => ⟨h.1, h.2.symm⟩)))
        generalize hWW : wr.drewN _ = W1
        have hb1 : Below wr.heap.size wr W1 := by rw [← hWW]; exact below_drewN (Below.refl _ _) _
        have hZ1 := Below.keep hb1 HZB.out
        have hLW := HL.out W1 (HBEL.out.trans (hb1.mono (by omega)))
        have hsd1 := hsd W1 hLW
        have HB1 := Lib.hid hb1
        have HZ1 := Lib.hid hZ1
        clear hWW hb1 hZ1 hbd hsd hLW
        go_wp2_with (go_at_call 77; refine hsd1.mono ?_; rintro e w1 ⟨rfl, hb2⟩; have hZ2 : w1.heap[B]? = some lexZ := Below.keep hb2 HZ1.out; obtain ⟨c0, c1, c2, c3, c4⟩ := lex_cells hZ2; have f0 := Lib.frozen_of_heap hZ2 0; have f1 := Lib.frozen_of_heap hZ2 1; have f2 := Lib.frozen_of_heap hZ2 2; have f3 := Lib.frozen_of_heap hZ2 3; have f4 := Lib.frozen_of_heap hZ2 4; have HZ2 := Lib.hid hZ2; have HB2 := Lib.hid hb2; clear hZ2 hb2)
        have hs1' := HB1.out.size
        have hf := lexZ_store HZ2.out (.int .i64 0) (.string ⟨#[]⟩) (.float .f64 0) (.int .i64 0) (.bool false)
        have hbF : Below B w (((((w1.setCell ⟨B, 0, none⟩ (.int .i64 0)).setCell ⟨B, 1, none⟩ (.string ⟨#[]⟩)).setCell ⟨B, 2, none⟩ (.float .f64 0)).setCell ⟨B, 3, none⟩ (.int .i64 0)).setCell ⟨B, 4, none⟩ (.bool false)) :=
          (((((((HBEL.out.trans (HB1.out.mono (by omega))).trans (HB2.out.mono (by omega))).setCell (p := ⟨B, 0, none⟩) (Nat.le_refl _) _).setCell (p := ⟨B, 1, none⟩) (Nat.le_refl _) _).setCell (p := ⟨B, 2, none⟩) (Nat.le_refl _) _).setCell (p := ⟨B, 3, none⟩) (Nat.le_refl _) _).setCell (p := ⟨B, 4, none⟩) (Nat.le_refl _) _)
        generalize (((((w1.setCell ⟨B, 0, none⟩ (.int .i64 0)).setCell ⟨B, 1, none⟩ (.string ⟨#[]⟩)).setCell ⟨B, 2, none⟩ (.float .f64 0)).setCell ⟨B, 3, none⟩ (.int .i64 0)).setCell ⟨B, 4, none⟩ (.bool false)) = WZ at hf hbF ⊢
        obtain ⟨d0, d1, d2, d3, d4⟩ := lex_cells hf
        refine bodyPost_ret (v := .tuple #[.agg #[.int .i64 0, .string ⟨#[]⟩, .float .f64 0, .int .i64 0, .bool false], .int .i64 0]) ?_ rfl ?_
        · simp [results, Tryz.results62, go_sem, d0, d1, d2, d3, d4]
        · exact ⟨by rw [HT.out]; rfl, by rw [HB.out]; exact hbF⟩
      | some r =>
        obtain ⟨u, n⟩ := r
        rw [hsv] at hsd
        have hsd : ∀ W, Low N W → Calls Tryz.prog 77 #[.string ((bs l).extract (1 + k) (bs l).size)] W fun e w' => e = .returned (.tuple #[.string (bs u), .int .i64 (n : Int)]) ∧ Below W.heap.size W w' := hsd
        obtain ⟨p1, p2, p3, f', p4, p5⟩ := text_next HF.out HK.out HS.out HQ.out hsv
        have hn0 : ((n : Int) == 0) = false := beq_eq_false_iff_ne.2 (by omega)
        have hn64 : n ≤ 65535 := by have := HSZ.out; omega
        have hus2 := bs_size u
        have HP4 := Lib.hid p4
        have HP5 := Lib.hid p5
        have HP1 := Lib.hid p1
        clear hsv p4 p5 p1
        go_wp2
        go_quiet ((go_at_call 33; first | exact quiet_more hby | exact Calls.quiet_of_same ((hby _).mono fun _ _ h => ⟨h.1, h.2.symm⟩)))
        generalize hWW : wr.drewN _ = W1
        have hb1 : Below wr.heap.size wr W1 := by rw [← hWW]; exact below_drewN (Below.refl _ _) _
        have hZ1 := Below.keep hb1 HZB.out
        have hLW := HL.out W1 (HBEL.out.trans (hb1.mono (by omega)))
        have hsd1 := hsd W1 hLW
        have hbd1 := builder_below hbd hb1
        have HB1 := Lib.hid hb1
        have HZ1 := Lib.hid hZ1
        clear hWW hb1 hZ1 hbd hsd hLW
        go_wp2_with (first
          | (go_at_call 77; refine hsd1.mono ?_; rintro e w1 ⟨rfl, hb2⟩; have hbd2 := builder_below hbd1 hb2; have HB2 := Lib.hid hb2; clear hb2)
          | (go_at_call 78; refine (writeString_any (B + 1) (B + 1) (Lib.byteCells us) (bs u) _ hbd2 (by rw [Lib.byteCells_length]; omega) (by have := HB1.out.size; have := HB2.out.size; omega)).mono ?_; rintro e w2 ⟨rfl, hbd3, hb3⟩; have HB3 := Lib.hid hb3; clear hb3))
        have g1 := HB1.out.size
        have g2 := HB2.out.size
        have g3 := HB3.out.size
        have hp := HP1.out
        refine ⟨⟨k + n, f', us ++ u, HP1.out, by go_num, .inr ?_, ((HBEL.out.trans (HB1.out.mono (by omega))).trans (HB2.out.mono (by omega))).trans (HB3.out.mono (by omega)), ?_, by omega, by rw [List.length_append]; omega, HP4.out, HP5.out⟩, by simp [intOf]; omega⟩
        · rw [byteCells_append]; exact hbd3
        · rw [HB3.out.block B (by omega)]; exact Below.keep HB2.out HZ1.out
end Go.Proofs.YtelphbcdjfdjpaaGreatDoor
