/- A lexeme that is a mark. Conditions: those that each theorem names. -/
import Derived.Test.YthakjbmheoojeaaGreatDoorLa
namespace Go.Proofs.YthakjbmheoojeaaGreatDoor
open Go.RowKit Go.Shelf
set_option linter.all false
theorem longest_cons (l m : List UInt8) (r : List (List UInt8)) (b : List UInt8) : X.longest l (m :: r) b = X.longest l r (if b.length < m.length ∧ m.isPrefixOf l = true then m else b) := rfl
theorem marks_few : ∀ m ∈ X.marks, m.length ≤ 3 := by decide
abbrev lexZ : Obj := Obj.cells #[Value.int IntKind.i64 0, Value.string { data := #[] }, Value.float FloatKind.f64 0, Value.int IntKind.i64 0, Value.bool false] 32

set_option maxHeartbeats 4000000 in
theorem mark_any (N : Nat) (l : List UInt8) (hl : l.length ≤ 65535) (w : World) (h : Low N w) :
    Calls Tryz.prog 63 #[.string (bs l)] w fun e w' => e = .returned (ansV (X.mark l)) ∧ Below w.heap.size w w' := by
  have hr : X.mark l = if X.longest l X.marks [] = [] then .no else .yes 5 (X.longest l X.marks []) 0 (X.longest l X.marks []).length := rfl
  have hpre : ∀ m W, Calls Tryz.prog 38 #[.string (bs l), .string (bs m)] W fun e w' => e = .returned (.bool (List.isPrefixOf m l)) ∧ W = w' := by
    intro m W
    refine (Tryz.strings_HasPrefix _ _ _).mono ?_
    rintro e w' ⟨rfl, rfl⟩
    exact ⟨rfl, rfl⟩
  have hbel : Below w.heap.size w (w.alloc lexZ) := (Below.refl _ _).alloc (Nat.le_refl _) _
  obtain ⟨hg, b, o, cap, hb, hc, hs⟩ := (h.bel hbel).marks
  have hlen : X.marks.length = 42 := rfl
  have hfew := marks_few
  have HB := Lib.hid hbel
  have HR := Lib.hid hr
  have HP := Lib.hid hpre
  have HFW := Lib.hid hfew
  generalize hM : X.marks = ws at hc hs hlen HR HFW
  rw [hlen] at hc
  have HS := Lib.hid hs
  have hst := store_float
  have hh := fun (k : Int) (t : ByteArray) => heap_new w (Obj.cells #[.int .i64 k, .string t, .float .f64 0, .int .i64 0, .bool false] 32)
  have HH := Lib.hid hh
  clear hr hpre hbel hs hfew hM h hh hl
  generalize bs l = S at HP ⊢
  go_enter Tryz.func63, Tryz.ntmps63
  go_wp2
  go_loopw [9, 4, 6] (fun vi vl _ wr => ∃ (k : Nat) (lg : List UInt8), Hid (wr = w.alloc lexZ) ∧ k ≤ 42 ∧ vi = .int .i64 (k : Int) ∧ vl = .string (bs lg) ∧ lg.length ≤ 3 ∧ Hid (X.longest l ws [] = X.longest l (ws.drop k) lg)) (fun vi _ _ _ => 42 - (intOf vi).toNat)
  case atStart => exact ⟨0, [], rfl, by omega, rfl, rfl, by decide, rfl⟩
  case round =>
    obtain ⟨k, lg, hw, hk, rfl, rfl, h3, hh⟩ := hrel
    by_cases hk2 : k < 42
    · obtain ⟨m, hm⟩ : ∃ m, ws[k]'(by omega) = m := ⟨_, rfl⟩
      have hki : (k : Int) < 42 := by omega
      have hcell := HS.out k (by omega)
      rw [hm, ← show wr = w.alloc lexZ from hw.out] at hcell
      have hm3 : m.length ≤ 3 := HFW.out m (by rw [← hm]; exact List.getElem_mem _)
      have hd : ws.drop k = m :: ws.drop (k + 1) := by rw [List.drop_eq_getElem_cons (by omega), hm]
      have hpm := HP.out m
      have hnext : Hid (X.longest l ws [] = X.longest l (ws.drop (k + 1)) (if lg.length < m.length ∧ m.isPrefixOf l = true then m else lg)) := by
        show _ = _
        rw [hh.out, hd, longest_cons]
      have s1 := bs_size m
      have s2 := bs_size lg
      clear hh hd hm
      generalize hMM : bs m = M at hcell hpm s1
      generalize hLL : bs lg = L at s2 ⊢
      have HMM := Lib.hid hMM
      have HLL := Lib.hid hLL
      clear hMM hLL
      generalize hpp : m.isPrefixOf l = pp at hpm hnext
      clear hpp
      have hMs : M.size ≤ 3 := by omega
      have hLs : L.size ≤ 3 := by omega
      by_cases hlt : lg.length < m.length
      · have hlt' : (L.size : Int) < (M.size : Int) := by omega
        have hltN : L.size < M.size := by omega
        cases pp
        · clear s1 s2
          go_wp2_with (go_at_call 38; refine (hpm _).mono ?_; rintro e w' ⟨rfl, rfl⟩)
          go_roundw
          case rel => exact ⟨k + 1, lg, hw, by omega, by go_num, by rw [HLL.out], h3, by simpa using hnext⟩
          case measure => simp [intOf]; omega
        · clear s1 s2
          go_wp2_with (go_at_call 38; refine (hpm _).mono ?_; rintro e w' ⟨rfl, rfl⟩)
          go_roundw
          case rel => exact ⟨k + 1, m, hw, by omega, by go_num, by rw [HMM.out], hm3, by simpa [hlt] using hnext⟩
          case measure => simp [intOf]; omega
      · have hlt' : ¬ (L.size : Int) < (M.size : Int) := by omega
        have hltN : ¬ L.size < M.size := by omega
        clear s1 s2
        go_wp2
        go_roundw
        case rel => exact ⟨k + 1, lg, hw, by omega, by go_num, by rw [HLL.out], h3, by simpa [hlt] using hnext⟩
        case measure => simp [intOf]; omega
    · obtain rfl : k = 42 := by omega
      have hfin : X.longest l ws [] = lg := by rw [hh.out, List.drop_eq_nil_of_le (by omega)]; rfl
      have HF := Lib.hid hfin
      have s2 := bs_size lg
      clear hh hfin
      have hw2 : wr = w.alloc lexZ := hw.out
      subst hw2
      cases lg with
      | nil =>
        have he : bs [] = ⟨#[]⟩ := rfl
        rw [he]
        go_wp2
        obtain ⟨c0, c1, c2, c3, c4⟩ := lex_cells (HH.out 0 ⟨#[]⟩)
        refine bodyPost_ret (v := .tuple #[.agg #[.int .i64 0, .string ⟨#[]⟩, .float .f64 0, .int .i64 0, .bool false], .int .i64 0]) ?_ rfl ?_
        · simp [results, Tryz.results63, go_sem, c0, c1, c2, c3, c4]
        · exact ⟨by rw [HR.out, HF.out]; rfl, HB.out⟩
      | cons x r =>
        have hne : (bs (x :: r)).toList.isEmpty = false := by rw [Lib.toList_data]; rfl
        have hfe : Hid (ansV (X.mark l) = .tuple #[.agg #[.int .i64 5, .string (bs (x :: r)), .float .f64 0, .int .i64 0, .bool false], .int .i64 ((bs (x :: r)).size : Int)]) := by
          show _ = _
          rw [HR.out, HF.out, if_neg (by simp), s2]
          rfl
        have hs3 : (bs (x :: r)).size ≤ 3 := by omega
        clear s2 HF h3
        generalize bs (x :: r) = L at hne hfe hs3 ⊢
        go_wp2
        obtain ⟨c0, c1, c2, c3, c4⟩ := lex_cells (HH.out 5 L)
        refine bodyPost_ret (v := .tuple #[.agg #[.int .i64 5, .string L, .float .f64 0, .int .i64 0, .bool false], .int .i64 (L.size : Int)]) ?_ rfl ?_
        · simp [results, Tryz.results63, go_sem, c0, c1, c2, c3, c4]
        · exact ⟨by rw [hfe.out], (Below.refl _ _).alloc (Nat.le_refl _) _⟩
end Go.Proofs.YthakjbmheoojeaaGreatDoor
