/- Layer 8: find, Get. Conditions: those that each theorem names. -/
import Derived.Test.YtmndmnajgfabnaaDoorHr
namespace Go.Proofs.YtmndmnajgfabnaaDoor
open Go.RowKit Go.Maps
set_option linter.all false

/-- Along the prototypes: at most n objects are looked at. -/
def Hp.findF (A : Hp) (k : List UInt8) : Nat → Int → Option (Nat × V)
  | 0, _ => none
  | n + 1, i => if 0 ≤ i then
      match A.objs[i.toNat]? with
      | none => none
      | some o => match o.own k with
        | some v => some (i.toNat, v)
        | none => A.findF k n o.proto
    else none
def Hp.find (A : Hp) (k : List UInt8) (i : Int) : Option (Nat × V) := A.findF k (i.toNat + 1) i
def findAns : Option (Nat × V) → Value
  | none => .tuple #[.int .i64 (-1), .agg #[.int .i64 0, .float .f64 0, .string ⟨#[]⟩, .int .i64 0]]
  | some (i, v) => .tuple #[.int .i64 (i : Int), .agg #[.int .i64 v.k, .float .f64 v.n, .string (bs v.t), .int .i64 v.r]]
def FindPost (R : Option (Nat × V)) (w : World) (e : Ending) (w' : World) : Prop := e = .returned (findAns R) ∧ Fr [] w w'
structure Hp.Few (A : Hp) : Prop where
  left : A.left ≤ 10000
  objs : A.objs.length ≤ 10000
  items : ∀ (i : Nat) (o : Ob), A.objs[i]? = some o → o.items.length ≤ 10000
  props : ∀ (i : Nat) (o : Ob), A.objs[i]? = some o → o.props.length ≤ 10000
  proto : ∀ (i : Nat) (o : Ob), A.objs[i]? = some o → o.proto = -1 ∨ (0 ≤ o.proto ∧ o.proto < (i : Int))
def FindRel (A : Hp) (k : List UInt8) (R : Option (Nat × V)) (w : World) (g : Nat) (j : Int) (wr : World) : Prop :=
  (j < 0 ∨ j.toNat < g ∨ (A.objs.length : Int) ≤ j) ∧ R = A.findF k g j ∧ Fr [] w wr ∧ Bx w.heap.size 0 0 ⟨#[]⟩ 0 wr
set_option maxRecDepth 100000 in
set_option maxHeartbeats 2000000 in
theorem hFind_any (h : Nat) (A : Hp) (sv : Value) (gs : List Gx) (i : Int) (k : List UInt8) (hk : k.length ≤ 140737488355328) (w : World) (H : HeapG h A sv gs w) (F : A.Few) :
    Calls Tryd.prog 55 #[.pointer (some ⟨h, 0, none⟩), .int .i64 i, .string (bs k)] w (FindPost (A.find k i) w) := by
  obtain ⟨sp, cap, hsv⟩ := row_slice H.row
  have hGL := H.len
  obtain ⟨R, hR⟩ : ∃ R, A.find k i = R := ⟨_, rfl⟩
  rw [hR]
  have hhas : ∀ (j : Int) W, Fr [] w W → Calls Tryd.prog 44 #[.pointer (some ⟨h, 0, none⟩), .int .i64 j] W fun e w' => e = .returned (.bool (decide (0 ≤ j) && decide (j < (A.objs.length : Int)))) ∧ W = w' := by
    intro j W hW
    have := (H.fr hW).hp
    rw [hsv] at this
    refine (has_any h sp gs.length cap A.left j W this).mono ?_
    rintro e w' ⟨rfl, rfl⟩
    exact ⟨by rw [hGL], rfl⟩
  have hown : ∀ (j : Nat) (o : Ob), A.objs[j]? = some o → ∀ W, Fr [] w W → Calls Tryd.prog 23 #[.pointer (some ⟨h, 0, none⟩), .int .i64 (j : Int), .string (bs k)] W fun e w' => e = .returned (ansV (o.own k)) ∧ Fr [] W w' := by
    intro j o ho W hW
    exact own_any h A sv gs j o k hk W (H.fr hW) ho F.objs (F.items j o ho)
  have hobj : ∀ (j : Nat) (o : Ob), A.objs[j]? = some o → ∃ gb cap' b, sv = .slice (some ⟨gb, 0, none⟩) A.objs.length cap' ∧ j < A.objs.length ∧ ∀ W, Fr [] w W → W.cell? ⟨h, 0, none⟩ = some (.slice (some ⟨gb, 0, none⟩) A.objs.length cap') ∧ W.cell? ⟨gb, j, none⟩ = some (.pointer (some ⟨b, 0, none⟩)) ∧ W.cell? ⟨b, 1, none⟩ = some (.int .i64 o.proto) := by
    intro j o ho
    have hj : j < gs.length := by
      rw [← hGL]
      rcases Nat.lt_or_ge j A.objs.length with h' | h'
      · exact h'
      · rw [List.getElem?_eq_none h'] at ho; cases ho
    have hg : gs[j]? = some gs[j] := List.getElem?_eq_getElem hj
    obtain ⟨gb, cap', hsv', hcell, hgbm, _⟩ := H.obj hg
    refine ⟨gb, cap', gs[j].blk, by rw [hGL]; exact hsv', by omega, fun W hW => ⟨?_, ?_, ?_⟩⟩
    · rw [hGL, ← hsv']; exact (H.fr hW).hp.c0
    · exact (hW.cell (H.lt gb hgbm) List.not_mem_nil j).trans hcell
    · exact blk_cell ((H.fr hW).obs j o _ ho hg).blk 1 _ rfl
  have HHAS := Lib.hid hhas
  have HOWN := Lib.hid hown
  have HOBJ := Lib.hid hobj
  have FF := Lib.hid F
  have hfo := F.objs
  have hst := store_float
  have r0 : Fr [] w (w.alloc (.cells #[.int .i64 0, .float .f64 0, .string ⟨#[]⟩, .int .i64 0] 31 (0, 0))) := Fr.alloc _ _
  have hS0 : FindRel A k R w (i.toNat + 1) i (w.alloc (.cells #[.int .i64 0, .float .f64 0, .string ⟨#[]⟩, .int .i64 0] 31 (0, 0))) := ⟨by omega, hR.symm, r0, Bx.new 0 0 ⟨#[]⟩ 0 w⟩
  have HS0 := Lib.hid hS0
  clear hS0 r0 hhas hown hobj F hR hsv hGL H hk
  obtain ⟨S, hS⟩ : ∃ S, S = bs k := ⟨_, rfl⟩
  rw [← hS] at HOWN ⊢
  clear hS
  go_enter Tryd.func55, Tryd.ntmps55
  go_wp2
  go_loopg [1] (i.toNat + 1) (fun g iv wr => ∃ j : Int, iv = .int .i64 j ∧ Hid (FindRel A k R w g j wr))
  case atStart => exact ⟨i, rfl, HS0⟩
  case round =>
    obtain ⟨j, rfl, hrl⟩ := hrel
    obtain ⟨hjg, hRj, hfr, hbx⟩ := hrl.out
    have hhas := HHAS.out j wr hfr
    obtain ⟨y0, y1, y2, y3⟩ := hbx.cells
    have z0 := blk_free hbx 0
    have z1 := blk_free hbx 1
    have z2 := blk_free hbx 2
    have z3 := blk_free hbx 3
    by_cases hj : 0 ≤ j ∧ j < (A.objs.length : Int)
    · obtain ⟨jn, hjn⟩ : ∃ jn : Nat, (jn : Int) = j := ⟨j.toNat, by omega⟩
      have hjn2 : j.toNat = jn := by omega
      have hjl : jn < A.objs.length := by omega
      obtain ⟨gk, rfl⟩ : ∃ n, gk = n + 1 := ⟨gk - 1, by omega⟩
      have ho : A.objs[jn]? = some A.objs[jn] := List.getElem?_eq_getElem hjl
      generalize A.objs[jn] = o at ho
      have hRk : R = match o.own k with | some v => some (jn, v) | none => A.findF k gk o.proto := by
        rw [hRj]
        show (if 0 ≤ j then _ else _) = _
        rw [if_pos hj.1, hjn2, ho]
      have hpr := FF.out.proto jn o ho
      obtain ⟨gb, cap', b, _, _, hcl⟩ := HOBJ.out jn o ho
      have hownj := HOWN.out jn o ho
      subst hjn
      have hb : (decide (0 ≤ (jn : Int)) && decide ((jn : Int) < (A.objs.length : Int))) = true := by simp; omega
      rw [hb] at hhas
      have hcl0 := (hcl wr hfr).1
      have hin : (A.objs.length : Int) ≤ 10000 := by omega
      obtain ⟨LN, hLN⟩ : ∃ LN, LN = A.objs.length := ⟨_, rfl⟩
      rw [← hLN] at hcl
      have HCL := Lib.hid hcl
      have HJL : jn < LN := by omega
      have HIN : LN ≤ 10000 := by omega
      have HFR := Lib.hid hfr
      have HBX := Lib.hid hbx
      have HRJ := Lib.hid hRk
      have HPR := Lib.hid hpr
      have HJG := Lib.hid hjg
      have HWN := Lib.hid hownj
      clear hcl0 hin hLN hcl hfr hbx hRj hRk hpr hjg hb hjl hj hjn2 hrl ho hownj HS0
      cases hov : o.own k with
      | some v =>
        have hRv : R = some (jn, v) := by rw [HRJ.out, hov]
        subst hRv
        have hown : Calls Tryd.prog 23 #[.pointer (some ⟨h, 0, none⟩), .int .i64 (jn : Int), .string S] wr fun e w' => e = .returned (.tuple #[.agg #[.int .i64 v.k, .float .f64 v.n, .string (bs v.t), .int .i64 v.r], .bool true]) ∧ Fr [] wr w' := by
          have := HWN.out wr HFR.out
          rw [hov] at this
          exact this
        have hfa : findAns (some (jn, v)) = .tuple #[.int .i64 (jn : Int), .agg #[.int .i64 v.k, .float .f64 v.n, .string (bs v.t), .int .i64 v.r]] := rfl
        have HFA := Lib.hid hfa
        generalize v.k = vk at *
        generalize v.n = vn at *
        generalize bs v.t = vT at *
        generalize v.r = vr at *
        clear hov HRJ HPR HWN hfa HJG
        go_wp2_with (first
          | (go_at_call 44; ((with_reducible refine hhas.mono ?_); rintro e w1 ⟨rfl, rfl⟩))
          | (go_at_call 23; ((with_reducible refine hown.mono ?_); rintro e w2 ⟨rfl, hf2⟩; have HF2 := Lib.hid hf2; have HB2 := Lib.hid (HBX.out.below hf2.below0); clear hf2))
          | fail)
        have b3 : Bx w.heap.size 0 0 ⟨#[]⟩ 0 (w2.alloc (.cells #[.int .i64 vk, .float .f64 vn, .string vT, .int .i64 vr] 31 (0, 0))) := HB2.out.below ((Below.refl _ _).alloc (Nat.le_refl _) _)
        have c3 := Bx.new vk vn vT vr w2
        have r3 : Fr [] w (w2.alloc (.cells #[.int .i64 vk, .float .f64 vn, .string vT, .int .i64 vr] 31 (0, 0))) := (HFR.out.trans HF2.out (fun _ h => by cases h)).trans (Fr.alloc _ _) (fun _ h => by cases h)
        clear y0 y1 y2 y3 z0 z1 z2 z3
        generalize w2.alloc (.cells #[.int .i64 vk, .float .f64 vn, .string vT, .int .i64 vr] 31 (0, 0)) = W3 at *
        generalize w2.heap.size = N2 at *
        obtain ⟨y0, y1, y2, y3⟩ := b3.cells
        have z0 := blk_free b3 0
        have z1 := blk_free b3 1
        have z2 := blk_free b3 2
        have z3 := blk_free b3 3
        obtain ⟨x0, x1, x2, x3⟩ := c3.cells
        have R3 := Lib.hid r3
        have B3 := Lib.hid b3
        clear r3 b3 c3 hhas hown HF2 HB2
        go_region
        all_goals
          have R4 := Lib.hid (fr_box R3.out (.int .i64 vk) (.float .f64 vn) (.string vT) (.int .i64 vr)).drew
          go_wp2
          refine bodyPost_ret (v := .tuple #[.int .i64 (jn : Int), .agg #[.int .i64 vk, .float .f64 vn, .string vT, .int .i64 vr]]) (by simp [results, Tryd.results55, go_sem, y0, y1, y2, y3]) rfl ⟨by rw [HFA.out], R4.out⟩
      | none =>
        have hRn : R = A.findF k gk o.proto := by rw [HRJ.out, hov]
        have hown : Calls Tryd.prog 23 #[.pointer (some ⟨h, 0, none⟩), .int .i64 (jn : Int), .string S] wr fun e w' => e = .returned (.tuple #[.agg #[.int .i64 0, .float .f64 0, .string ⟨#[]⟩, .int .i64 0], .bool false]) ∧ Fr [] wr w' := by
          have := HWN.out wr HFR.out
          rw [hov] at this
          exact this
        have hrel' : ∀ W O, Fr [] wr W → FindRel A k R w gk o.proto (W.alloc O) := by
          intro W O hW
          have h1 := HPR.out
          have h2 := HJG.out
          have hf := (HFR.out.trans hW (fun _ h => by cases h)).trans (Fr.alloc W O) (fun _ h => by cases h)
          exact ⟨by omega, hRn, hf, (HBX.out.below hW.below0).below ((Fr.alloc W O).below0)⟩
        have HREL := Lib.hid hrel'
        have hcl := fun W (hW : Fr [] wr W) O => HCL.out (W.alloc O) ((HFR.out.trans hW (fun _ h => by cases h)).trans (Fr.alloc W O) (fun _ h => by cases h))
        have HCLW := Lib.hid hcl
        clear hov HRJ HPR HWN HJG hRn hrel' hcl
        generalize o.proto = pr at *
        go_wp2_with (first
          | (go_at_call 44; ((with_reducible refine hhas.mono ?_); rintro e w1 ⟨rfl, rfl⟩))
          | (go_at_call 23; ((with_reducible refine hown.mono ?_); rintro e w2 ⟨rfl, hf2⟩; have HF2 := Lib.hid hf2; have HB2 := Lib.hid (HBX.out.below hf2.below0); clear hf2; obtain ⟨cc0, cc1, cc2⟩ := HCLW.out _ HF2.out (.cells #[.int .i64 0, .float .f64 0, .string ⟨#[]⟩, .int .i64 0] 31 (0, 0))))
          | fail)
        have HR2 := Lib.hid (HREL.out w2 (.cells #[.int .i64 0, .float .f64 0, .string ⟨#[]⟩, .int .i64 0] 31 (0, 0)) HF2.out)
        go_roundg gk
        case measure => omega
        case rel => exact ⟨pr, rfl, HR2⟩
    · have hb : (decide (0 ≤ j) && decide (j < (A.objs.length : Int))) = false := by
        rw [Bool.and_eq_false_iff, decide_eq_false_iff_not, decide_eq_false_iff_not]; omega
      rw [hb] at hhas
      have hRn : R = none := by
        rw [hRj]
        cases gk with
        | zero => rfl
        | succ gk =>
          show (if 0 ≤ j then _ else _) = _
          split
          · rw [List.getElem?_eq_none (by omega)]
          · rfl
      subst hRn
      have R3 := Lib.hid (fr_box hfr (.int .i64 0) (.float .f64 0) (.string ⟨#[]⟩) (.int .i64 0))
      clear hrl hjg hRj hfr hbx hj hb HHAS HOWN HOBJ FF HS0
      go_wp2_with (first
        | (go_at_call 44; ((with_reducible refine hhas.mono ?_); rintro e w1 ⟨rfl, rfl⟩))
        | fail)
      refine bodyPost_ret (v := .tuple #[.int .i64 (-1), .agg #[.int .i64 0, .float .f64 0, .string ⟨#[]⟩, .int .i64 0]]) (by simp [results, Tryd.results55, go_sem, y0, y1, y2, y3]) rfl ⟨rfl, R3.out⟩
end Go.Proofs.YtmndmnajgfabnaaDoor
