/- The walk of the law TokRises: for every document it answers true. Conditions: those that each theorem names. -/
import Derived.Test.YtgngfpfplppnnaaGreatDoorBehind
import Derived.Test.YtgngfpfplppnnaaGreatDoorLawLines
import Derived.Deep.QuietTactic
import Derived.BigQuiet
import Derived.Deep.DeepCutAuto
import Derived.Deep.RegionHeld3
namespace Go.Proofs.YtgngfpfplppnnaaGreatDoor
open Go.RowKit Go.Shelf
set_option linter.all false

theorem rs_next {g tb o NB : Nat} {v0 v4 v5 y0 y4 y5 : Value} {wb X Y : World} (hT : tb < NB) (hG : g < NB)
    (h : X.cell? ⟨tb, 0, none⟩ = some v0 ∧ X.cell? ⟨tb, 4, none⟩ = some v4 ∧ X.cell? ⟨tb, 5, none⟩ = some v5 ∧ X.cell? ⟨g, o, none⟩ = some y0 ∧ X.cell? ⟨g, o + 4, none⟩ = some y4 ∧ X.cell? ⟨g, o + 5, none⟩ = some y5 ∧ Below NB wb X ∧ NB ≤ X.heap.size) (k : Below X.heap.size X Y) :
    Y.cell? ⟨tb, 0, none⟩ = some v0 ∧ Y.cell? ⟨tb, 4, none⟩ = some v4 ∧ Y.cell? ⟨tb, 5, none⟩ = some v5 ∧ Y.cell? ⟨g, o, none⟩ = some y0 ∧ Y.cell? ⟨g, o + 4, none⟩ = some y4 ∧ Y.cell? ⟨g, o + 5, none⟩ = some y5 ∧ Below NB wb Y ∧ NB ≤ Y.heap.size := by
  obtain ⟨h0, h4, h5, k0, k4, k5, hb, hs⟩ := h
  have c : ∀ (b i : Nat), b < NB → Y.cell? ⟨b, i, none⟩ = X.cell? ⟨b, i, none⟩ := fun b i hb => k.cell (p := ⟨b, i, none⟩) (Nat.lt_of_lt_of_le hb hs)
  exact ⟨(c _ _ hT).trans h0, (c _ _ hT).trans h4, (c _ _ hT).trans h5, (c _ _ hG).trans k0, (c _ _ hG).trans k4, (c _ _ hG).trans k5, hb.trans (k.mono hs), Nat.le_trans hs k.size⟩
theorem below_drew (w : World) : Below w.heap.size w w.drew := (Below.refl _ _).drew
/-- A token's box. -/
def BoxAt (tb : Nat) (t : K.Tk) (av : Value) (W : World) : Prop :=
  W.cell? ⟨tb, 0, none⟩ = some (.int .i64 (t.kind : Int)) ∧ W.cell? ⟨tb, 1, none⟩ = some (.string (bs (U.n8 t.name))) ∧ W.cell? ⟨tb, 2, none⟩ = some av ∧ W.cell? ⟨tb, 3, none⟩ = some (.string (bs (U.n8 t.text))) ∧
  W.cell? ⟨tb, 4, none⟩ = some (.int .i64 (t.place.1 : Int)) ∧ W.cell? ⟨tb, 5, none⟩ = some (.int .i64 (t.place.2 : Int)) ∧ W.cell? ⟨tb, 6, none⟩ = some (.bool t.empty)
theorem box_new (t : K.Tk) (av : Value) (w W : World) (h : Below (w.heap.size + 1) (w.alloc (.cells #[.int .i64 (t.kind : Int), .string (bs (U.n8 t.name)), av, .string (bs (U.n8 t.text)), .int .i64 (t.place.1 : Int), .int .i64 (t.place.2 : Int), .bool t.empty] 38)) W) : BoxAt w.heap.size t av W := by
  have hn := (h.block w.heap.size (by omega)).trans (heap_new w (.cells #[.int .i64 (t.kind : Int), .string (bs (U.n8 t.name)), av, .string (bs (U.n8 t.text)), .int .i64 (t.place.1 : Int), .int .i64 (t.place.2 : Int), .bool t.empty] 38))
  refine ⟨?_, ?_, ?_, ?_, ?_, ?_, ?_⟩ <;> (rw [Lib.cell_of_heap hn]; rfl)
theorem n8_none : bs (U.n8 ([] : List Nat)) = ⟨#[]⟩ := rfl
theorem n8_isEmpty {l : List Nat} (h : l ≠ []) : (bs (U.n8 l)).toList.isEmpty = false := by
  cases l with
  | nil => exact absurd rfl h
  | cons c r => exact n8_some c r
theorem n8_ne {l : List Nat} (h : l ≠ []) : ¬ (bs (U.n8 l)).toList = [] := fun e => by
  have := n8_isEmpty h
  rw [e] at this
  cases this
theorem n8_isEmpty2 {l : List Nat} (h : l ≠ []) : ((bs (U.n8 l)).toList == []) = false := by
  have := n8_isEmpty h
  cases hh : (bs (U.n8 l)).toList with
  | nil => rw [hh] at this; cases this
  | cons a r => rfl

theorem at_next {ab lb NB : Nat} {v0 v2 v3 y0 y1 : Value} {wb X Y : World} (hA : ab < NB) (hL : lb < NB)
    (h : X.cell? ⟨ab, 0, none⟩ = some v0 ∧ X.cell? ⟨ab, 2, none⟩ = some v2 ∧ X.cell? ⟨ab, 3, none⟩ = some v3 ∧ X.cell? ⟨lb, 0, none⟩ = some y0 ∧ X.cell? ⟨lb, 1, none⟩ = some y1 ∧ Below NB wb X ∧ NB ≤ X.heap.size) (k : Below X.heap.size X Y) :
    Y.cell? ⟨ab, 0, none⟩ = some v0 ∧ Y.cell? ⟨ab, 2, none⟩ = some v2 ∧ Y.cell? ⟨ab, 3, none⟩ = some v3 ∧ Y.cell? ⟨lb, 0, none⟩ = some y0 ∧ Y.cell? ⟨lb, 1, none⟩ = some y1 ∧ Below NB wb Y ∧ NB ≤ Y.heap.size := by
  obtain ⟨h0, h2, h3, k0, k1, hb, hs⟩ := h
  have c : ∀ (b i : Nat), b < NB → Y.cell? ⟨b, i, none⟩ = X.cell? ⟨b, i, none⟩ := fun b i hb => k.cell (p := ⟨b, i, none⟩) (Nat.lt_of_lt_of_le hb hs)
  exact ⟨(c _ _ hA).trans h0, (c _ _ hA).trans h2, (c _ _ hA).trans h3, (c _ _ hL).trans k0, (c _ _ hL).trans k1, hb.trans (k.mono hs), Nat.le_trans hs k.size⟩
theorem place_cells2 {w : World} {k : Nat} {a b : Value} (h : w.heap[k]? = some (.cells #[a, b] 29 (0, 0))) : w.cell? ⟨k, 0, none⟩ = some a ∧ w.cell? ⟨k, 1, none⟩ = some b :=
  ⟨by rw [Lib.cell_of_heap h]; rfl, by rw [Lib.cell_of_heap h]; rfl⟩
theorem at_start (a : K.At) (q : K.Pl) (wy : World) (lb : Nat) (hq : wy.heap[lb]? = some (.cells #[.int .i64 (q.1 : Int), .int .i64 (q.2 : Int)] 29 (0, 0))) :
    (wy.alloc (.cells #[.string (bs (U.n8 a.1)), .string (bs (U.n8 a.2.1)), .int .i64 (a.2.2.1 : Int), .int .i64 (a.2.2.2 : Int)] 40)).cell? ⟨wy.heap.size, 0, none⟩ = some (.string (bs (U.n8 a.1))) ∧ (wy.alloc (.cells #[.string (bs (U.n8 a.1)), .string (bs (U.n8 a.2.1)), .int .i64 (a.2.2.1 : Int), .int .i64 (a.2.2.2 : Int)] 40)).cell? ⟨wy.heap.size, 2, none⟩ = some (.int .i64 (a.2.2.1 : Int)) ∧ (wy.alloc (.cells #[.string (bs (U.n8 a.1)), .string (bs (U.n8 a.2.1)), .int .i64 (a.2.2.1 : Int), .int .i64 (a.2.2.2 : Int)] 40)).cell? ⟨wy.heap.size, 3, none⟩ = some (.int .i64 (a.2.2.2 : Int)) ∧ (wy.alloc (.cells #[.string (bs (U.n8 a.1)), .string (bs (U.n8 a.2.1)), .int .i64 (a.2.2.1 : Int), .int .i64 (a.2.2.2 : Int)] 40)).cell? ⟨lb, 0, none⟩ = some (.int .i64 (q.1 : Int)) ∧ (wy.alloc (.cells #[.string (bs (U.n8 a.1)), .string (bs (U.n8 a.2.1)), .int .i64 (a.2.2.1 : Int), .int .i64 (a.2.2.2 : Int)] 40)).cell? ⟨lb, 1, none⟩ = some (.int .i64 (q.2 : Int)) ∧ Below (wy.heap.size + 1) (wy.alloc (.cells #[.string (bs (U.n8 a.1)), .string (bs (U.n8 a.2.1)), .int .i64 (a.2.2.1 : Int), .int .i64 (a.2.2.2 : Int)] 40)) (wy.alloc (.cells #[.string (bs (U.n8 a.1)), .string (bs (U.n8 a.2.1)), .int .i64 (a.2.2.1 : Int), .int .i64 (a.2.2.2 : Int)] 40)) ∧ wy.heap.size + 1 ≤ (wy.alloc (.cells #[.string (bs (U.n8 a.1)), .string (bs (U.n8 a.2.1)), .int .i64 (a.2.2.1 : Int), .int .i64 (a.2.2.2 : Int)] 40)).heap.size := by
  have hb : Below (wy.heap.size + 1) (wy.alloc (.cells #[.string (bs (U.n8 a.1)), .string (bs (U.n8 a.2.1)), .int .i64 (a.2.2.1 : Int), .int .i64 (a.2.2.2 : Int)] 40)) (wy.alloc (.cells #[.string (bs (U.n8 a.1)), .string (bs (U.n8 a.2.1)), .int .i64 (a.2.2.1 : Int), .int .i64 (a.2.2.2 : Int)] 40)) := Below.refl _ _
  have hn := (hb.block wy.heap.size (by omega)).trans (heap_new wy (.cells #[.string (bs (U.n8 a.1)), .string (bs (U.n8 a.2.1)), .int .i64 (a.2.2.1 : Int), .int .i64 (a.2.2.2 : Int)] 40))
  have hl := lt_of_heap hq
  have hk : Below wy.heap.size wy (wy.alloc (.cells #[.string (bs (U.n8 a.1)), .string (bs (U.n8 a.2.1)), .int .i64 (a.2.2.1 : Int), .int .i64 (a.2.2.2 : Int)] 40)) := (Below.refl _ _).alloc (Nat.le_refl _) _
  have hq2 := (hk.block lb hl).trans hq
  obtain ⟨z0, z1⟩ := place_cells2 hq2
  refine ⟨by rw [Lib.cell_of_heap hn]; rfl, by rw [Lib.cell_of_heap hn]; rfl, by rw [Lib.cell_of_heap hn]; rfl, z0, z1, hb, ?_⟩
  rw [heap_size]
  exact Nat.le_refl _
theorem attrs_len {l : List K.At} {p : Option Addr} {n c : Nat} {w : World} (h : AttrsIn l (.slice p n c) w) : n = l.length := by
  rcases h with ⟨h, rfl⟩ | ⟨g, cap, h, _⟩
  · cases h; rfl
  · cases h; rfl
set_option maxHeartbeats 16000000 in
set_option maxRecDepth 100000 in
theorem law_rises (d : List UInt8) (hs : d.length ≤ 140737488355328) (w : World) (hlow : Low w) (h12 : 12 ≤ w.heap.size) :
    Calls Tryz.prog 4 #[.string (bs d)] w fun e w' => e = .returned (.bool true) ∧ Below w.heap.size w w' := by
  have haw := awake_any w hlow h12
  have hsz := bs_size d
  by_cases hl : 3000 < d.length
  · have hgt : (3000 : Int) < ((bs d).size : Int) := by omega
    clear hlow
    go_enter Tryz.func4, Tryz.ntmps4
    go_wp2_with (go_at_call 8; refine haw.mono ?_; rintro e w1 ⟨rfl, hb1⟩)
    go_ret
    exact ⟨rfl, hb1⟩
  · have hle : ((bs d).size : Int) ≤ 3000 := by omega
    have hT : ∀ W, Below w.heap.size w W → Calls Tryz.prog 9 #[.string (bs d)] W (TokRet (K.tokens d) W) := fun W hW => tokens_any d hs W (hlow.below hW h12) (by have := hW.size; omega)
    cases hK : K.tokens d with
    | error er =>
      rw [hK] at hT
      have HT := Lib.hid hT
      clear hT hlow hK
      go_enter Tryz.func4, Tryz.ntmps4
      go_wp2_with (first
        | (go_at_call 8; refine haw.mono ?_; rintro e w1 ⟨rfl, hb1⟩; have HB1 := Lib.hid hb1; have k1 := HT.out _ hb1; clear hb1)
        | (go_at_call 9; refine k1.mono ?_; rintro e w2 ⟨fb, rfl, hf, hb2⟩; have HB2 := Lib.hid hb2; clear hb2 hf))
      go_ret
      exact ⟨rfl, HB1.out.trans (HB2.out.mono HB1.out.size)⟩
    | ok toks =>
      have hrise := tokens_rise hK
      rw [hK] at hT
      have HT := Lib.hid hT
      have HR := Lib.hid hrise
      clear hT hlow hK hrise
      go_enter Tryz.func4, Tryz.ntmps4
      go_wp2_with (first
        | (go_at_call 8; refine haw.mono ?_; rintro e w1 ⟨rfl, hb1⟩; have HB1 := Lib.hid hb1; have k1 := HT.out _ hb1; clear hb1)
        | (go_at_call 9; refine k1.mono ?_; rintro e w2 ⟨lv, rfl, hL, hb2⟩; obtain ⟨p0, n0, c0, rfl⟩ := hL.slice; have L0 := Lib.hid (list_in hL); have HB2 := Lib.hid (HB1.out.trans (hb2.mono HB1.out.size)); clear hb2 hL))
      rcases L0.out with ⟨hv, rfl⟩ | ⟨g, cap, hv, hc1, hc2, hgl, hca⟩
      · cases hv
        refine wp_loop_rounds 1 ?_
        rw [rounds_succ]
        go_wp2
        go_ret
        exact ⟨rfl, HB2.out⟩
      · cases hv
        obtain ⟨n, hn⟩ : ∃ n, toks.length = n := ⟨_, rfl⟩
        have HN := Lib.hid hn
        have HCA := Lib.hid hca
        rw [hn] at hc1 ⊢
        have hnl : n ≤ 9223372036854775807 := by unfold maxLen at hc2; omega
        clear hn hca L0
        go_loopg [27] n (fun gg iv wr => ∃ i : Nat, iv = .int .i64 (i : Int) ∧ n - i = gg ∧ i ≤ n ∧ Below w2.heap.size w2 wr)
        case atStart => exact ⟨0, rfl, rfl, Nat.zero_le _, Below.refl _ _⟩
        case round =>
          obtain ⟨i, rfl, hg, him, hbel⟩ := hrel
          have HBel := Lib.hid hbel
          by_cases hlt : i < n
          · have hla : i < toks.length := by have := HN.out; omega
            obtain ⟨t, ht⟩ : ∃ t, toks[i]? = some t := ⟨_, List.getElem?_eq_getElem hla⟩
            obtain ⟨ap, an, ac, hA, hC⟩ := HCA.out i t ht
            obtain ⟨x0, x1, x2, x3, x4, x5, x6⟩ := hC _ hbel
            have hgood := HR.out.good i t ht
            have hi2 : (i : Int) < (n : Int) := by omega
            have HG := Lib.hid hgood
            have HA := Lib.hid hA
            have HTI := Lib.hid ht
            have HBX := Lib.hid (box_new t (.slice ap an ac) wr)
            have hsz1 := heap_size wr (.cells #[.int .i64 (t.kind : Int), .string (bs (U.n8 t.name)), .slice ap an ac, .string (bs (U.n8 t.text)), .int .i64 (t.place.1 : Int), .int .i64 (t.place.2 : Int), .bool t.empty] 38)
            have HSZ := Lib.hid hsz1
            have hb0 := HBX.out _ (Below.refl _ _)
            obtain ⟨b0, b1, b2, b3, b4, b5, b6⟩ := hb0
            have hbw : Below w2.heap.size w2 (wr.alloc (.cells #[.int .i64 (t.kind : Int), .string (bs (U.n8 t.name)), .slice ap an ac, .string (bs (U.n8 t.text)), .int .i64 (t.place.1 : Int), .int .i64 (t.place.2 : Int), .bool t.empty] 38)) := hbel.alloc hbel.size _
            have HBW := Lib.hid hbw
            clear hA hC hgood hla hsz1 hbw ht hbel
            go_upto_region 11 with fail
            go_cut [59] (fun s59 wx => s59 = .bool false ∧ Below (wr.heap.size + 1) (wr.alloc (.cells #[.int .i64 (t.kind : Int), .string (bs (U.n8 t.name)), .slice ap an ac, .string (bs (U.n8 t.text)), .int .i64 (t.place.1 : Int), .int .i64 (t.place.2 : Int), .bool t.empty] 38)) wx)
            case first =>
              by_cases h0 : i = 0
              · have hd0 : decide (0 < i) = false := by rw [h0]; rfl
                clear h0
                go_quiet (fail)
                go_wp2
                go_meet
                exact ⟨rfl, drewN_below (Below.refl _ _)⟩
              · obtain ⟨j, hij⟩ : ∃ j, i = j + 1 := ⟨i - 1, by omega⟩
                have hd1 : decide (0 < i) = true := decide_eq_true (by omega)
                have hw1 : IntKind.i64.wrap ((i : Int) - 1) = (j : Int) := by
                  rw [show (i : Int) - 1 = (j : Int) by omega]
                  exact IntWalk.i64_in _ (by omega)
                have hj0 : (0 : Int) ≤ (j : Int) := by omega
                have hj2 : (j : Int) < (n : Int) := by omega
                obtain ⟨u, hu⟩ : ∃ u, toks[j]? = some u := ⟨_, List.getElem?_eq_getElem (by have := HN.out; omega)⟩
                obtain ⟨up, un, uc, _, hC2⟩ := HCA.out j u hu
                have hpl := HR.out.next j u t hu (by rw [← hij]; exact HTI.out)
                obtain ⟨y0, y1, y2, y3, y4, y5, y6⟩ := hC2 _ HBW.out.drew
                have hbh := behind_true t.place u.place hpl.1
                have hlt7 : g < wr.heap.size + 1 := by have := HBel.out.size; omega
                have hS0 : (wr.alloc (.cells #[.int .i64 (t.kind : Int), .string (bs (U.n8 t.name)), .slice ap an ac, .string (bs (U.n8 t.text)), .int .i64 (t.place.1 : Int), .int .i64 (t.place.2 : Int), .bool t.empty] 38)).drew.cell? ⟨wr.heap.size, 0, none⟩ = some (.int .i64 (t.kind : Int)) ∧ (wr.alloc (.cells #[.int .i64 (t.kind : Int), .string (bs (U.n8 t.name)), .slice ap an ac, .string (bs (U.n8 t.text)), .int .i64 (t.place.1 : Int), .int .i64 (t.place.2 : Int), .bool t.empty] 38)).drew.cell? ⟨wr.heap.size, 4, none⟩ = some (.int .i64 (t.place.1 : Int)) ∧ (wr.alloc (.cells #[.int .i64 (t.kind : Int), .string (bs (U.n8 t.name)), .slice ap an ac, .string (bs (U.n8 t.text)), .int .i64 (t.place.1 : Int), .int .i64 (t.place.2 : Int), .bool t.empty] 38)).drew.cell? ⟨wr.heap.size, 5, none⟩ = some (.int .i64 (t.place.2 : Int)) ∧ (wr.alloc (.cells #[.int .i64 (t.kind : Int), .string (bs (U.n8 t.name)), .slice ap an ac, .string (bs (U.n8 t.text)), .int .i64 (t.place.1 : Int), .int .i64 (t.place.2 : Int), .bool t.empty] 38)).drew.cell? ⟨g, j * 7, none⟩ = some (.int .i64 (u.kind : Int)) ∧ (wr.alloc (.cells #[.int .i64 (t.kind : Int), .string (bs (U.n8 t.name)), .slice ap an ac, .string (bs (U.n8 t.text)), .int .i64 (t.place.1 : Int), .int .i64 (t.place.2 : Int), .bool t.empty] 38)).drew.cell? ⟨g, j * 7 + 4, none⟩ = some (.int .i64 (u.place.1 : Int)) ∧ (wr.alloc (.cells #[.int .i64 (t.kind : Int), .string (bs (U.n8 t.name)), .slice ap an ac, .string (bs (U.n8 t.text)), .int .i64 (t.place.1 : Int), .int .i64 (t.place.2 : Int), .bool t.empty] 38)).drew.cell? ⟨g, j * 7 + 5, none⟩ = some (.int .i64 (u.place.2 : Int)) ∧ Below (wr.heap.size + 1) (wr.alloc (.cells #[.int .i64 (t.kind : Int), .string (bs (U.n8 t.name)), .slice ap an ac, .string (bs (U.n8 t.text)), .int .i64 (t.place.1 : Int), .int .i64 (t.place.2 : Int), .bool t.empty] 38)) (wr.alloc (.cells #[.int .i64 (t.kind : Int), .string (bs (U.n8 t.name)), .slice ap an ac, .string (bs (U.n8 t.text)), .int .i64 (t.place.1 : Int), .int .i64 (t.place.2 : Int), .bool t.empty] 38)).drew ∧ wr.heap.size + 1 ≤ (wr.alloc (.cells #[.int .i64 (t.kind : Int), .string (bs (U.n8 t.name)), .slice ap an ac, .string (bs (U.n8 t.text)), .int .i64 (t.place.1 : Int), .int .i64 (t.place.2 : Int), .bool t.empty] 38)).drew.heap.size := by
                  obtain ⟨b0, b1, b2, b3, b4, b5, b6⟩ := HBX.out _ (Below.refl _ _).drew
                  exact ⟨b0, b4, b5, y0, y4, y5, (Below.refl _ _).drew, by rw [show (wr.alloc (.cells #[.int .i64 (t.kind : Int), .string (bs (U.n8 t.name)), .slice ap an ac, .string (bs (U.n8 t.text)), .int .i64 (t.place.1 : Int), .int .i64 (t.place.2 : Int), .bool t.empty] 38)).drew.heap.size = (wr.alloc (.cells #[.int .i64 (t.kind : Int), .string (bs (U.n8 t.name)), .slice ap an ac, .string (bs (U.n8 t.text)), .int .i64 (t.place.1 : Int), .int .i64 (t.place.2 : Int), .bool t.empty] 38)).heap.size from rfl, HSZ.out]; exact Nat.le_refl _⟩
                have HS0 := Lib.hid hS0
                clear hij hS0 hu hC2 b0 b1 b2 b3 b4 b5 b6 y0 y1 y2 y3 y4 y5 y6
                by_cases hk : t.kind = 3
                · have hkt : ((t.kind : Int) == 3) = true := by rw [hk]; rfl
                  have hku : ((u.kind : Int) == 3) = false := by
                    rw [beq_eq_false_iff_ne]
                    intro e
                    exact hpl.2 ⟨by omega, hk⟩
                  have hun : ¬ u.kind = 3 := fun e => hpl.2 ⟨e, hk⟩
                  have F1t : (t.kind == 3) = true := by first | (rw [beq_eq_false_iff_ne]; omega) | (rw [beq_iff_eq]; omega)
                  have F2t : decide (t.kind = 3) = true := by first | exact decide_eq_false (by omega) | exact decide_eq_true (by omega)
                  have F3t : decide ((t.kind : Int) = 3) = true := by first | exact decide_eq_false (by omega) | exact decide_eq_true (by omega)
                  have F1u : (u.kind == 3) = false := by first | (rw [beq_eq_false_iff_ne]; omega) | (rw [beq_iff_eq]; omega)
                  have F2u : decide (u.kind = 3) = false := by first | exact decide_eq_false (by omega) | exact decide_eq_true (by omega)
                  have F3u : decide ((u.kind : Int) = 3) = false := by first | exact decide_eq_false (by omega) | exact decide_eq_true (by omega)
                  clear hk hpl hun
                  go_region_held3 (fun w' => w'.cell? ⟨wr.heap.size, 0, none⟩ = some (.int .i64 (t.kind : Int)) ∧ w'.cell? ⟨wr.heap.size, 4, none⟩ = some (.int .i64 (t.place.1 : Int)) ∧ w'.cell? ⟨wr.heap.size, 5, none⟩ = some (.int .i64 (t.place.2 : Int)) ∧ w'.cell? ⟨g, j * 7, none⟩ = some (.int .i64 (u.kind : Int)) ∧ w'.cell? ⟨g, j * 7 + 4, none⟩ = some (.int .i64 (u.place.1 : Int)) ∧ w'.cell? ⟨g, j * 7 + 5, none⟩ = some (.int .i64 (u.place.2 : Int)) ∧ Below (wr.heap.size + 1) (wr.alloc (.cells #[.int .i64 (t.kind : Int), .string (bs (U.n8 t.name)), .slice ap an ac, .string (bs (U.n8 t.text)), .int .i64 (t.place.1 : Int), .int .i64 (t.place.2 : Int), .bool t.empty] 38)) w' ∧ wr.heap.size + 1 ≤ w'.heap.size)
                          (first | exact HS0.out | exact rs_next (Nat.lt_succ_self _) hlt7 (by assumption) (by assumption))
                          (first | (go_at_call 13; refine (hbh _).mono ?_; rintro e w' ⟨rfl, hb13⟩))
                  all_goals (go_wp2; go_meet; refine ⟨rfl, ?_⟩; go_split_ands; assumption)
                · rcases HG.out.kind with hk1 | hk1 | hk1
                  · have HSK := Lib.hid (And.intro (HS0.out.1.trans (by rw [hk1]; rfl : some (Value.int .i64 (t.kind : Int)) = some (Value.int .i64 1))) HS0.out.2)
                    clear HS0 hk hpl hk1
                    refine wp_region_noPanic ?_
                    refine wp_region_held_drew (S := (fun w' => w'.cell? ⟨wr.heap.size, 0, none⟩ = some (.int .i64 1) ∧ w'.cell? ⟨wr.heap.size, 4, none⟩ = some (.int .i64 (t.place.1 : Int)) ∧ w'.cell? ⟨wr.heap.size, 5, none⟩ = some (.int .i64 (t.place.2 : Int)) ∧ w'.cell? ⟨g, j * 7, none⟩ = some (.int .i64 (u.kind : Int)) ∧ w'.cell? ⟨g, j * 7 + 4, none⟩ = some (.int .i64 (u.place.1 : Int)) ∧ w'.cell? ⟨g, j * 7 + 5, none⟩ = some (.int .i64 (u.place.2 : Int)) ∧ Below (wr.heap.size + 1) (wr.alloc (.cells #[.int .i64 (t.kind : Int), .string (bs (U.n8 t.name)), .slice ap an ac, .string (bs (U.n8 t.text)), .int .i64 (t.place.1 : Int), .int .i64 (t.place.2 : Int), .bool t.empty] 38)) w' ∧ wr.heap.size + 1 ≤ w'.heap.size)) (by kernel_rfl) ?_ (fun hHeld => ?_)
                    · (try dsimp only); exact HSK.out
                    refine' wpAnyH_take (i := 0) (oi := _) (v := _) ?hi1x0 (by kernel_rfl) (by kernel_rfl) (by kernel_rfl) (fun _ _ _ h => h) ?hy1x0 (by assumption) ?rs1x0
                    case hi1x0 => simp only [List.getElem?_toArray, List.getElem?_cons_succ, List.getElem?_cons_zero]; exact rfl
                    case hy1x0 => refine Or.inl ⟨by rfl, ?_⟩; intro w hSw; (try dsimp only at hSw); go_simp; first | done | with_reducible rfl
                    (try simp only [Act.put, List.setIfInBounds_toArray, List.set_cons_zero, List.set_cons_succ])
                    refine' wpAnyH_take (i := 1) (oi := _) (v := _) ?hi1x1 (by kernel_rfl) (by kernel_rfl) (by kernel_rfl) (fun _ _ _ h => h) ?hy1x1 (by assumption) ?rs1x1
                    case hi1x1 => simp only [List.getElem?_toArray, List.getElem?_cons_succ, List.getElem?_cons_zero]; exact rfl
                    case hy1x1 => refine Or.inl ⟨by rfl, ?_⟩; intro w hSw; (try dsimp only at hSw); go_simp; first | done | with_reducible rfl
                    (try simp only [Act.put, List.setIfInBounds_toArray, List.set_cons_zero, List.set_cons_succ])
                    refine' wpAnyH_take (i := 2) (oi := _) (v := _) ?hi1x2 (by kernel_rfl) (by kernel_rfl) (by kernel_rfl) (fun _ _ _ h => h) ?hy1x2 (by assumption) ?rs1x2
                    case hi1x2 => simp only [List.getElem?_toArray, List.getElem?_cons_succ, List.getElem?_cons_zero]; exact rfl
                    case hy1x2 => refine Or.inl ⟨by rfl, ?_⟩; intro w hSw; (try dsimp only at hSw); go_simp; first | done | with_reducible rfl
                    (try simp only [Act.put, List.setIfInBounds_toArray, List.set_cons_zero, List.set_cons_succ])
                    refine' wpAnyH_take (i := 3) (oi := _) (v := _) ?hi1x3 (by kernel_rfl) (by kernel_rfl) (by kernel_rfl) (fun _ _ _ h => h) ?hy1x3 (by assumption) ?rs1x3
                    case hi1x3 => simp only [List.getElem?_toArray, List.getElem?_cons_succ, List.getElem?_cons_zero]; exact rfl
                    case hy1x3 => refine Or.inl ⟨by rfl, ?_⟩; intro w hSw; (try dsimp only at hSw); go_simp; first | done | with_reducible rfl
                    (try simp only [Act.put, List.setIfInBounds_toArray, List.set_cons_zero, List.set_cons_succ])
                    refine' wpAnyH_take (i := 4) (oi := _) (v := _) ?hi1x4 (by kernel_rfl) (by kernel_rfl) (by kernel_rfl) (fun _ _ _ h => h) ?hy1x4 (by assumption) ?rs1x4
                    case hi1x4 => simp only [List.getElem?_toArray, List.getElem?_cons_succ, List.getElem?_cons_zero]; exact rfl
                    case hy1x4 => refine Or.inl ⟨by rfl, ?_⟩; intro w hSw; (try dsimp only at hSw); go_simp; first | done | with_reducible rfl
                    (try simp only [Act.put, List.setIfInBounds_toArray, List.set_cons_zero, List.set_cons_succ])
                    refine' wpAnyH_take (i := 5) (oi := _) (v := _) ?hi1x5 (by kernel_rfl) (by kernel_rfl) (by kernel_rfl) (fun _ _ _ h => h) ?hy1x5 (by assumption) ?rs1x5
                    case hi1x5 => simp only [List.getElem?_toArray, List.getElem?_cons_succ, List.getElem?_cons_zero]; exact rfl
                    case hy1x5 => refine Or.inl ⟨by rfl, ?_⟩; intro w hSw; (try dsimp only at hSw); go_simp; first | done | with_reducible rfl
                    (try simp only [Act.put, List.setIfInBounds_toArray, List.set_cons_zero, List.set_cons_succ])
                    refine' wpAnyH_take (i := 6) (oi := _) (v := _) ?hi1x6 (by kernel_rfl) (by kernel_rfl) (by kernel_rfl) (fun _ _ _ h => h) ?hy1x6 (by assumption) ?rs1x6
                    case hi1x6 => simp only [List.getElem?_toArray, List.getElem?_cons_succ, List.getElem?_cons_zero]; exact rfl
                    case hy1x6 => refine Or.inl ⟨by rfl, ?_⟩; intro w hSw; (try dsimp only at hSw); go_simp; first | done | with_reducible rfl
                    (try simp only [Act.put, List.setIfInBounds_toArray, List.set_cons_zero, List.set_cons_succ])
                    refine' wpAnyH_take (i := 7) (oi := _) (v := _) ?hi1x7 (by kernel_rfl) (by kernel_rfl) (by kernel_rfl) (fun _ _ _ h => h) ?hy1x7 (by assumption) ?rs1x7
                    case hi1x7 => simp only [List.getElem?_toArray, List.getElem?_cons_succ, List.getElem?_cons_zero]; exact rfl
                    case hy1x7 => refine Or.inl ⟨by rfl, ?_⟩; intro w hSw; (try dsimp only at hSw); go_simp; first | done | with_reducible rfl
                    (try simp only [Act.put, List.setIfInBounds_toArray, List.set_cons_zero, List.set_cons_succ])
                    refine' wpAnyH_take (i := 8) (oi := _) (v := _) ?hi1x8 (by kernel_rfl) (by kernel_rfl) (by kernel_rfl) (fun _ _ _ h => h) ?hy1x8 (by assumption) ?rs1x8
                    case hi1x8 => simp only [List.getElem?_toArray, List.getElem?_cons_succ, List.getElem?_cons_zero]; exact rfl
                    case hy1x8 => refine Or.inl ⟨by rfl, ?_⟩; intro w hSw; (try dsimp only at hSw); go_simp; first | done | with_reducible rfl
                    (try simp only [Act.put, List.setIfInBounds_toArray, List.set_cons_zero, List.set_cons_succ])
                    refine' wpAnyH_take (i := 9) (oi := _) (v := _) ?hi1x9 (by kernel_rfl) (by kernel_rfl) (by kernel_rfl) (fun _ _ _ h => h) ?hy1x9 (by assumption) ?rs1x9
                    case hi1x9 => simp only [List.getElem?_toArray, List.getElem?_cons_succ, List.getElem?_cons_zero]; exact rfl
                    case hy1x9 => refine Or.inl ⟨by rfl, ?_⟩; intro w hSw; (try dsimp only at hSw); go_simp; first | done | with_reducible rfl
                    (try simp only [Act.put, List.setIfInBounds_toArray, List.set_cons_zero, List.set_cons_succ])
                    refine' wpAnyH_take (i := 10) (oi := _) (v := _) ?hi1x10 (by kernel_rfl) (by kernel_rfl) (by kernel_rfl) (fun _ _ _ h => h) ?hy1x10 (by assumption) ?rs1x10
                    case hi1x10 => simp only [List.getElem?_toArray, List.getElem?_cons_succ, List.getElem?_cons_zero]; exact rfl
                    case hy1x10 => refine Or.inl ⟨by rfl, ?_⟩; intro w hSw; (try dsimp only at hSw); go_simp; first | done | with_reducible rfl
                    (try simp only [Act.put, List.setIfInBounds_toArray, List.set_cons_zero, List.set_cons_succ])
                    refine wpAnyH_ready (rs := [11]) (by kernel_rfl) (by simp) ?_
                    refine' AllReadyH.cons (o := _) ?ho1 (fun K hK => ?step1) AllReadyH.nil
                    case ho1 => simp only [List.getElem?_toArray, List.getElem?_cons_succ, List.getElem?_cons_zero]; exact rfl
                    go_simp
                    go_at_call 13
                    refine (hbh _).mono ?_
                    rintro e w' ⟨rfl, hb13⟩
                    (try go_wp2_with fail)
                    refine hK.out _ _ ?_ (fun hHeld2 => ?_)
                    · (try dsimp only); exact rs_next (Nat.lt_succ_self _) hlt7 hHeld hb13
                    clear hK K hHeld
                    (try simp only [Act.put, List.setIfInBounds_toArray, List.set_cons_zero, List.set_cons_succ])
                    refine' wpAnyH_take (i := 12) (oi := _) (v := _) ?hi1x12 (by kernel_rfl) (by kernel_rfl) (by kernel_rfl) (fun _ _ _ h => h) ?hy1x12 (by assumption) ?rs1x12
                    case hi1x12 => simp only [List.getElem?_toArray, List.getElem?_cons_succ, List.getElem?_cons_zero]; exact rfl
                    case hy1x12 => refine Or.inl ⟨by rfl, ?_⟩; intro w hSw; (try dsimp only at hSw); go_simp; first | done | with_reducible rfl
                    (try simp only [Act.put, List.setIfInBounds_toArray, List.set_cons_zero, List.set_cons_succ])
                    refine' wpAnyH_take (i := 13) (oi := _) (v := _) ?hi1x13 (by kernel_rfl) (by kernel_rfl) (by kernel_rfl) (fun _ _ _ h => h) ?hy1x13 (by assumption) ?rs1x13
                    case hi1x13 => simp only [List.getElem?_toArray, List.getElem?_cons_succ, List.getElem?_cons_zero]; exact rfl
                    case hy1x13 => refine Or.inl ⟨by rfl, ?_⟩; intro w hSw; (try dsimp only at hSw); go_simp; first | done | with_reducible rfl
                    (try simp only [Act.put, List.setIfInBounds_toArray, List.set_cons_zero, List.set_cons_succ])
                    refine' wpAnyH_take (i := 14) (oi := _) (v := _) ?hi1x14 (by kernel_rfl) (by kernel_rfl) (by kernel_rfl) (fun _ _ _ h => h) ?hy1x14 (by assumption) ?rs1x14
                    case hi1x14 => simp only [List.getElem?_toArray, List.getElem?_cons_succ, List.getElem?_cons_zero]; exact rfl
                    case hy1x14 => refine Or.inl ⟨by rfl, ?_⟩; intro w hSw; (try dsimp only at hSw); go_simp; first | done | with_reducible rfl
                    (try simp only [Act.put, List.setIfInBounds_toArray, List.set_cons_zero, List.set_cons_succ])
                    refine' wpAnyH_take (i := 15) (oi := _) (v := _) ?hi1x15 (by kernel_rfl) (by kernel_rfl) (by kernel_rfl) (fun _ _ _ h => h) ?hy1x15 (by assumption) ?rs1x15
                    case hi1x15 => simp only [List.getElem?_toArray, List.getElem?_cons_succ, List.getElem?_cons_zero]; exact rfl
                    case hy1x15 => refine Or.inl ⟨by rfl, ?_⟩; intro w hSw; (try dsimp only at hSw); go_simp; first | done | with_reducible rfl
                    (try simp only [Act.put, List.setIfInBounds_toArray, List.set_cons_zero, List.set_cons_succ])
                    refine' wpAnyH_take (i := 16) (oi := _) (v := _) ?hi1x16 (by kernel_rfl) (by kernel_rfl) (by kernel_rfl) (fun _ _ _ h => h) ?hy1x16 (by assumption) ?rs1x16
                    case hi1x16 => simp only [List.getElem?_toArray, List.getElem?_cons_succ, List.getElem?_cons_zero]; exact rfl
                    case hy1x16 => refine Or.inl ⟨by rfl, ?_⟩; intro w hSw; (try dsimp only at hSw); go_simp; first | done | with_reducible rfl
                    (try simp only [Act.put, List.setIfInBounds_toArray, List.set_cons_zero, List.set_cons_succ])
                    refine' wpAnyH_take (i := 17) (oi := _) (v := _) ?hi1x17 (by kernel_rfl) (by kernel_rfl) (by kernel_rfl) (fun _ _ _ h => h) ?hy1x17 (by assumption) ?rs1x17
                    case hi1x17 => simp only [List.getElem?_toArray, List.getElem?_cons_succ, List.getElem?_cons_zero]; exact rfl
                    case hy1x17 => refine Or.inl ⟨by rfl, ?_⟩; intro w hSw; (try dsimp only at hSw); go_simp; first | done | with_reducible rfl
                    (try simp only [Act.put, List.setIfInBounds_toArray, List.set_cons_zero, List.set_cons_succ])
                    refine' wpAnyH_take (i := 18) (oi := _) (v := undef) ?hi1x18 (by kernel_rfl) (by kernel_rfl) (by kernel_rfl) (fun _ _ _ h => h) ?hy1x18 (by assumption) ?rs1x18
                    case hi1x18 => simp only [List.getElem?_toArray, List.getElem?_cons_succ, List.getElem?_cons_zero]; exact rfl
                    case hy1x18 => exact Or.inr ⟨by rfl, rfl⟩
                    (try simp only [Act.put, List.setIfInBounds_toArray, List.set_cons_zero, List.set_cons_succ])
                    refine' wpAnyH_take (i := 19) (oi := _) (v := undef) ?hi1x19 (by kernel_rfl) (by kernel_rfl) (by kernel_rfl) (fun _ _ _ h => h) ?hy1x19 (by assumption) ?rs1x19
                    case hi1x19 => simp only [List.getElem?_toArray, List.getElem?_cons_succ, List.getElem?_cons_zero]; exact rfl
                    case hy1x19 => exact Or.inr ⟨by rfl, rfl⟩
                    (try simp only [Act.put, List.setIfInBounds_toArray, List.set_cons_zero, List.set_cons_succ])
                    refine' wpAnyH_take (i := 20) (oi := _) (v := undef) ?hi1x20 (by kernel_rfl) (by kernel_rfl) (by kernel_rfl) (fun _ _ _ h => h) ?hy1x20 (by assumption) ?rs1x20
                    case hi1x20 => simp only [List.getElem?_toArray, List.getElem?_cons_succ, List.getElem?_cons_zero]; exact rfl
                    case hy1x20 => exact Or.inr ⟨by rfl, rfl⟩
                    (try simp only [Act.put, List.setIfInBounds_toArray, List.set_cons_zero, List.set_cons_succ])
                    refine' wpAnyH_take (i := 21) (oi := _) (v := undef) ?hi1x21 (by kernel_rfl) (by kernel_rfl) (by kernel_rfl) (fun _ _ _ h => h) ?hy1x21 (by assumption) ?rs1x21
                    case hi1x21 => simp only [List.getElem?_toArray, List.getElem?_cons_succ, List.getElem?_cons_zero]; exact rfl
                    case hy1x21 => exact Or.inr ⟨by rfl, rfl⟩
                    (try simp only [Act.put, List.setIfInBounds_toArray, List.set_cons_zero, List.set_cons_succ])
                    refine' wpAnyH_take (i := 22) (oi := _) (v := undef) ?hi1x22 (by kernel_rfl) (by kernel_rfl) (by kernel_rfl) (fun _ _ _ h => h) ?hy1x22 (by assumption) ?rs1x22
                    case hi1x22 => simp only [List.getElem?_toArray, List.getElem?_cons_succ, List.getElem?_cons_zero]; exact rfl
                    case hy1x22 => exact Or.inr ⟨by rfl, rfl⟩
                    (try simp only [Act.put, List.setIfInBounds_toArray, List.set_cons_zero, List.set_cons_succ])
                    refine' wpAnyH_take (i := 23) (oi := _) (v := undef) ?hi1x23 (by kernel_rfl) (by kernel_rfl) (by kernel_rfl) (fun _ _ _ h => h) ?hy1x23 (by assumption) ?rs1x23
                    case hi1x23 => simp only [List.getElem?_toArray, List.getElem?_cons_succ, List.getElem?_cons_zero]; exact rfl
                    case hy1x23 => exact Or.inr ⟨by rfl, rfl⟩
                    (try simp only [Act.put, List.setIfInBounds_toArray, List.set_cons_zero, List.set_cons_succ])
                    refine' wpAnyH_take (i := 24) (oi := _) (v := undef) ?hi1x24 (by kernel_rfl) (by kernel_rfl) (by kernel_rfl) (fun _ _ _ h => h) ?hy1x24 (by assumption) ?rs1x24
                    case hi1x24 => simp only [List.getElem?_toArray, List.getElem?_cons_succ, List.getElem?_cons_zero]; exact rfl
                    case hy1x24 => exact Or.inr ⟨by rfl, rfl⟩
                    (try simp only [Act.put, List.setIfInBounds_toArray, List.set_cons_zero, List.set_cons_succ])
                    refine' wpAnyH_take (i := 25) (oi := _) (v := _) ?hi1x25 (by kernel_rfl) (by kernel_rfl) (by kernel_rfl) (fun _ _ _ h => h) ?hy1x25 (by assumption) ?rs1x25
                    case hi1x25 => simp only [List.getElem?_toArray, List.getElem?_cons_succ, List.getElem?_cons_zero]; exact rfl
                    case hy1x25 => refine Or.inl ⟨by rfl, ?_⟩; intro w hSw; (try dsimp only at hSw); go_simp; first | done | with_reducible rfl
                    (try simp only [Act.put, List.setIfInBounds_toArray, List.set_cons_zero, List.set_cons_succ])
                    refine' wpAnyH_take (i := 26) (oi := _) (v := _) ?hi1x26 (by kernel_rfl) (by kernel_rfl) (by kernel_rfl) (fun _ _ _ h => h) ?hy1x26 (by assumption) ?rs1x26
                    case hi1x26 => simp only [List.getElem?_toArray, List.getElem?_cons_succ, List.getElem?_cons_zero]; exact rfl
                    case hy1x26 => refine Or.inl ⟨by rfl, ?_⟩; intro w hSw; (try dsimp only at hSw); go_simp; first | done | with_reducible rfl
                    (try simp only [Act.put, List.setIfInBounds_toArray, List.set_cons_zero, List.set_cons_succ])
                    refine' wpAnyH_take (i := 27) (oi := _) (v := _) ?hi1x27 (by kernel_rfl) (by kernel_rfl) (by kernel_rfl) (fun _ _ _ h => h) ?hy1x27 (by assumption) ?rs1x27
                    case hi1x27 => simp only [List.getElem?_toArray, List.getElem?_cons_succ, List.getElem?_cons_zero]; exact rfl
                    case hy1x27 => refine Or.inl ⟨by rfl, ?_⟩; intro w hSw; (try dsimp only at hSw); go_simp; first | done | with_reducible rfl
                    (try simp only [Act.put, List.setIfInBounds_toArray, List.set_cons_zero, List.set_cons_succ])
                    refine wpAnyH_done (by kernel_rfl) ?_ _
                    refine NoPanic.normal ?_
                    all_goals (go_wp2; go_meet; refine ⟨rfl, ?_⟩; go_split_ands; assumption)
                  · have HSK := Lib.hid (And.intro (HS0.out.1.trans (by rw [hk1]; rfl : some (Value.int .i64 (t.kind : Int)) = some (Value.int .i64 2))) HS0.out.2)
                    clear HS0 hk hpl hk1
                    refine wp_region_noPanic ?_
                    refine wp_region_held_drew (S := (fun w' => w'.cell? ⟨wr.heap.size, 0, none⟩ = some (.int .i64 2) ∧ w'.cell? ⟨wr.heap.size, 4, none⟩ = some (.int .i64 (t.place.1 : Int)) ∧ w'.cell? ⟨wr.heap.size, 5, none⟩ = some (.int .i64 (t.place.2 : Int)) ∧ w'.cell? ⟨g, j * 7, none⟩ = some (.int .i64 (u.kind : Int)) ∧ w'.cell? ⟨g, j * 7 + 4, none⟩ = some (.int .i64 (u.place.1 : Int)) ∧ w'.cell? ⟨g, j * 7 + 5, none⟩ = some (.int .i64 (u.place.2 : Int)) ∧ Below (wr.heap.size + 1) (wr.alloc (.cells #[.int .i64 (t.kind : Int), .string (bs (U.n8 t.name)), .slice ap an ac, .string (bs (U.n8 t.text)), .int .i64 (t.place.1 : Int), .int .i64 (t.place.2 : Int), .bool t.empty] 38)) w' ∧ wr.heap.size + 1 ≤ w'.heap.size)) (by kernel_rfl) ?_ (fun hHeld => ?_)
                    · (try dsimp only); exact HSK.out
                    refine' wpAnyH_take (i := 0) (oi := _) (v := _) ?hi2x0 (by kernel_rfl) (by kernel_rfl) (by kernel_rfl) (fun _ _ _ h => h) ?hy2x0 (by assumption) ?rs2x0
                    case hi2x0 => simp only [List.getElem?_toArray, List.getElem?_cons_succ, List.getElem?_cons_zero]; exact rfl
                    case hy2x0 => refine Or.inl ⟨by rfl, ?_⟩; intro w hSw; (try dsimp only at hSw); go_simp; first | done | with_reducible rfl
                    (try simp only [Act.put, List.setIfInBounds_toArray, List.set_cons_zero, List.set_cons_succ])
                    refine' wpAnyH_take (i := 1) (oi := _) (v := _) ?hi2x1 (by kernel_rfl) (by kernel_rfl) (by kernel_rfl) (fun _ _ _ h => h) ?hy2x1 (by assumption) ?rs2x1
                    case hi2x1 => simp only [List.getElem?_toArray, List.getElem?_cons_succ, List.getElem?_cons_zero]; exact rfl
                    case hy2x1 => refine Or.inl ⟨by rfl, ?_⟩; intro w hSw; (try dsimp only at hSw); go_simp; first | done | with_reducible rfl
                    (try simp only [Act.put, List.setIfInBounds_toArray, List.set_cons_zero, List.set_cons_succ])
                    refine' wpAnyH_take (i := 2) (oi := _) (v := _) ?hi2x2 (by kernel_rfl) (by kernel_rfl) (by kernel_rfl) (fun _ _ _ h => h) ?hy2x2 (by assumption) ?rs2x2
                    case hi2x2 => simp only [List.getElem?_toArray, List.getElem?_cons_succ, List.getElem?_cons_zero]; exact rfl
                    case hy2x2 => refine Or.inl ⟨by rfl, ?_⟩; intro w hSw; (try dsimp only at hSw); go_simp; first | done | with_reducible rfl
                    (try simp only [Act.put, List.setIfInBounds_toArray, List.set_cons_zero, List.set_cons_succ])
                    refine' wpAnyH_take (i := 3) (oi := _) (v := _) ?hi2x3 (by kernel_rfl) (by kernel_rfl) (by kernel_rfl) (fun _ _ _ h => h) ?hy2x3 (by assumption) ?rs2x3
                    case hi2x3 => simp only [List.getElem?_toArray, List.getElem?_cons_succ, List.getElem?_cons_zero]; exact rfl
                    case hy2x3 => refine Or.inl ⟨by rfl, ?_⟩; intro w hSw; (try dsimp only at hSw); go_simp; first | done | with_reducible rfl
                    (try simp only [Act.put, List.setIfInBounds_toArray, List.set_cons_zero, List.set_cons_succ])
                    refine' wpAnyH_take (i := 4) (oi := _) (v := _) ?hi2x4 (by kernel_rfl) (by kernel_rfl) (by kernel_rfl) (fun _ _ _ h => h) ?hy2x4 (by assumption) ?rs2x4
                    case hi2x4 => simp only [List.getElem?_toArray, List.getElem?_cons_succ, List.getElem?_cons_zero]; exact rfl
                    case hy2x4 => refine Or.inl ⟨by rfl, ?_⟩; intro w hSw; (try dsimp only at hSw); go_simp; first | done | with_reducible rfl
                    (try simp only [Act.put, List.setIfInBounds_toArray, List.set_cons_zero, List.set_cons_succ])
                    refine' wpAnyH_take (i := 5) (oi := _) (v := _) ?hi2x5 (by kernel_rfl) (by kernel_rfl) (by kernel_rfl) (fun _ _ _ h => h) ?hy2x5 (by assumption) ?rs2x5
                    case hi2x5 => simp only [List.getElem?_toArray, List.getElem?_cons_succ, List.getElem?_cons_zero]; exact rfl
                    case hy2x5 => refine Or.inl ⟨by rfl, ?_⟩; intro w hSw; (try dsimp only at hSw); go_simp; first | done | with_reducible rfl
                    (try simp only [Act.put, List.setIfInBounds_toArray, List.set_cons_zero, List.set_cons_succ])
                    refine' wpAnyH_take (i := 6) (oi := _) (v := _) ?hi2x6 (by kernel_rfl) (by kernel_rfl) (by kernel_rfl) (fun _ _ _ h => h) ?hy2x6 (by assumption) ?rs2x6
                    case hi2x6 => simp only [List.getElem?_toArray, List.getElem?_cons_succ, List.getElem?_cons_zero]; exact rfl
                    case hy2x6 => refine Or.inl ⟨by rfl, ?_⟩; intro w hSw; (try dsimp only at hSw); go_simp; first | done | with_reducible rfl
                    (try simp only [Act.put, List.setIfInBounds_toArray, List.set_cons_zero, List.set_cons_succ])
                    refine' wpAnyH_take (i := 7) (oi := _) (v := _) ?hi2x7 (by kernel_rfl) (by kernel_rfl) (by kernel_rfl) (fun _ _ _ h => h) ?hy2x7 (by assumption) ?rs2x7
                    case hi2x7 => simp only [List.getElem?_toArray, List.getElem?_cons_succ, List.getElem?_cons_zero]; exact rfl
                    case hy2x7 => refine Or.inl ⟨by rfl, ?_⟩; intro w hSw; (try dsimp only at hSw); go_simp; first | done | with_reducible rfl
                    (try simp only [Act.put, List.setIfInBounds_toArray, List.set_cons_zero, List.set_cons_succ])
                    refine' wpAnyH_take (i := 8) (oi := _) (v := _) ?hi2x8 (by kernel_rfl) (by kernel_rfl) (by kernel_rfl) (fun _ _ _ h => h) ?hy2x8 (by assumption) ?rs2x8
                    case hi2x8 => simp only [List.getElem?_toArray, List.getElem?_cons_succ, List.getElem?_cons_zero]; exact rfl
                    case hy2x8 => refine Or.inl ⟨by rfl, ?_⟩; intro w hSw; (try dsimp only at hSw); go_simp; first | done | with_reducible rfl
                    (try simp only [Act.put, List.setIfInBounds_toArray, List.set_cons_zero, List.set_cons_succ])
                    refine' wpAnyH_take (i := 9) (oi := _) (v := _) ?hi2x9 (by kernel_rfl) (by kernel_rfl) (by kernel_rfl) (fun _ _ _ h => h) ?hy2x9 (by assumption) ?rs2x9
                    case hi2x9 => simp only [List.getElem?_toArray, List.getElem?_cons_succ, List.getElem?_cons_zero]; exact rfl
                    case hy2x9 => refine Or.inl ⟨by rfl, ?_⟩; intro w hSw; (try dsimp only at hSw); go_simp; first | done | with_reducible rfl
                    (try simp only [Act.put, List.setIfInBounds_toArray, List.set_cons_zero, List.set_cons_succ])
                    refine' wpAnyH_take (i := 10) (oi := _) (v := _) ?hi2x10 (by kernel_rfl) (by kernel_rfl) (by kernel_rfl) (fun _ _ _ h => h) ?hy2x10 (by assumption) ?rs2x10
                    case hi2x10 => simp only [List.getElem?_toArray, List.getElem?_cons_succ, List.getElem?_cons_zero]; exact rfl
                    case hy2x10 => refine Or.inl ⟨by rfl, ?_⟩; intro w hSw; (try dsimp only at hSw); go_simp; first | done | with_reducible rfl
                    (try simp only [Act.put, List.setIfInBounds_toArray, List.set_cons_zero, List.set_cons_succ])
                    refine wpAnyH_ready (rs := [11]) (by kernel_rfl) (by simp) ?_
                    refine' AllReadyH.cons (o := _) ?ho2 (fun K hK => ?step2) AllReadyH.nil
                    case ho2 => simp only [List.getElem?_toArray, List.getElem?_cons_succ, List.getElem?_cons_zero]; exact rfl
                    go_simp
                    go_at_call 13
                    refine (hbh _).mono ?_
                    rintro e w' ⟨rfl, hb13⟩
                    (try go_wp2_with fail)
                    refine hK.out _ _ ?_ (fun hHeld2 => ?_)
                    · (try dsimp only); exact rs_next (Nat.lt_succ_self _) hlt7 hHeld hb13
                    clear hK K hHeld
                    (try simp only [Act.put, List.setIfInBounds_toArray, List.set_cons_zero, List.set_cons_succ])
                    refine' wpAnyH_take (i := 12) (oi := _) (v := _) ?hi2x12 (by kernel_rfl) (by kernel_rfl) (by kernel_rfl) (fun _ _ _ h => h) ?hy2x12 (by assumption) ?rs2x12
                    case hi2x12 => simp only [List.getElem?_toArray, List.getElem?_cons_succ, List.getElem?_cons_zero]; exact rfl
                    case hy2x12 => refine Or.inl ⟨by rfl, ?_⟩; intro w hSw; (try dsimp only at hSw); go_simp; first | done | with_reducible rfl
                    (try simp only [Act.put, List.setIfInBounds_toArray, List.set_cons_zero, List.set_cons_succ])
                    refine' wpAnyH_take (i := 13) (oi := _) (v := _) ?hi2x13 (by kernel_rfl) (by kernel_rfl) (by kernel_rfl) (fun _ _ _ h => h) ?hy2x13 (by assumption) ?rs2x13
                    case hi2x13 => simp only [List.getElem?_toArray, List.getElem?_cons_succ, List.getElem?_cons_zero]; exact rfl
                    case hy2x13 => refine Or.inl ⟨by rfl, ?_⟩; intro w hSw; (try dsimp only at hSw); go_simp; first | done | with_reducible rfl
                    (try simp only [Act.put, List.setIfInBounds_toArray, List.set_cons_zero, List.set_cons_succ])
                    refine' wpAnyH_take (i := 14) (oi := _) (v := _) ?hi2x14 (by kernel_rfl) (by kernel_rfl) (by kernel_rfl) (fun _ _ _ h => h) ?hy2x14 (by assumption) ?rs2x14
                    case hi2x14 => simp only [List.getElem?_toArray, List.getElem?_cons_succ, List.getElem?_cons_zero]; exact rfl
                    case hy2x14 => refine Or.inl ⟨by rfl, ?_⟩; intro w hSw; (try dsimp only at hSw); go_simp; first | done | with_reducible rfl
                    (try simp only [Act.put, List.setIfInBounds_toArray, List.set_cons_zero, List.set_cons_succ])
                    refine' wpAnyH_take (i := 15) (oi := _) (v := _) ?hi2x15 (by kernel_rfl) (by kernel_rfl) (by kernel_rfl) (fun _ _ _ h => h) ?hy2x15 (by assumption) ?rs2x15
                    case hi2x15 => simp only [List.getElem?_toArray, List.getElem?_cons_succ, List.getElem?_cons_zero]; exact rfl
                    case hy2x15 => refine Or.inl ⟨by rfl, ?_⟩; intro w hSw; (try dsimp only at hSw); go_simp; first | done | with_reducible rfl
                    (try simp only [Act.put, List.setIfInBounds_toArray, List.set_cons_zero, List.set_cons_succ])
                    refine' wpAnyH_take (i := 16) (oi := _) (v := _) ?hi2x16 (by kernel_rfl) (by kernel_rfl) (by kernel_rfl) (fun _ _ _ h => h) ?hy2x16 (by assumption) ?rs2x16
                    case hi2x16 => simp only [List.getElem?_toArray, List.getElem?_cons_succ, List.getElem?_cons_zero]; exact rfl
                    case hy2x16 => refine Or.inl ⟨by rfl, ?_⟩; intro w hSw; (try dsimp only at hSw); go_simp; first | done | with_reducible rfl
                    (try simp only [Act.put, List.setIfInBounds_toArray, List.set_cons_zero, List.set_cons_succ])
                    refine' wpAnyH_take (i := 17) (oi := _) (v := _) ?hi2x17 (by kernel_rfl) (by kernel_rfl) (by kernel_rfl) (fun _ _ _ h => h) ?hy2x17 (by assumption) ?rs2x17
                    case hi2x17 => simp only [List.getElem?_toArray, List.getElem?_cons_succ, List.getElem?_cons_zero]; exact rfl
                    case hy2x17 => refine Or.inl ⟨by rfl, ?_⟩; intro w hSw; (try dsimp only at hSw); go_simp; first | done | with_reducible rfl
                    (try simp only [Act.put, List.setIfInBounds_toArray, List.set_cons_zero, List.set_cons_succ])
                    refine' wpAnyH_take (i := 18) (oi := _) (v := undef) ?hi2x18 (by kernel_rfl) (by kernel_rfl) (by kernel_rfl) (fun _ _ _ h => h) ?hy2x18 (by assumption) ?rs2x18
                    case hi2x18 => simp only [List.getElem?_toArray, List.getElem?_cons_succ, List.getElem?_cons_zero]; exact rfl
                    case hy2x18 => exact Or.inr ⟨by rfl, rfl⟩
                    (try simp only [Act.put, List.setIfInBounds_toArray, List.set_cons_zero, List.set_cons_succ])
                    refine' wpAnyH_take (i := 19) (oi := _) (v := undef) ?hi2x19 (by kernel_rfl) (by kernel_rfl) (by kernel_rfl) (fun _ _ _ h => h) ?hy2x19 (by assumption) ?rs2x19
                    case hi2x19 => simp only [List.getElem?_toArray, List.getElem?_cons_succ, List.getElem?_cons_zero]; exact rfl
                    case hy2x19 => exact Or.inr ⟨by rfl, rfl⟩
                    (try simp only [Act.put, List.setIfInBounds_toArray, List.set_cons_zero, List.set_cons_succ])
                    refine' wpAnyH_take (i := 20) (oi := _) (v := undef) ?hi2x20 (by kernel_rfl) (by kernel_rfl) (by kernel_rfl) (fun _ _ _ h => h) ?hy2x20 (by assumption) ?rs2x20
                    case hi2x20 => simp only [List.getElem?_toArray, List.getElem?_cons_succ, List.getElem?_cons_zero]; exact rfl
                    case hy2x20 => exact Or.inr ⟨by rfl, rfl⟩
                    (try simp only [Act.put, List.setIfInBounds_toArray, List.set_cons_zero, List.set_cons_succ])
                    refine' wpAnyH_take (i := 21) (oi := _) (v := undef) ?hi2x21 (by kernel_rfl) (by kernel_rfl) (by kernel_rfl) (fun _ _ _ h => h) ?hy2x21 (by assumption) ?rs2x21
                    case hi2x21 => simp only [List.getElem?_toArray, List.getElem?_cons_succ, List.getElem?_cons_zero]; exact rfl
                    case hy2x21 => exact Or.inr ⟨by rfl, rfl⟩
                    (try simp only [Act.put, List.setIfInBounds_toArray, List.set_cons_zero, List.set_cons_succ])
                    refine' wpAnyH_take (i := 22) (oi := _) (v := undef) ?hi2x22 (by kernel_rfl) (by kernel_rfl) (by kernel_rfl) (fun _ _ _ h => h) ?hy2x22 (by assumption) ?rs2x22
                    case hi2x22 => simp only [List.getElem?_toArray, List.getElem?_cons_succ, List.getElem?_cons_zero]; exact rfl
                    case hy2x22 => exact Or.inr ⟨by rfl, rfl⟩
                    (try simp only [Act.put, List.setIfInBounds_toArray, List.set_cons_zero, List.set_cons_succ])
                    refine' wpAnyH_take (i := 23) (oi := _) (v := undef) ?hi2x23 (by kernel_rfl) (by kernel_rfl) (by kernel_rfl) (fun _ _ _ h => h) ?hy2x23 (by assumption) ?rs2x23
                    case hi2x23 => simp only [List.getElem?_toArray, List.getElem?_cons_succ, List.getElem?_cons_zero]; exact rfl
                    case hy2x23 => exact Or.inr ⟨by rfl, rfl⟩
                    (try simp only [Act.put, List.setIfInBounds_toArray, List.set_cons_zero, List.set_cons_succ])
                    refine' wpAnyH_take (i := 24) (oi := _) (v := undef) ?hi2x24 (by kernel_rfl) (by kernel_rfl) (by kernel_rfl) (fun _ _ _ h => h) ?hy2x24 (by assumption) ?rs2x24
                    case hi2x24 => simp only [List.getElem?_toArray, List.getElem?_cons_succ, List.getElem?_cons_zero]; exact rfl
                    case hy2x24 => exact Or.inr ⟨by rfl, rfl⟩
                    (try simp only [Act.put, List.setIfInBounds_toArray, List.set_cons_zero, List.set_cons_succ])
                    refine' wpAnyH_take (i := 25) (oi := _) (v := _) ?hi2x25 (by kernel_rfl) (by kernel_rfl) (by kernel_rfl) (fun _ _ _ h => h) ?hy2x25 (by assumption) ?rs2x25
                    case hi2x25 => simp only [List.getElem?_toArray, List.getElem?_cons_succ, List.getElem?_cons_zero]; exact rfl
                    case hy2x25 => refine Or.inl ⟨by rfl, ?_⟩; intro w hSw; (try dsimp only at hSw); go_simp; first | done | with_reducible rfl
                    (try simp only [Act.put, List.setIfInBounds_toArray, List.set_cons_zero, List.set_cons_succ])
                    refine' wpAnyH_take (i := 26) (oi := _) (v := _) ?hi2x26 (by kernel_rfl) (by kernel_rfl) (by kernel_rfl) (fun _ _ _ h => h) ?hy2x26 (by assumption) ?rs2x26
                    case hi2x26 => simp only [List.getElem?_toArray, List.getElem?_cons_succ, List.getElem?_cons_zero]; exact rfl
                    case hy2x26 => refine Or.inl ⟨by rfl, ?_⟩; intro w hSw; (try dsimp only at hSw); go_simp; first | done | with_reducible rfl
                    (try simp only [Act.put, List.setIfInBounds_toArray, List.set_cons_zero, List.set_cons_succ])
                    refine' wpAnyH_take (i := 27) (oi := _) (v := _) ?hi2x27 (by kernel_rfl) (by kernel_rfl) (by kernel_rfl) (fun _ _ _ h => h) ?hy2x27 (by assumption) ?rs2x27
                    case hi2x27 => simp only [List.getElem?_toArray, List.getElem?_cons_succ, List.getElem?_cons_zero]; exact rfl
                    case hy2x27 => refine Or.inl ⟨by rfl, ?_⟩; intro w hSw; (try dsimp only at hSw); go_simp; first | done | with_reducible rfl
                    (try simp only [Act.put, List.setIfInBounds_toArray, List.set_cons_zero, List.set_cons_succ])
                    refine wpAnyH_done (by kernel_rfl) ?_ _
                    refine NoPanic.normal ?_
                    all_goals (go_wp2; go_meet; refine ⟨rfl, ?_⟩; go_split_ands; assumption)
                  · exact absurd hk1 hk
            case rest =>
              obtain ⟨rfl, hbx⟩ := hcut
              obtain ⟨b0, b1, b2, b3, b4, b5, b6⟩ := HBX.out _ hbx
              have HX := Lib.hid hbx
              have HW := Lib.hid hbx.size
              have HATT := Lib.hid HG.out.rises
              have hal := attrs_len HA.out
              clear hbx
              go_upto_region 13 with fail
              go_cut [100] (fun s wx => s = .bool false ∧ Below (wr.heap.size + 1) (wr.alloc (.cells #[.int .i64 (t.kind : Int), .string (bs (U.n8 t.name)), .slice ap an ac, .string (bs (U.n8 t.text)), .int .i64 (t.place.1 : Int), .int .i64 (t.place.2 : Int), .bool t.empty] 38)) wx)
              case first =>
                obtain ⟨hkind, htext, hname, hbare, _⟩ := HG.out
                rcases hkind with hk | hk | hk
                · have hx : t.text = [] := Classical.byContradiction fun h => absurd (htext.2 h) (by omega)
                  have hn1 : t.name ≠ [] := fun h => absurd (hname.2 h) (by omega)
                  have e1 := n8_ne hn1
                  have E2 := Lib.hid (n8_isEmpty hn1)
                  have b0k : wc.cell? ⟨wr.heap.size, 0, none⟩ = some (.int .i64 1) := by rw [b0, hk]; rfl
                  rw [hx, n8_none] at b3
                  clear b0 hk hx hn1 htext hname hbare hal
                  go_wp2
                  go_meet
                  exact ⟨by first | rfl | (rw [E2.out]; done) | simp [E2.out], HX.out⟩
                · have hx : t.text = [] := Classical.byContradiction fun h => absurd (htext.2 h) (by omega)
                  have hn1 : t.name ≠ [] := fun h => absurd (hname.2 h) (by omega)
                  have e1 := n8_ne hn1
                  have E2 := Lib.hid (n8_isEmpty hn1)
                  have b0k : wc.cell? ⟨wr.heap.size, 0, none⟩ = some (.int .i64 2) := by rw [b0, hk]; rfl
                  obtain ⟨ha0, he0⟩ := hbare (by omega)
                  rw [hx, n8_none] at b3
                  rw [ha0] at hal
                  rw [hal] at b2
                  rw [he0] at b6
                  clear b0 hk hx hn1 htext hname hbare hal ha0 he0
                  go_wp2
                  go_meet
                  exact ⟨by first | rfl | (rw [E2.out]; done) | simp [E2.out], HX.out⟩
                · have hx : t.text ≠ [] := htext.1 hk
                  have hn1 : t.name = [] := hname.1 hk
                  have e1 := n8_ne hx
                  have E2 := Lib.hid (n8_isEmpty hx)
                  have b0k : wc.cell? ⟨wr.heap.size, 0, none⟩ = some (.int .i64 3) := by rw [b0, hk]; rfl
                  obtain ⟨ha0, he0⟩ := hbare (by omega)
                  rw [hn1, n8_none] at b1
                  rw [ha0] at hal
                  rw [hal] at b2
                  rw [he0] at b6
                  clear b0 hk hx hn1 htext hname hbare hal ha0 he0
                  go_wp2
                  go_meet
                  exact ⟨by first | rfl | (rw [E2.out]; done) | simp [E2.out], HX.out⟩
              case rest =>
                obtain ⟨rfl, hby⟩ := hcut
                obtain ⟨b0, b1, b2, b3, b4, b5, b6⟩ := HBX.out _ hby
                have HY := Lib.hid hby
                have hle1 : w2.heap.size ≤ wr.heap.size + 1 := Nat.le_trans HBel.out.size (Nat.le_succ _)
                have hle2 : w2.heap.size ≤ wc.heap.size := Nat.le_trans hle1 (by have := hby.size; rw [HSZ.out] at this; exact this)
                have HWC := Lib.hid (HBW.out.trans (hby.mono hle1))
                have HL1 := Lib.hid hle1
                have HL2 := Lib.hid hle2
                clear hby hle1 hle2
                rcases HA.out with ⟨hv, h0⟩ | ⟨g2, cap2, hv, hd1, hd2, hgl2, hcb⟩
                · cases hv
                  obtain ⟨_, _, c2, _⟩ := HBX.out _ (HY.out.alloc (Nat.le_trans (by rw [HSZ.out]; exact Nat.le_refl _) HY.out.size) (.cells #[.int .i64 (t.place.1 : Int), .int .i64 (t.place.2 : Int)] 29))
                  clear h0 hal
                  go_wp2
                  refine wp_loop_rounds 1 ?_
                  rw [rounds_succ]
                  go_wp2
                  go_roundg (n - (i + 1))
                  case measure => omega
                  case rel => exact ⟨i + 1, by go_num, rfl, by omega, HWC.out.alloc HL2.out _⟩
                · cases hv
                  obtain ⟨m, hm⟩ : ∃ m, t.attrs.length = m := ⟨_, rfl⟩
                  have HM := Lib.hid hm
                  have HCB := Lib.hid hcb
                  obtain ⟨_, _, c2, _⟩ := HBX.out _ (HY.out.alloc (Nat.le_trans (by rw [HSZ.out]; exact Nat.le_refl _) HY.out.size) (.cells #[.int .i64 (t.place.1 : Int), .int .i64 (t.place.2 : Int)] 29))
                  rw [hm] at hd1 b2 c2
                  have hml : m ≤ 9223372036854775807 := by unfold maxLen at hd2; omega
                  clear hm hcb hal
                  go_wp2
                  go_loopg [106] m (fun gg jv wy => ∃ (j : Nat) (q : K.Pl), jv = .int .i64 (j : Int) ∧ m - j = gg ∧ j ≤ m ∧ wy.heap[wc.heap.size]? = some (.cells #[.int .i64 (q.1 : Int), .int .i64 (q.2 : Int)] 29 (0, 0)) ∧ RisesA q (t.attrs.drop j) ∧ Below wc.heap.size wc wy)
                  case atStart => exact ⟨0, t.place, rfl, rfl, Nat.zero_le _, heap_new _ _, HATT.out, (Below.refl _ _).alloc (Nat.le_refl _) _⟩
                  case round =>
                    obtain ⟨j, q, rfl, hg2, hjm, hq, hra, hbel2⟩ := hrel
                    have HBY := Lib.hid hbel2
                    by_cases hjl : j < m
                    · obtain ⟨a, ha⟩ : ∃ a, t.attrs[j]? = some a := ⟨_, List.getElem?_eq_getElem (by have := HM.out; omega)⟩
                      have hdr : t.attrs.drop j = a :: t.attrs.drop (j + 1) := by
                        obtain ⟨hh, rfl⟩ := List.getElem?_eq_some_iff.1 ha
                        exact List.drop_eq_getElem_cons hh
                      rw [hdr] at hra
                      obtain ⟨r1, r2, r3⟩ := hra
                      have HR3 := Lib.hid r3
                      have e1 := n8_isEmpty r2
                      have e2 := n8_ne r2
                      obtain ⟨x0, x1, x2, x3⟩ := HCB.out wr (HWC.out.trans (hbel2.mono HL2.out)) j a ha
                      have hbh := behind_true a.2.2 q r1
                      have hj2 : (j : Int) < (m : Int) := by omega
                      have hlb := lt_of_heap hq
                      have hS0 := at_start a q wr wc.heap.size hq
                      have HS0 := Lib.hid hS0
                      obtain ⟨z0, z1⟩ := place_cells2 hq
                      clear hS0 hdr r1 r2 r3 ha hbel2
                      have hbx1 := Lib.hid hbh
                      clear hbh
                      have HQ := Lib.hid hq
                      clear hq
                      go_wp2_with (go_at_call 13; refine (hbx1.out _).mono ?_; rintro e w' ⟨rfl, hb13⟩; obtain ⟨k0, k2, k3, l0, l1, kb, ks⟩ := at_next (Nat.lt_succ_self _) (Nat.lt_succ_of_lt hlb) HS0.out hb13; have kq := ((((Below.refl wr.heap.size wr).alloc (Nat.le_refl _) _).trans (kb.mono (Nat.le_succ _))).block _ hlb).trans HQ.out; have f0 := Lib.frozen_of_heap kq 0; have f1 := Lib.frozen_of_heap kq 1; have KB := Lib.hid kb; clear kb ks hb13)
                      have hle : wc.heap.size ≤ wr.heap.size + 1 := Nat.le_succ_of_le (Nat.le_of_lt hlb)
                      have HLE := Lib.hid hle
                      clear hle
                      go_roundg (m - (j + 1))
                      case measure => omega
                      case rel => exact ⟨j + 1, a.2.2, by go_num, rfl, by omega, by have := heap_set (heap_set kq 0 (.int .i64 (a.2.2.1 : Int))) 1 (.int .i64 (a.2.2.2 : Int)); simpa using this, HR3.out, (((HBY.out.alloc (Nat.le_of_lt hlb) _).trans (KB.out.mono HLE.out)).setCell (p := ⟨wc.heap.size, 0, none⟩) (Nat.le_refl _) _).setCell (p := ⟨wc.heap.size, 1, none⟩) (Nat.le_refl _) _⟩
                    · have hge : (m : Int) ≤ (j : Int) := by omega
                      clear hbel2 hq hra
                      go_wp2
                      go_roundg (n - (i + 1))
                      case measure => omega
                      case rel => exact ⟨i + 1, by go_num, rfl, by omega, HWC.out.trans (HBY.out.mono HL2.out)⟩
          · have hge : (n : Int) ≤ (i : Int) := by omega
            clear hbel
            go_wp2
            go_ret
            exact ⟨rfl, HB2.out.trans (HBel.out.mono HB2.out.size)⟩
end Go.Proofs.YtgngfpfplppnnaaGreatDoor
