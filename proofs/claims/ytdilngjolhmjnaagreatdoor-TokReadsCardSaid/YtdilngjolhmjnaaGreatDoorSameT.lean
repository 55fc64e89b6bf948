/- The document's own comparison of tokens: the same tokens are told the same. Conditions: those that each theorem names. -/
import Derived.Test.YtdilngjolhmjnaaGreatDoorC1
import Derived.Deep.QuietTactic
import Derived.BigQuiet
import Derived.Deep.LoopGhost
namespace Go.Proofs.YtdilngjolhmjnaaGreatDoor
open Go.RowKit Go.Shelf
set_option linter.all false

/-- The same attribute; the same token: places with them, or without. -/
def SameA (pl : Bool) (a b : K.At) : Prop := a.1 = b.1 ∧ a.2.1 = b.2.1 ∧ (pl = true → a.2.2 = b.2.2)
structure SameT (pl : Bool) (s t : K.Tk) : Prop where
  kind : s.kind = t.kind
  name : s.name = t.name
  text : s.text = t.text
  empty : s.empty = t.empty
  count : s.attrs.length = t.attrs.length
  place : pl = true → s.place = t.place
  attrs : ∀ (i : Nat) a b, s.attrs[i]? = some a → t.attrs[i]? = some b → SameA pl a b
theorem SameA.refl (pl : Bool) (a : K.At) : SameA pl a a := ⟨rfl, rfl, fun _ => rfl⟩
theorem SameT.refl (pl : Bool) (s : K.Tk) : SameT pl s s := ⟨rfl, rfl, rfl, rfl, rfl, fun _ => rfl, fun i a b h k => by rw [h] at k; cases k; exact SameA.refl _ _⟩

theorem attrCells_at : ∀ (l : List K.At) (i : Nat) (a : K.At), l[i]? = some a → (attrCells l)[i * 4]? = some (.string (bs (U.n8 a.1))) ∧ (attrCells l)[i * 4 + 1]? = some (.string (bs (U.n8 a.2.1))) ∧ (attrCells l)[i * 4 + 2]? = some (.int .i64 (a.2.2.1 : Int)) ∧ (attrCells l)[i * 4 + 3]? = some (.int .i64 (a.2.2.2 : Int))
  | [], i, a, h => by simp at h
  | x :: l, 0, a, h => by
    simp only [List.getElem?_cons_zero, Option.some.injEq] at h
    subst h
    exact ⟨rfl, rfl, rfl, rfl⟩
  | x :: l, i + 1, a, h => by
    simp only [List.getElem?_cons_succ] at h
    obtain ⟨h1, h2, h3, h4⟩ := attrCells_at l i a h
    have e : (i + 1) * 4 = i * 4 + 4 := by omega
    refine ⟨?_, ?_, ?_, ?_⟩
    · rw [e]; exact h1
    · rw [e]; exact h2
    · rw [e]; exact h3
    · rw [e]; exact h4
/-- A token's attributes in memory, to be read in all later worlds. -/
def AttrsIn (l : List K.At) (av : Value) (w : World) : Prop :=
  (av = .slice none 0 0 ∧ l = []) ∨ ∃ g cap, av = .slice (some ⟨g, 0, none⟩) l.length cap ∧ l.length ≤ cap ∧ cap ≤ maxLen ∧ g < w.heap.size ∧
    ∀ W, Below w.heap.size w W → ∀ i a, l[i]? = some a → W.cell? ⟨g, i * 4, none⟩ = some (.string (bs (U.n8 a.1))) ∧ W.cell? ⟨g, i * 4 + 1, none⟩ = some (.string (bs (U.n8 a.2.1))) ∧ W.cell? ⟨g, i * 4 + 2, none⟩ = some (.int .i64 (a.2.2.1 : Int)) ∧ W.cell? ⟨g, i * 4 + 3, none⟩ = some (.int .i64 (a.2.2.2 : Int))
theorem own_attrs {w : World} {B : Nat} {l : List K.At} {av : Value} (h : w.ownsRow B 40 4 av l.length (attrCells l)) : AttrsIn l av w := by
  have hk := h
  rcases h.2 with ⟨rfl, h0⟩ | ⟨g, cap, cur, rfl, hB, hh, hnc, hcm, _, _⟩
  · exact .inl ⟨rfl, List.eq_nil_of_length_eq_zero h0⟩
  · refine .inr ⟨g, cap, rfl, hnc, hcm, lt_of_heap hh, ?_⟩
    intro W hW i a ha
    have hi : i < l.length := by
      rcases Nat.lt_or_ge i l.length with h | h
      · exact h
      · rw [List.getElem?_eq_none h] at ha; cases ha
    obtain ⟨h1, h2, h3, h4⟩ := attrCells_at l i a ha
    have hc : ∀ j u, j < l.length * 4 → (attrCells l)[j]? = some u → W.cell? ⟨g, j, none⟩ = some u := by
      intro j u hj hu
      rw [show W.cell? ⟨g, j, none⟩ = w.cell? ⟨g, j, none⟩ from hW.cell (p := ⟨g, j, none⟩) (lt_of_heap hh), hk.cellAt j hj, hu]
    exact ⟨hc _ _ (by omega) h1, hc _ _ (by omega) h2, hc _ _ (by omega) h3, hc _ _ (by omega) h4⟩
theorem AttrsIn.bel {l : List K.At} {av : Value} {w w' : World} (h : AttrsIn l av w) (k : Below w.heap.size w w') : AttrsIn l av w' := by
  rcases h with h | ⟨g, cap, h1, h2, h3, h4, h5⟩
  · exact .inl h
  · exact .inr ⟨g, cap, h1, h2, h3, Nat.lt_of_lt_of_le h4 k.size, fun W hW => h5 W (k.trans (hW.mono k.size))⟩

theorem drewN_below {B n : Nat} {w w' : World} (h : Below B w w') : Below B w (w'.drewN n) := ⟨h.os, h.tape, h.output, h.size, h.block⟩
set_option maxHeartbeats 8000000 in
set_option maxRecDepth 100000 in
theorem sameTok_places (k : Nat) (n x : List Nat) (p : K.Pl) (em : Bool) (la lb : List K.At) (hlen : la.length = lb.length) (hl : la.length ≤ 9223372036854775807) (hab : ∀ (i : Nat) a b, la[i]? = some a → lb[i]? = some b → SameA true a b)
    (av bv : Value) (w : World) (ha : AttrsIn la av w) (hb : AttrsIn lb bv w) :
    Calls Tryz.prog 30 #[tokVal ⟨k, n, la, x, p, em⟩ av, tokVal ⟨k, n, lb, x, p, em⟩ bv, .bool true] w fun e w' => e = .returned (.bool true) ∧ Below w.heap.size w w' := by
  rcases ha with ⟨rfl, rfl⟩ | ⟨g, cap, rfl, hc1, hc2, hgl, hca⟩
  · rcases hb with ⟨rfl, rfl⟩ | ⟨g2, cap2, rfl, hd1, hd2, hgl2, hcb⟩
    · clear hab
      go_enter Tryz.func30, Tryz.ntmps30
      go_wp2
      refine wp_loop_rounds 1 ?_
      rw [rounds_succ]
      go_wp2
      go_ret
      exact ⟨rfl, ((Below.refl _ _).alloc (Nat.le_refl _) _).alloc (by simp) _⟩
    · have h0 : lb.length = 0 := hlen.symm
      rw [h0] at hd1 ⊢
      clear hab hcb hlen hl
      go_enter Tryz.func30, Tryz.ntmps30
      go_wp2
      refine wp_loop_rounds 1 ?_
      rw [rounds_succ]
      go_wp2
      go_ret
      exact ⟨rfl, ((Below.refl _ _).alloc (Nat.le_refl _) _).alloc (by simp) _⟩
  · rcases hb with ⟨rfl, rfl⟩ | ⟨g2, cap2, rfl, hd1, hd2, hgl2, hcb⟩
    · have h0 : la.length = 0 := hlen
      rw [h0] at hc1 ⊢
      clear hab hca hlen hl
      go_enter Tryz.func30, Tryz.ntmps30
      go_wp2
      refine wp_loop_rounds 1 ?_
      rw [rounds_succ]
      go_wp2
      go_ret
      exact ⟨rfl, ((Below.refl _ _).alloc (Nat.le_refl _) _).alloc (by simp) _⟩
    · rw [← hlen] at hd1 ⊢
      have hbx : Below w.heap.size w ((w.alloc (.cells #[.int .i64 (k : Int), .string (bs (U.n8 n)), .slice (some ⟨g, 0, none⟩) la.length cap, .string (bs (U.n8 x)), .int .i64 (p.1 : Int), .int .i64 (p.2 : Int), .bool em] 38)).alloc (.cells #[.int .i64 (k : Int), .string (bs (U.n8 n)), .slice (some ⟨g2, 0, none⟩) la.length cap2, .string (bs (U.n8 x)), .int .i64 (p.1 : Int), .int .i64 (p.2 : Int), .bool em] 38)) :=
        ((Below.refl _ _).alloc (Nat.le_refl _) _).alloc (by simp) _
      have hx1 : ∀ W, Below (w.heap.size + 2) ((w.alloc (.cells #[.int .i64 (k : Int), .string (bs (U.n8 n)), .slice (some ⟨g, 0, none⟩) la.length cap, .string (bs (U.n8 x)), .int .i64 (p.1 : Int), .int .i64 (p.2 : Int), .bool em] 38)).alloc (.cells #[.int .i64 (k : Int), .string (bs (U.n8 n)), .slice (some ⟨g2, 0, none⟩) la.length cap2, .string (bs (U.n8 x)), .int .i64 (p.1 : Int), .int .i64 (p.2 : Int), .bool em] 38)) W →
          W.cell? ⟨w.heap.size, 2, none⟩ = some (.slice (some ⟨g, 0, none⟩) la.length cap) ∧ W.cell? ⟨w.heap.size + 1, 2, none⟩ = some (.slice (some ⟨g2, 0, none⟩) la.length cap2) := by
        intro W hW
        rw [hW.cell (p := ⟨w.heap.size, 2, none⟩) (by simp), hW.cell (p := ⟨w.heap.size + 1, 2, none⟩) (by simp)]
        exact ⟨by simp, by simp⟩
      have hsz2 : ((w.alloc (.cells #[.int .i64 (k : Int), .string (bs (U.n8 n)), .slice (some ⟨g, 0, none⟩) la.length cap, .string (bs (U.n8 x)), .int .i64 (p.1 : Int), .int .i64 (p.2 : Int), .bool em] 38)).alloc (.cells #[.int .i64 (k : Int), .string (bs (U.n8 n)), .slice (some ⟨g2, 0, none⟩) la.length cap2, .string (bs (U.n8 x)), .int .i64 (p.1 : Int), .int .i64 (p.2 : Int), .bool em] 38)).heap.size = w.heap.size + 2 := by simp
      have HB := Lib.hid hbx
      have HX := Lib.hid hx1
      have HCA := Lib.hid hca
      have HCB := Lib.hid hcb
      have HAB := Lib.hid hab
      have HSZ := Lib.hid hsz2
      clear hbx hx1 hca hcb hab hsz2
      have hll : la.length ≤ 9223372036854775807 := hl
      obtain ⟨m, hm⟩ : ∃ m, la.length = m := ⟨_, rfl⟩
      have HM := Lib.hid hm
      have HL := Lib.hid hlen
      rw [hm] at hll hd1 hc1 ⊢
      rw [hm] at HX HB HSZ
      clear hm hlen hl
      go_enter Tryz.func30, Tryz.ntmps30
      go_wp2
      have HB := HB
      generalize hw2 : ((w.alloc (.cells #[.int .i64 (k : Int), .string (bs (U.n8 n)), .slice (some ⟨g, 0, none⟩) m cap, .string (bs (U.n8 x)), .int .i64 (p.1 : Int), .int .i64 (p.2 : Int), .bool em] 38)).alloc (.cells #[.int .i64 (k : Int), .string (bs (U.n8 n)), .slice (some ⟨g2, 0, none⟩) m cap2, .string (bs (U.n8 x)), .int .i64 (p.1 : Int), .int .i64 (p.2 : Int), .bool em] 38)) = w2 at HX HB HSZ ⊢
      clear hw2
      go_loopg [7] m (fun gg iv wr => ∃ i : Nat, iv = .int .i64 (i : Int) ∧ m - i = gg ∧ i ≤ m ∧ Below (w.heap.size + 2) w2 wr)
      case atStart => exact ⟨0, rfl, rfl, Nat.zero_le _, Below.refl _ _⟩
      case round =>
        obtain ⟨i, rfl, hg, him, hbel⟩ := hrel
        obtain ⟨b0, b1⟩ := HX.out _ hbel
        have HBel := Lib.hid hbel
        by_cases hlt : i < m
        · have hla : i < la.length := by have := HM.out; omega
          obtain ⟨a, haa⟩ : ∃ a, la[i]? = some a := ⟨_, List.getElem?_eq_getElem hla⟩
          obtain ⟨b, hbb⟩ : ∃ b, lb[i]? = some b := ⟨_, List.getElem?_eq_getElem (by have := HL.out; omega)⟩
          obtain ⟨e1, e2, e3⟩ := HAB.out i a b haa hbb
          have e3 := e3 rfl
          have hbw : Below w.heap.size w wr := HB.out.trans (hbel.mono (by omega))
          obtain ⟨c0, c1, c2, c3⟩ := HCA.out _ hbw i a haa
          obtain ⟨d0, d1, d2, d3⟩ := HCB.out _ hbw i b hbb
          rw [← e1] at d0
          rw [← e2] at d1
          rw [← e3] at d2 d3
          have hi2 : (i : Int) < (m : Int) := by omega
          clear haa hbb e1 e2 e3 hbw hbel hla
          go_wp2
          go_quiet (fail)
          go_wp2
          go_roundg (m - (i + 1))
          case measure => omega
          case rel => exact ⟨i + 1, by go_num, rfl, by omega, drewN_below HBel.out⟩
        · have hge : (m : Int) ≤ (i : Int) := by omega
          clear hbel
          go_wp2
          go_ret
          exact ⟨rfl, HB.out.trans (HBel.out.mono (by omega))⟩

set_option maxHeartbeats 8000000 in
set_option maxRecDepth 100000 in
theorem sameTok_plain (k : Nat) (n x : List Nat) (p q : K.Pl) (em : Bool) (la lb : List K.At) (hlen : la.length = lb.length) (hl : la.length ≤ 9223372036854775807) (hab : ∀ (i : Nat) a b, la[i]? = some a → lb[i]? = some b → SameA false a b)
    (av bv : Value) (w : World) (ha : AttrsIn la av w) (hb : AttrsIn lb bv w) :
    Calls Tryz.prog 30 #[tokVal ⟨k, n, la, x, p, em⟩ av, tokVal ⟨k, n, lb, x, q, em⟩ bv, .bool false] w fun e w' => e = .returned (.bool true) ∧ Below w.heap.size w w' := by
  rcases ha with ⟨rfl, rfl⟩ | ⟨g, cap, rfl, hc1, hc2, hgl, hca⟩
  · rcases hb with ⟨rfl, rfl⟩ | ⟨g2, cap2, rfl, hd1, hd2, hgl2, hcb⟩
    · clear hab
      go_enter Tryz.func30, Tryz.ntmps30
      go_wp2
      refine wp_loop_rounds 1 ?_
      rw [rounds_succ]
      go_wp2
      go_ret
      exact ⟨rfl, ((Below.refl _ _).alloc (Nat.le_refl _) _).alloc (by simp) _⟩
    · have h0 : lb.length = 0 := hlen.symm
      rw [h0] at hd1 ⊢
      clear hab hcb hlen hl
      go_enter Tryz.func30, Tryz.ntmps30
      go_wp2
      refine wp_loop_rounds 1 ?_
      rw [rounds_succ]
      go_wp2
      go_ret
      exact ⟨rfl, ((Below.refl _ _).alloc (Nat.le_refl _) _).alloc (by simp) _⟩
  · rcases hb with ⟨rfl, rfl⟩ | ⟨g2, cap2, rfl, hd1, hd2, hgl2, hcb⟩
    · have h0 : la.length = 0 := hlen
      rw [h0] at hc1 ⊢
      clear hab hca hlen hl
      go_enter Tryz.func30, Tryz.ntmps30
      go_wp2
      refine wp_loop_rounds 1 ?_
      rw [rounds_succ]
      go_wp2
      go_ret
      exact ⟨rfl, ((Below.refl _ _).alloc (Nat.le_refl _) _).alloc (by simp) _⟩
    · rw [← hlen] at hd1 ⊢
      have hbx : Below w.heap.size w ((w.alloc (.cells #[.int .i64 (k : Int), .string (bs (U.n8 n)), .slice (some ⟨g, 0, none⟩) la.length cap, .string (bs (U.n8 x)), .int .i64 (p.1 : Int), .int .i64 (p.2 : Int), .bool em] 38)).alloc (.cells #[.int .i64 (k : Int), .string (bs (U.n8 n)), .slice (some ⟨g2, 0, none⟩) la.length cap2, .string (bs (U.n8 x)), .int .i64 (q.1 : Int), .int .i64 (q.2 : Int), .bool em] 38)) :=
        ((Below.refl _ _).alloc (Nat.le_refl _) _).alloc (by simp) _
      have hx1 : ∀ W, Below (w.heap.size + 2) ((w.alloc (.cells #[.int .i64 (k : Int), .string (bs (U.n8 n)), .slice (some ⟨g, 0, none⟩) la.length cap, .string (bs (U.n8 x)), .int .i64 (p.1 : Int), .int .i64 (p.2 : Int), .bool em] 38)).alloc (.cells #[.int .i64 (k : Int), .string (bs (U.n8 n)), .slice (some ⟨g2, 0, none⟩) la.length cap2, .string (bs (U.n8 x)), .int .i64 (q.1 : Int), .int .i64 (q.2 : Int), .bool em] 38)) W →
          W.cell? ⟨w.heap.size, 2, none⟩ = some (.slice (some ⟨g, 0, none⟩) la.length cap) ∧ W.cell? ⟨w.heap.size + 1, 2, none⟩ = some (.slice (some ⟨g2, 0, none⟩) la.length cap2) := by
        intro W hW
        rw [hW.cell (p := ⟨w.heap.size, 2, none⟩) (by simp), hW.cell (p := ⟨w.heap.size + 1, 2, none⟩) (by simp)]
        exact ⟨by simp, by simp⟩
      have hsz2 : ((w.alloc (.cells #[.int .i64 (k : Int), .string (bs (U.n8 n)), .slice (some ⟨g, 0, none⟩) la.length cap, .string (bs (U.n8 x)), .int .i64 (p.1 : Int), .int .i64 (p.2 : Int), .bool em] 38)).alloc (.cells #[.int .i64 (k : Int), .string (bs (U.n8 n)), .slice (some ⟨g2, 0, none⟩) la.length cap2, .string (bs (U.n8 x)), .int .i64 (q.1 : Int), .int .i64 (q.2 : Int), .bool em] 38)).heap.size = w.heap.size + 2 := by simp
      have HB := Lib.hid hbx
      have HX := Lib.hid hx1
      have HCA := Lib.hid hca
      have HCB := Lib.hid hcb
      have HAB := Lib.hid hab
      have HSZ := Lib.hid hsz2
      clear hbx hx1 hca hcb hab hsz2
      have hll : la.length ≤ 9223372036854775807 := hl
      obtain ⟨m, hm⟩ : ∃ m, la.length = m := ⟨_, rfl⟩
      have HM := Lib.hid hm
      have HL := Lib.hid hlen
      rw [hm] at hll hd1 hc1 ⊢
      rw [hm] at HX HB HSZ
      clear hm hlen hl
      go_enter Tryz.func30, Tryz.ntmps30
      go_wp2
      have HB := HB
      generalize hw2 : ((w.alloc (.cells #[.int .i64 (k : Int), .string (bs (U.n8 n)), .slice (some ⟨g, 0, none⟩) m cap, .string (bs (U.n8 x)), .int .i64 (p.1 : Int), .int .i64 (p.2 : Int), .bool em] 38)).alloc (.cells #[.int .i64 (k : Int), .string (bs (U.n8 n)), .slice (some ⟨g2, 0, none⟩) m cap2, .string (bs (U.n8 x)), .int .i64 (q.1 : Int), .int .i64 (q.2 : Int), .bool em] 38)) = w2 at HX HB HSZ ⊢
      clear hw2
      go_loopg [7] m (fun gg iv wr => ∃ i : Nat, iv = .int .i64 (i : Int) ∧ m - i = gg ∧ i ≤ m ∧ Below (w.heap.size + 2) w2 wr)
      case atStart => exact ⟨0, rfl, rfl, Nat.zero_le _, Below.refl _ _⟩
      case round =>
        obtain ⟨i, rfl, hg, him, hbel⟩ := hrel
        obtain ⟨b0, b1⟩ := HX.out _ hbel
        have HBel := Lib.hid hbel
        by_cases hlt : i < m
        · have hla : i < la.length := by have := HM.out; omega
          obtain ⟨a, haa⟩ : ∃ a, la[i]? = some a := ⟨_, List.getElem?_eq_getElem hla⟩
          obtain ⟨b, hbb⟩ : ∃ b, lb[i]? = some b := ⟨_, List.getElem?_eq_getElem (by have := HL.out; omega)⟩
          obtain ⟨e1, e2, e3⟩ := HAB.out i a b haa hbb
          have hbw : Below w.heap.size w wr := HB.out.trans (hbel.mono (by omega))
          obtain ⟨c0, c1, c2, c3⟩ := HCA.out _ hbw i a haa
          obtain ⟨d0, d1, d2, d3⟩ := HCB.out _ hbw i b hbb
          rw [← e1] at d0
          rw [← e2] at d1
          have hi2 : (i : Int) < (m : Int) := by omega
          clear haa hbb e1 e2 e3 hbw hbel hla
          go_wp2
          go_quiet (fail)
          go_wp2
          go_roundg (m - (i + 1))
          case measure => omega
          case rel => exact ⟨i + 1, by go_num, rfl, by omega, drewN_below HBel.out⟩
        · have hge : (m : Int) ≤ (i : Int) := by omega
          clear hbel
          go_wp2
          go_ret
          exact ⟨rfl, HB.out.trans (HBel.out.mono (by omega))⟩

/-- pennantref02.SameTok of the same tokens. -/
theorem sameTok_any (pl : Bool) (s t : K.Tk) (h : SameT pl s t) (av bv : Value) (w : World) (ha : AttrsIn s.attrs av w) (hb : AttrsIn t.attrs bv w) :
    Calls Tryz.prog 30 #[tokVal s av, tokVal t bv, .bool pl] w fun e w' => e = .returned (.bool true) ∧ Below w.heap.size w w' := by
  have hl : s.attrs.length ≤ 9223372036854775807 := by
    rcases ha with ⟨_, h0⟩ | ⟨g, cap, _, h1, h2, _⟩
    · rw [h0]; simp
    · unfold maxLen at h2; omega
  obtain ⟨k, n, la, x, p, em⟩ := s
  obtain ⟨k2, n2, lb, x2, q, em2⟩ := t
  obtain ⟨h1, h2, h3, h4, h5, h6, h7⟩ := h
  simp only at h1 h2 h3 h4 h5 h6 h7
  subst h1 h2 h3 h4
  cases pl with
  | true =>
    have := h6 rfl
    subst this
    exact sameTok_places _ _ _ _ _ la lb h5 hl h7 av bv w ha hb
  | false => exact sameTok_plain _ _ _ _ _ _ la lb h5 hl h7 av bv w ha hb
end Go.Proofs.YtdilngjolhmjnaaGreatDoor
