/- The document's own comparison of lists of tokens. Conditions: those that each theorem names. -/
import Derived.Test.YtdilngjolhmjnaaGreatDoorSameT
import Derived.StillTailTactics
namespace Go.Proofs.YtdilngjolhmjnaaGreatDoor
open Go.RowKit Go.Shelf
set_option linter.all false

/-- The same tokens. -/
structure SameL (pl : Bool) (l m : List K.Tk) : Prop where
  count : l.length = m.length
  toks : ∀ (i : Nat) s t, l[i]? = some s → m[i]? = some t → SameT pl s t
theorem SameL.refl (pl : Bool) (l : List K.Tk) : SameL pl l l := ⟨rfl, fun i s t h k => by rw [h] at k; cases k; exact SameT.refl _ _⟩
/-- A token's seven cells. -/
def TokCell (g o : Nat) (t : K.Tk) (av : Value) (W : World) : Prop :=
  W.cell? ⟨g, o, none⟩ = some (.int .i64 (t.kind : Int)) ∧ W.cell? ⟨g, o + 1, none⟩ = some (.string (bs (U.n8 t.name))) ∧ W.cell? ⟨g, o + 2, none⟩ = some av ∧ W.cell? ⟨g, o + 3, none⟩ = some (.string (bs (U.n8 t.text))) ∧
  W.cell? ⟨g, o + 4, none⟩ = some (.int .i64 (t.place.1 : Int)) ∧ W.cell? ⟨g, o + 5, none⟩ = some (.int .i64 (t.place.2 : Int)) ∧ W.cell? ⟨g, o + 6, none⟩ = some (.bool t.empty)
/-- Tokens in memory, to be read in all later worlds. -/
def ToksIn (l : List K.Tk) (lv : Value) (w : World) : Prop :=
  (lv = .slice none 0 0 ∧ l = []) ∨ ∃ g cap, lv = .slice (some ⟨g, 0, none⟩) l.length cap ∧ l.length ≤ cap ∧ cap ≤ maxLen ∧ g < w.heap.size ∧
    ∀ i t, l[i]? = some t → ∃ p n c, AttrsIn t.attrs (.slice p n c) w ∧ ∀ W, Below w.heap.size w W → TokCell g (i * 7) t (.slice p n c) W
theorem toks_cells {B : Nat} {w : World} : ∀ {l : List K.Tk} {xs : List Value}, ToksAt B w l xs → ∀ (i : Nat) (t : K.Tk), l[i]? = some t → ∃ av, w.ownsRow B 40 4 av t.attrs.length (attrCells t.attrs) ∧ ∀ j, j < 7 → xs[i * 7 + j]? = (tokCells t av)[j]?
  | [], xs, _, i, t, h => by simp at h
  | x :: l, xs, ⟨av, ys, e, ho, hr⟩, 0, t, h => by
    simp only [List.getElem?_cons_zero, Option.some.injEq] at h
    subst h
    refine ⟨av, ho, ?_⟩
    intro j hj
    rw [e, Nat.zero_mul, Nat.zero_add, List.getElem?_append_left (by simp; omega)]
  | x :: l, xs, ⟨av, ys, e, ho, hr⟩, i + 1, t, h => by
    simp only [List.getElem?_cons_succ] at h
    obtain ⟨av2, h1, h2⟩ := toks_cells hr i t h
    refine ⟨av2, h1, ?_⟩
    intro j hj
    rw [← h2 j hj, e, List.getElem?_append_right (by simp; omega)]
    congr 1
    simp
    omega
theorem list_in {B : Nat} {l : List K.Tk} {lv : Value} {w : World} (h : ListAt B l lv w) : ToksIn l lv w := by
  obtain ⟨xs, ho, ht⟩ := h
  have hk := ho
  rcases ho.2 with ⟨rfl, h0⟩ | ⟨g, cap, cur, rfl, hB, hh, hnc, hcm, _, _⟩
  · exact .inl ⟨rfl, List.eq_nil_of_length_eq_zero h0⟩
  · refine .inr ⟨g, cap, rfl, hnc, hcm, lt_of_heap hh, ?_⟩
    intro i t hi
    obtain ⟨av, ha, hc⟩ := toks_cells ht i t hi
    obtain ⟨p, n, c, rfl⟩ := own_slice ha
    refine ⟨p, n, c, own_attrs ha, ?_⟩
    intro W hW
    have hil : i < l.length := by
      rcases Nat.lt_or_ge i l.length with h | h
      · exact h
      · rw [List.getElem?_eq_none h] at hi; cases hi
    have hcell : ∀ j, j < 7 → ∀ u, (tokCells t (.slice p n c))[j]? = some u → W.cell? ⟨g, i * 7 + j, none⟩ = some u := by
      intro j hj u hu
      rw [show W.cell? ⟨g, i * 7 + j, none⟩ = w.cell? ⟨g, i * 7 + j, none⟩ from hW.cell (p := ⟨g, i * 7 + j, none⟩) (lt_of_heap hh), hk.cellAt _ (by omega), hc j hj, hu]
    exact ⟨hcell 0 (by decide) _ rfl, hcell 1 (by decide) _ rfl, hcell 2 (by decide) _ rfl, hcell 3 (by decide) _ rfl, hcell 4 (by decide) _ rfl, hcell 5 (by decide) _ rfl, hcell 6 (by decide) _ rfl⟩
theorem ToksIn.bel {l : List K.Tk} {lv : Value} {w w' : World} (h : ToksIn l lv w) (k : Below w.heap.size w w') : ToksIn l lv w' := by
  rcases h with h | ⟨g, cap, h1, h2, h3, h4, h5⟩
  · exact .inl h
  · refine .inr ⟨g, cap, h1, h2, h3, Nat.lt_of_lt_of_le h4 k.size, ?_⟩
    intro i t hi
    obtain ⟨p, n, c, h6, h7⟩ := h5 i t hi
    exact ⟨p, n, c, h6.bel k, fun W hW => h7 W (k.trans (hW.mono k.size))⟩

set_option maxHeartbeats 8000000 in
set_option maxRecDepth 100000 in
theorem same_any (pl : Bool) (l m : List K.Tk) (hlm : SameL pl l m) (lv mv : Value) (w : World) (ha : ToksIn l lv w) (hb : ToksIn m mv w) :
    Calls Tryz.prog 12 #[lv, mv, .bool pl] w fun e w' => e = .returned (.bool true) ∧ Below w.heap.size w w' := by
  rcases ha with ⟨rfl, rfl⟩ | ⟨g, cap, rfl, hc1, hc2, hgl, hca⟩
  · rcases hb with ⟨rfl, rfl⟩ | ⟨g2, cap2, rfl, hd1, hd2, hgl2, hcb⟩
    · clear hlm
      go_enter Tryz.func12, Tryz.ntmps12
      go_wp2
      refine wp_loop_rounds 1 ?_
      rw [rounds_succ]
      go_wp2
      go_ret
      exact ⟨rfl, Below.refl _ _⟩
    · have h0 : m.length = 0 := hlm.count.symm
      rw [h0] at hd1 ⊢
      clear hlm hcb
      go_enter Tryz.func12, Tryz.ntmps12
      go_wp2
      refine wp_loop_rounds 1 ?_
      rw [rounds_succ]
      go_wp2
      go_ret
      exact ⟨rfl, Below.refl _ _⟩
  · rcases hb with ⟨rfl, rfl⟩ | ⟨g2, cap2, rfl, hd1, hd2, hgl2, hcb⟩
    · have h0 : l.length = 0 := hlm.count
      rw [h0] at hc1 ⊢
      clear hlm hca
      go_enter Tryz.func12, Tryz.ntmps12
      go_wp2
      refine wp_loop_rounds 1 ?_
      rw [rounds_succ]
      go_wp2
      go_ret
      exact ⟨rfl, Below.refl _ _⟩
    · have hlen := hlm.count
      rw [← hlen] at hd1 ⊢
      have hll : l.length ≤ 9223372036854775807 := by unfold maxLen at hc2; omega
      obtain ⟨n, hn⟩ : ∃ n, l.length = n := ⟨_, rfl⟩
      have HN := Lib.hid hn
      have HL := Lib.hid hlen
      have HCA := Lib.hid hca
      have HCB := Lib.hid hcb
      have HS := Lib.hid hlm
      rw [hn] at hll hd1 hc1 ⊢
      clear hn hlen hca hcb hlm
      go_enter Tryz.func12, Tryz.ntmps12
      go_wp2
      go_loopg [7] n (fun gg iv wr => ∃ i : Nat, iv = .int .i64 (i : Int) ∧ n - i = gg ∧ i ≤ n ∧ Below w.heap.size w wr)
      case atStart => exact ⟨0, rfl, rfl, Nat.zero_le _, Below.refl _ _⟩
      case round =>
        obtain ⟨i, rfl, hg, him, hbel⟩ := hrel
        have HBel := Lib.hid hbel
        by_cases hlt : i < n
        · have hla : i < l.length := by have := HN.out; omega
          obtain ⟨s, hs⟩ : ∃ s, l[i]? = some s := ⟨_, List.getElem?_eq_getElem hla⟩
          obtain ⟨t, ht⟩ : ∃ t, m[i]? = some t := ⟨_, List.getElem?_eq_getElem (by have := HL.out; omega)⟩
          have hst := HS.out.toks i s t hs ht
          obtain ⟨p, k, c, hA, hC⟩ := HCA.out i s hs
          obtain ⟨p2, k2, c2, hA2, hC2⟩ := HCB.out i t ht
          have htk : ∀ W, Below w.heap.size w W → Calls Tryz.prog 30 #[tokVal s (.slice p k c), tokVal t (.slice p2 k2 c2), .bool pl] W fun e w' => e = .returned (.bool true) ∧ Below W.heap.size W w' :=
            fun W hW => sameTok_any pl s t hst _ _ W (hA.bel hW) (hA2.bel hW)
          obtain ⟨x0, x1, x2, x3, x4, x5, x6⟩ := hC _ hbel
          obtain ⟨y0, y1, y2, y3, y4, y5, y6⟩ := hC2 _ hbel
          have HTk := Lib.hid htk
          have hi2 : (i : Int) < (n : Int) := by omega
          clear htk hst hs ht hA hA2 hC hC2 hla hbel
          go_wp2
          go_still_tail 9, (by kernel_rfl)
          change wpList _ _ _ _ _ wr.drew
          have htk1 := HTk.out wr.drew HBel.out.drew
          go_wp2_with (go_at_call 30; refine htk1.mono ?_; rintro e w1 ⟨rfl, hb1⟩; have HB1 := Lib.hid hb1; clear hb1)
          go_roundg (n - (i + 1))
          case measure => omega
          case rel => exact ⟨i + 1, by go_num, rfl, by omega, HBel.out.drew.trans ((HB1.out.mono (show w.heap.size ≤ wr.drew.heap.size from HBel.out.size)))⟩
        · have hge : (n : Int) ≤ (i : Int) := by omega
          clear hbel
          go_wp2
          go_ret
          exact ⟨rfl, HBel.out⟩
end Go.Proofs.YtdilngjolhmjnaaGreatDoor
