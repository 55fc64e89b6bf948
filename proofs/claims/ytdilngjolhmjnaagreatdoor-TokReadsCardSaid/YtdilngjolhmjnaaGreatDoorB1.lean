/- The reader takes an attribute. Conditions: those that each theorem names. The reader with what it has told: its list of tokens and its text; xmltok.say. Conditions: those that each theorem names. The reader says a piece of text. Conditions: those that each theorem names. -/
import Derived.Test.YtdilngjolhmjnaaGreatDoorA9
import Derived.Deep.AppendLies
namespace Go.Proofs.YtdilngjolhmjnaaGreatDoor
open Go.RowKit Go.Shelf
set_option linter.all false

theorem Rd.pos {b : Nat} {s : K.St} {x : X6} {w : World} (h : Rd b s x w) : s.2.1 ≤ 65537 ∧ s.2.2 ≤ 65537 := by
  have h1 := h.1.line
  have h2 := h.1.col
  omega
/-- An attribute as a value. -/
abbrev attrVal (a : K.At) : Value := .agg #[.string (bs (U.n8 a.1)), .string (bs (U.n8 a.2.1)), .int .i64 (a.2.2.1 : Int), .int .i64 (a.2.2.2 : Int)]
/-- A store into another block leaves the reader. -/
theorem Rd.other {b : Nat} {s : K.St} {x : X6} {w : World} (h : Rd b s x w) (k i : Nat) (hk : b ≠ k) (v : Value) : Rd b s x (w.setCell ⟨k, i, none⟩ v) :=
  ⟨h.1, by rw [Below.heap_setCell _ _ _ _ (by simpa using hk)]; exact h.2⟩
theorem Env.other {b m : Nat} {x : X6} {w : World} (h : Env b m x w) (k i : Nat) (hm : m ≠ k) (hk : 12 ≤ k) (v : Value) : Env b m x (w.setCell ⟨k, i, none⟩ v) :=
  ⟨h.names, h.lies.keep (Below.heap_setCell _ _ _ _ (by simpa using hm)), h.low.of (fun i hi => Below.heap_setCell _ _ _ _ (by simp; omega)), h.hb, h.hm⟩
/-- The call's two blocks for an attribute. -/
def Two (k : Nat) (C D : Array Value) (w : World) : Prop := w.heap[k]? = some (.cells C 40 (0, 0)) ∧ w.heap[k + 1]? = some (.cells D 40 (0, 0))
theorem Two.bar {b k : Nat} {C D : Array Value} {w w' : World} (h : Two k C D w) (hb : Bar b w w') (hk : b < k) : Two k C D w' := ⟨hb.keep (by omega) h.1, hb.keep (by omega) h.2⟩
theorem Two.set {k i : Nat} {C D : Array Value} {w : World} (h : Two k C D w) (v : Value) : Two k C (D.setIfInBounds i v) (w.setCell ⟨k + 1, i, none⟩ v) :=
  ⟨by rw [Below.heap_setCell _ _ _ _ (by simp)]; exact h.1, heap_set h.2 i v⟩
theorem Bar.setNew {b N : Nat} {w w' : World} (h : Bar b w w') (hN : w.heap.size ≤ N) (i : Nat) (v : Value) : Bar b w (w'.setCell ⟨N, i, none⟩ v) :=
  ⟨h.os, h.tape, h.output, by simp [World.setCell]; exact h.size, fun k hk hb => by rw [Below.heap_setCell _ _ _ _ (by simp; omega)]; exact h.block k hk hb⟩
theorem Two.cells {k : Nat} {a0 a1 a2 a3 d0 d1 d2 d3 : Value} {w : World} (h : Two k #[a0, a1, a2, a3] #[d0, d1, d2, d3] w) :
    (w.cell? ⟨k, 0, none⟩ = some a0 ∧ w.cell? ⟨k, 1, none⟩ = some a1 ∧ w.cell? ⟨k, 2, none⟩ = some a2 ∧ w.cell? ⟨k, 3, none⟩ = some a3) ∧
    (w.cell? ⟨k + 1, 0, none⟩ = some d0 ∧ w.cell? ⟨k + 1, 1, none⟩ = some d1 ∧ w.cell? ⟨k + 1, 2, none⟩ = some d2 ∧ w.cell? ⟨k + 1, 3, none⟩ = some d3) ∧
    (∀ i, w.frozen? ⟨k, i, none⟩ = false) ∧ (∀ i, w.frozen? ⟨k + 1, i, none⟩ = false) := by
  refine ⟨⟨?_, ?_, ?_, ?_⟩, ⟨?_, ?_, ?_, ?_⟩, fun i => Lib.frozen_of_heap h.1 i, fun i => Lib.frozen_of_heap h.2 i⟩
  all_goals first | (rw [Lib.cell_of_heap h.1]; rfl) | (rw [Lib.cell_of_heap h.2]; rfl)

theorem eq_small : Small [61] := by unfold Small; decide
theorem attr1_eq (s : K.St) : K.attr1 s = match K.name s with
  | .error e => .error e
  | .ok (n, s1) => match K.want [61] (K.blanks s1) with
    | .error e => .error e
    | .ok s2 => match K.value (K.blanks s2) with
      | .error e => .error e
      | .ok (v, s3) => .ok ((n, v, s.2), s3) := rfl

set_option maxHeartbeats 8000000 in
set_option maxRecDepth 100000 in
theorem attribute_any (b mm : Nat) (s : K.St) (x : X6) (w : World) (h : Rd b s x w) (he : Env b mm x w) :
    Calls Tryz.prog 85 #[.pointer (some ⟨b, 0, none⟩)] w (Step b x w attrVal (K.attr1 s)) := by
  obtain ⟨c0, c1, c2⟩ := h.cells
  have hlt := h.lt
  have hm := he.lt
  have h12 := he.hb
  have hA : Below w.heap.size w ((w.alloc (.cells #[.string ⟨#[]⟩, .string ⟨#[]⟩, .int .i64 0, .int .i64 0] 40)).alloc (.cells #[.string ⟨#[]⟩, .string ⟨#[]⟩, .int .i64 (s.2.1 : Int), .int .i64 (s.2.2 : Int)] 40)) :=
    ((Below.refl _ _).alloc (Nat.le_refl _) _).alloc (by simp) _
  have hT : Two w.heap.size #[.string ⟨#[]⟩, .string ⟨#[]⟩, .int .i64 0, .int .i64 0] #[.string ⟨#[]⟩, .string ⟨#[]⟩, .int .i64 (s.2.1 : Int), .int .i64 (s.2.2 : Int)] ((w.alloc (.cells #[.string ⟨#[]⟩, .string ⟨#[]⟩, .int .i64 0, .int .i64 0] 40)).alloc (.cells #[.string ⟨#[]⟩, .string ⟨#[]⟩, .int .i64 (s.2.1 : Int), .int .i64 (s.2.2 : Int)] 40)) := by
    refine ⟨?_, ?_⟩
    · rw [Below.heap_alloc _ _ _ (by rw [heap_size]; omega)]; exact heap_new _ _
    · have := heap_new (w.alloc (.cells #[.string ⟨#[]⟩, .string ⟨#[]⟩, .int .i64 0, .int .i64 0] 40)) (.cells #[.string ⟨#[]⟩, .string ⟨#[]⟩, .int .i64 (s.2.1 : Int), .int .i64 (s.2.2 : Int)] 40)
      rw [heap_size] at this
      exact this
  have hR0 := h.below hA
  have HE0 := Lib.hid (he.belN hA hm (by omega))
  have hname := name_any b s x _ hR0
  have HT := Lib.hid hT
  have HR0 := Lib.hid hR0
  have HA := Lib.hid (Below.bar (b := b) hA)
  rw [attr1_eq]
  clear h he hA hT hR0
  cases hn : K.name s with
  | error er =>
    rw [hn] at hname
    clear hn
    go_enter Tryz.func85, Tryz.ntmps85
    go_wp2_with (go_at_call 87; refine hname.mono ?_; rintro e w1 ⟨⟨fb, rfl, hfc⟩, hfb⟩)
    exact ⟨rfl, ⟨_, rfl, hfc⟩, HA.out.trans hfb⟩
  | ok q =>
    obtain ⟨nm, s1⟩ := q
    rw [hn] at hname
    clear hn
    simp only
    have hbl : ∀ (s : K.St) (W : World), Rd b s x W → Calls Tryz.prog 83 #[.pointer (some ⟨b, 0, none⟩)] W fun e w' => e = .returned (.bool (decide (0 < K.nblank s))) ∧ Rd b (K.blanks s) x w' ∧ Bar b W w' := fun s W hW => blanks_any b s x W hW
    have HBL := Lib.hid hbl
    have hwn : ∀ (W : World), Rd b (K.blanks s1) x W → Calls Tryz.prog 88 #[.pointer (some ⟨b, 0, none⟩), .string ⟨#[61]⟩] W (Step b x W noRet (unitOf (K.want [61] (K.blanks s1)))) := fun W hW => want_any [61] eq_small b _ x W hW _ rfl
    clear hbl
    -- behind the name: it is laid
    have arm1 : ∀ w1, Rd b s1 x w1 → Bar b ((w.alloc (.cells #[.string ⟨#[]⟩, .string ⟨#[]⟩, .int .i64 0, .int .i64 0] 40)).alloc (.cells #[.string ⟨#[]⟩, .string ⟨#[]⟩, .int .i64 (s.2.1 : Int), .int .i64 (s.2.2 : Int)] 40)) w1 →
        (w1.cell? ⟨w.heap.size + 1, 0, none⟩ = some (.string ⟨#[]⟩) ∧ w1.frozen? ⟨w.heap.size + 1, 0, none⟩ = false) ∧
        Rd b s1 x (w1.setCell ⟨w.heap.size + 1, 0, none⟩ (.string (bs (U.n8 nm)))) ∧ Env b mm x (w1.setCell ⟨w.heap.size + 1, 0, none⟩ (.string (bs (U.n8 nm)))) ∧ Bar b w (w1.setCell ⟨w.heap.size + 1, 0, none⟩ (.string (bs (U.n8 nm)))) ∧
        Two w.heap.size #[.string ⟨#[]⟩, .string ⟨#[]⟩, .int .i64 0, .int .i64 0] #[.string (bs (U.n8 nm)), .string ⟨#[]⟩, .int .i64 (s.2.1 : Int), .int .i64 (s.2.2 : Int)] (w1.setCell ⟨w.heap.size + 1, 0, none⟩ (.string (bs (U.n8 nm)))) := by
      intro w1 hR hB
      have hT1 := HT.out.bar hB hlt
      obtain ⟨_, ⟨d0, _⟩, _, f⟩ := hT1.cells
      exact ⟨⟨d0, f 0⟩, hR.other _ _ (by omega) _, (HE0.out.bar hB HR0.out.lt).other _ _ (by omega) (by omega) _, (HA.out.trans hB).setNew (by omega) _ _, hT1.set _⟩
    have ARM1 := Lib.hid arm1
    clear arm1
    cases hw : K.want [61] (K.blanks s1) with
    | error er =>
      rw [hw] at hwn
      have HWN := Lib.hid hwn
      clear hw hwn
      go_enter Tryz.func85, Tryz.ntmps85
      go_wp2_with (first
        | (go_at_call 87; refine hname.mono ?_; rintro e w1 ⟨rfl, hR1, hB1⟩; obtain ⟨⟨cc1, cf1⟩, hR2, hE2, hB2, hT2⟩ := ARM1.out _ hR1 hB1; have hb2 := HBL.out _ _ hR2; have HB2 := Lib.hid hB2; clear hR1 hB1 hR2 hE2 hT2 hB2)
        | (go_at_call 83; refine hb2.mono ?_; rintro e w2 ⟨rfl, hR3, hB3⟩; have hw3 := HWN.out _ hR3; have HB3 := Lib.hid (HB2.out.trans hB3); clear hR3 hB3)
        | (go_at_call 88; refine hw3.mono ?_; rintro e w3 ⟨⟨fb, rfl, hfc⟩, hfb⟩))
      exact ⟨rfl, ⟨_, rfl, hfc⟩, HB3.out.trans hfb⟩
    | ok s2 =>
      rw [hw] at hwn
      have HWN := Lib.hid hwn
      clear hw hwn
      simp only
      have hvl : ∀ (W : World), Rd b (K.blanks s2) x W → Env b mm x W → Calls Tryz.prog 100 #[.pointer (some ⟨b, 0, none⟩)] W (Step b x W strRet (K.value (K.blanks s2))) := fun W hW hE => value_any b mm _ x W hW hE
      cases hv : K.value (K.blanks s2) with
      | error er =>
        rw [hv] at hvl
        have HVL := Lib.hid hvl
        clear hv hvl
        go_enter Tryz.func85, Tryz.ntmps85
        go_wp2_with (first
          | (go_at_call 87; refine hname.mono ?_; rintro e w1 ⟨rfl, hR1, hB1⟩; obtain ⟨⟨cc1, cf1⟩, hR2, hE2, hB2, hT2⟩ := ARM1.out _ hR1 hB1; have hb2 := HBL.out _ _ hR2; have HR2 := Lib.hid hR2; have HB2 := Lib.hid hB2; have HE2 := Lib.hid hE2; clear hR1 hB1 hR2 hE2 hT2 hB2)
          | (go_at_call 83; first
            | ((with_reducible refine hb2.mono ?_); rintro e w2 ⟨rfl, hR3, hB3⟩; have hw3 := HWN.out _ hR3; have HE3 := Lib.hid (HE2.out.bar hB3 HR2.out.lt); have HR3 := Lib.hid hR3; have HB3 := Lib.hid (HB2.out.trans hB3); clear hR3 hB3)
            | ((with_reducible refine hb4.mono ?_); rintro e w4 ⟨rfl, hR5, hB5⟩; have hv5 := HVL.out _ hR5 (HE4.out.bar hB5 HR4.out.lt); have HB5 := Lib.hid (HB4.out.trans hB5); clear hR5 hB5))
          | (go_at_call 88; refine hw3.mono ?_; rintro e w3 ⟨rfl, hR4, hB4⟩; have hb4 := HBL.out _ _ hR4; have HE4 := Lib.hid (HE3.out.bar hB4 HR3.out.lt); have HR4 := Lib.hid hR4; have HB4 := Lib.hid (HB3.out.trans hB4); clear hR4 hB4)
          | (go_at_call 100; refine hv5.mono ?_; rintro e w5 ⟨⟨fb, rfl, hfc⟩, hfb⟩))
        exact ⟨rfl, ⟨_, rfl, hfc⟩, HB5.out.trans hfb⟩
      | ok q =>
        obtain ⟨vv, s3⟩ := q
        rw [hv] at hvl
        have HVL := Lib.hid hvl
        clear hv hvl
        simp only
        go_enter Tryz.func85, Tryz.ntmps85
        go_wp2_with (first
          | (go_at_call 87; refine hname.mono ?_; rintro e w1 ⟨rfl, hR1, hB1⟩; obtain ⟨⟨cc1, cf1⟩, hR2, hE2, hB2, hT2⟩ := ARM1.out _ hR1 hB1; have hb2 := HBL.out _ _ hR2; have HR2 := Lib.hid hR2; have HB2 := Lib.hid hB2; have HE2 := Lib.hid hE2; have HT2 := Lib.hid hT2; clear hR1 hB1 hR2 hE2 hT2 hB2)
          | (go_at_call 83; first
            | ((with_reducible refine hb2.mono ?_); rintro e w2 ⟨rfl, hR3, hB3⟩; have hw3 := HWN.out _ hR3; have HE3 := Lib.hid (HE2.out.bar hB3 HR2.out.lt); have HT3 := Lib.hid (HT2.out.bar hB3 hlt); have HR3 := Lib.hid hR3; have HB3 := Lib.hid (HB2.out.trans hB3); clear hR3 hB3)
            | ((with_reducible refine hb4.mono ?_); rintro e w4 ⟨rfl, hR5, hB5⟩; have hv5 := HVL.out _ hR5 (HE4.out.bar hB5 HR4.out.lt); have HT5 := Lib.hid (HT4.out.bar hB5 hlt); have HB5 := Lib.hid (HB4.out.trans hB5); clear hR5 hB5))
          | (go_at_call 88; refine hw3.mono ?_; rintro e w3 ⟨rfl, hR4, hB4⟩; have hb4 := HBL.out _ _ hR4; have HE4 := Lib.hid (HE3.out.bar hB4 HR3.out.lt); have HT4 := Lib.hid (HT3.out.bar hB4 hlt); have HR4 := Lib.hid hR4; have HB4 := Lib.hid (HB3.out.trans hB4); clear hR4 hB4)
          | (go_at_call 100; refine hv5.mono ?_; rintro e w5 ⟨rfl, hR6, hB6⟩; have HT6 := Lib.hid (HT5.out.bar hB6 hlt); have HR6 := Lib.hid hR6; have HB6 := Lib.hid (HB5.out.trans hB6); clear hR6 hB6; obtain ⟨⟨t0, t1, t2, t3⟩, ⟨d0, d1, d2, d3⟩, ft, fd⟩ := HT6.out.cells; have fd1 := fd 1; have ft0 := ft 0; have ft1 := ft 1; have ft2 := ft 2; have ft3 := ft 3; clear ft fd))
        have hW : ∀ W, W = (((((w5.setCell ⟨w.heap.size + 1, 1, none⟩ (.string (bs (U.n8 vv)))).setCell ⟨w.heap.size, 0, none⟩ (.string (bs (U.n8 nm)))).setCell ⟨w.heap.size, 1, none⟩ (.string (bs (U.n8 vv)))).setCell ⟨w.heap.size, 2, none⟩ (.int .i64 (s.2.1 : Int))).setCell ⟨w.heap.size, 3, none⟩ (.int .i64 (s.2.2 : Int))) →
            (W.cell? ⟨w.heap.size, 0, none⟩ = some (.string (bs (U.n8 nm))) ∧ W.cell? ⟨w.heap.size, 1, none⟩ = some (.string (bs (U.n8 vv))) ∧ W.cell? ⟨w.heap.size, 2, none⟩ = some (.int .i64 (s.2.1 : Int)) ∧ W.cell? ⟨w.heap.size, 3, none⟩ = some (.int .i64 (s.2.2 : Int))) ∧ Rd b s3 x W ∧ Bar b w W := by
          rintro W rfl
          have hTT := HT6.out.set (i := 1) (.string (bs (U.n8 vv)))
          have hb := heap_set (heap_set (heap_set (heap_set hTT.1 0 (.string (bs (U.n8 nm)))) 1 (.string (bs (U.n8 vv)))) 2 (.int .i64 (s.2.1 : Int))) 3 (.int .i64 (s.2.2 : Int))
          refine ⟨⟨?_, ?_, ?_, ?_⟩, ((((HR6.out.other _ _ (by omega) _).other _ _ (by omega) _).other _ _ (by omega) _).other _ _ (by omega) _).other _ _ (by omega) _, ((((HB6.out.setNew (by omega) _ _).setNew (by omega) _ _).setNew (by omega) _ _).setNew (by omega) _ _).setNew (by omega) _ _⟩
          all_goals (rw [Lib.cell_of_heap hb]; rfl)
        obtain ⟨⟨g0, g1, g2, g3⟩, hRd, hBb⟩ := hW _ rfl
        have HRd := Lib.hid hRd
        have HBb := Lib.hid hBb
        clear hW hRd hBb
        generalize (((((w5.setCell ⟨w.heap.size + 1, 1, none⟩ (.string (bs (U.n8 vv)))).setCell ⟨w.heap.size, 0, none⟩ (.string (bs (U.n8 nm)))).setCell ⟨w.heap.size, 1, none⟩ (.string (bs (U.n8 vv)))).setCell ⟨w.heap.size, 2, none⟩ (.int .i64 (s.2.1 : Int))).setCell ⟨w.heap.size, 3, none⟩ (.int .i64 (s.2.2 : Int))) = W at g0 g1 g2 g3 HRd HBb ⊢
        refine bodyPost_ret (v := attrVal (nm, vv, s.2)) ?_ rfl ?_
        · simp [results, Tryz.results85, go_sem, g0, g1, g2, g3]
        · exact ⟨rfl, HRd.out, HBb.out⟩
end Go.Proofs.YtdilngjolhmjnaaGreatDoor
namespace Go.Proofs.YtdilngjolhmjnaaGreatDoor
open Go.RowKit Go.Shelf
set_option linter.all false

/-- Blocks of cells of type e that are nowhere frozen stay. -/
def KeepT (e : TypeId) (w w' : World) : Prop := ∀ (g : Nat) (c : Array Value), w.heap[g]? = some (.cells c e (0, 0)) → w'.heap[g]? = some (.cells c e (0, 0))
theorem KeepT.trans {e : TypeId} {a b c : World} (h : KeepT e a b) (k : KeepT e b c) : KeepT e a c := fun g x hx => k g x (h g x hx)
theorem KeepT.refl (e : TypeId) (w : World) : KeepT e w w := fun _ _ h => h
theorem KeepT.bel {e : TypeId} {w w' : World} (h : Below w.heap.size w w') : KeepT e w w' := fun _ _ hx => Below.keep h hx
theorem KeepT.bar {e : TypeId} {b : Nat} {C : Array Value} {f : Nat × Nat} {w w' : World} (h : Bar b w w') (hb : w.heap[b]? = some (.cells C 57 f)) (he : e ≠ 57) : KeepT e w w' := by
  intro g c hx
  refine h.keep ?_ hx
  rintro rfl
  rw [hb] at hx
  cases hx
  exact he rfl
theorem KeepT.others {e : TypeId} {b : Nat} {C : Array Value} {f : Nat × Nat} {w w' : World} (h : Lib.OthersKept 5 (some b) w w') (hb : w.heap[b]? = some (.cells C 57 f)) (he : e ≠ 57) (h5 : e ≠ 5) : KeepT e w w' := by
  intro g c hx
  refine h g _ hx ?_ ?_
  · intro hg
    cases hg
    rw [hb] at hx
    cases hx
    exact he rfl
  · intro c' f' hc
    cases hc
    exact h5 rfl
theorem KeepT.set {e T : TypeId} {b : Nat} {C : Array Value} {f : Nat × Nat} {w : World} (hb : w.heap[b]? = some (.cells C T f)) (he : e ≠ T) (i : Nat) (v : Value) : KeepT e w (w.setCell ⟨b, i, none⟩ v) := by
  intro g c hx
  rw [Below.heap_setCell _ _ _ _ ?_]
  · exact hx
  · rintro rfl
    rw [hb] at hx
    cases hx
    exact he rfl
theorem KeepT.grown {e : TypeId} {w w' : World} {row : Option Nat} (h : w.grownBy w' row) (hr : ∀ g, row = some g → ∃ c T f, w.heap[g]? = some (.cells c T f) ∧ T ≠ e) : KeepT e w w' := by
  intro g c hx
  rw [h.block g (lt_of_heap hx) ?_]
  · exact hx
  · intro hg
    obtain ⟨c', T, f, hc, hT⟩ := hr g hg.symm
    rw [hc] at hx
    cases hx
    exact hT rfl
theorem KeepT.own {e : TypeId} {w w' : World} {B sz n : Nat} {v : Value} {xs : List Value} (k : KeepT e w w') (h : w.ownsRow B e sz v n xs) : w'.ownsRow B e sz v n xs := by
  refine ⟨h.1, ?_⟩
  rcases h.2 with hn | ⟨g, cap, cur, hv, hB, hg, r⟩
  · exact .inl hn
  · exact .inr ⟨g, cap, cur, hv, hB, k g cur hg, r⟩
theorem own_block {w : World} {B : Nat} {e : TypeId} {sz n : Nat} {v : Value} {xs : List Value} (h : w.ownsRow B e sz v n xs) : ∀ g, v.ownBlock = some g → B ≤ g ∧ ∃ c, w.heap[g]? = some (.cells c e (0, 0)) := by
  intro g hg
  rcases h.2 with ⟨rfl, _⟩ | ⟨g', cap, cur, rfl, hB, hgg, _⟩
  · simp [Value.ownBlock] at hg
  · simp [Value.ownBlock] at hg
    subst hg
    exact ⟨hB, cur, hgg⟩

def attrCells : List K.At → List Value
  | [] => []
  | a :: l => .string (bs (U.n8 a.1)) :: .string (bs (U.n8 a.2.1)) :: .int .i64 (a.2.2.1 : Int) :: .int .i64 (a.2.2.2 : Int) :: attrCells l
theorem attrCells_length : ∀ (l : List K.At), (attrCells l).length = l.length * 4
  | [] => rfl
  | a :: l => by simp [attrCells, attrCells_length l]; omega
theorem attrCells_snoc : ∀ (l : List K.At) (a : K.At), attrCells (l ++ [a]) = attrCells l ++ attrCells [a]
  | [], a => rfl
  | x :: l, a => by simp [attrCells, attrCells_snoc l a]
abbrev tokCells (t : K.Tk) (av : Value) : List Value := [.int .i64 (t.kind : Int), .string (bs (U.n8 t.name)), av, .string (bs (U.n8 t.text)), .int .i64 (t.place.1 : Int), .int .i64 (t.place.2 : Int), .bool t.empty]
/-- The tokens' cells; each token's attributes in a row of the call's own. -/
def ToksAt (B : Nat) (w : World) : List K.Tk → List Value → Prop
  | [], xs => xs = []
  | t :: l, xs => ∃ av ys, xs = tokCells t av ++ ys ∧ w.ownsRow B 40 4 av t.attrs.length (attrCells t.attrs) ∧ ToksAt B w l ys
theorem ToksAt.keep {B : Nat} {w w' : World} (k : KeepT 40 w w') : ∀ {l : List K.Tk} {xs : List Value}, ToksAt B w l xs → ToksAt B w' l xs
  | [], _, h => h
  | _ :: _, _, ⟨av, ys, e, ho, hr⟩ => ⟨av, ys, e, k.own ho, ToksAt.keep k hr⟩
theorem ToksAt.snoc {B : Nat} {w : World} {t : K.Tk} {av : Value} (ho : w.ownsRow B 40 4 av t.attrs.length (attrCells t.attrs)) : ∀ {l : List K.Tk} {xs : List Value}, ToksAt B w l xs → ToksAt B w (l ++ [t]) (xs ++ tokCells t av)
  | [], _, h => by cases h; exact ⟨av, [], by simp, ho, rfl⟩
  | _ :: _, _, ⟨av', ys, e, ho', hr⟩ => ⟨av', ys ++ tokCells t av, by rw [e, List.append_assoc], ho', ToksAt.snoc ho hr⟩

abbrev cells9 (s : K.St) (x : X6) : Array Value := #[.string (bs (U.n8 s.1)), .int .i64 (s.2.1 : Int), .int .i64 (s.2.2 : Int), x.1, x.2.1, x.2.2.1, x.2.2.2.1, x.2.2.2.2.1, x.2.2.2.2.2]
/-- The reader, and what it has told. -/
structure Inv (b mm B : Nat) (s : K.St) (t : K.Told) (x : X6) (w : World) : Prop where
  rd : Rd b s x w
  env : Env b mm x w
  hB : B ≤ b
  list : ∃ xs, w.ownsRow B 38 7 x.2.1 t.toks.length xs ∧ ToksAt B w t.toks xs
  text : BdAt B b 5 57 (cells9 s x) (Lib.byteCells (U.n8 t.text)) w
  at_ : t.text ≠ [] → x.2.2.2.2.1 = .int .i64 (t.place.1 : Int) ∧ x.2.2.2.2.2 = .int .i64 (t.place.2 : Int)
  here : ∃ l c : Int, x.2.2.2.2.1 = .int .i64 l ∧ x.2.2.2.2.2 = .int .i64 c
  sc : K.Sc t.text
  room : t.text.length + s.1.length ≤ 65536
  many : t.toks.length + (if t.text = [] then 0 else 1) + s.1.length ≤ 65537
theorem Inv.heap {b mm B : Nat} {s : K.St} {t : K.Told} {x : X6} {w : World} (h : Inv b mm B s t x w) : w.heap[b]? = some (.cells (cells9 s x) 57 (0, 0)) := h.rd.2
/-- A step of the reader alone leaves what it has told. -/
theorem Inv.step {b mm B : Nat} {s s' : K.St} {t : K.Told} {x : X6} {w w' : World} (h : Inv b mm B s t x w) (hR : Rd b s' x w') (k : Bar b w w') (hl : s'.1.length ≤ s.1.length) : Inv b mm B s' t x w' := by
  obtain ⟨hrd, henv, hB, ⟨xs, ho, hts⟩, htx, hat, hhere, hsc, hroom, hmany⟩ := h
  refine ⟨hR, henv.bar k hrd.lt, hB, ⟨xs, (KeepT.bar k hrd.2 (by decide)).own ho, hts.keep (KeepT.bar k hrd.2 (by decide))⟩, ?_, hat, hhere, hsc, by omega, by omega⟩
  obtain ⟨_, hk, hbk, ha, v, hv, hown⟩ := htx
  have hne := bd_ne hk hbk hown
  refine ⟨hB, hk, hR.2, ha, v, hv, hown.kept (row := some b) ⟨k.os, k.tape, k.output, k.size, fun i hi hn => k.block i hi (fun e => hn (by rw [e]))⟩ (.inr hne)⟩
theorem BdAt.put {B b o T i : Nat} {C : Array Value} {xs : List Value} {w : World} (h : BdAt B b o T C xs w) (h1 : i ≠ o) (h2 : i ≠ o + 1) (v : Value) : BdAt B b o T (C.setIfInBounds i v) xs (w.setCell ⟨b, i, none⟩ v) := by
  obtain ⟨hB, hk, hbk, ha, u, hu, hown⟩ := h
  have hne := bd_ne hk hbk hown
  refine ⟨hB, by rw [Array.size_setIfInBounds]; exact hk, heap_set hbk i v, ?_, u, ?_, own_set (T := T) (C := C) i v hown hne⟩
  · rw [Array.getElem?_setIfInBounds_ne h1]; exact ha
  · rw [Array.getElem?_setIfInBounds_ne h2]; exact hu
theorem BdAt.bel {B b o T : Nat} {C : Array Value} {xs : List Value} {w w' : World} (h : BdAt B b o T C xs w) (k : Below w.heap.size w w') : BdAt B b o T C xs w' := by
  obtain ⟨hB, hk, hbk, ha, u, hu, hown⟩ := h
  refine ⟨hB, hk, Below.keep k hbk, ha, u, hu, hown.kept (row := none) ⟨k.os, k.tape, k.output, k.size, fun i hi _ => k.block i hi⟩ ?_⟩
  cases u.ownBlock <;> simp
end Go.Proofs.YtdilngjolhmjnaaGreatDoor
namespace Go.Proofs.YtdilngjolhmjnaaGreatDoor
open Go.RowKit Go.Shelf
set_option linter.all false

theorem Wrote.rd {b B : Nat} {s : K.St} {x : X6} {xs ys : List Value} {w w' : World} (hF : Fit s) (h : Wrote B b 5 57 (cells9 s x) xs ys w w') :
    ∃ v', Rd b s (x.1, x.2.1, .pointer (some ⟨b, 5, none⟩), v', x.2.2.2.2) w' ∧ BdAt B b 5 57 (cells9 s (x.1, x.2.1, .pointer (some ⟨b, 5, none⟩), v', x.2.2.2.2)) (xs ++ ys) w' ∧ Below B w w' ∧ Lib.OthersKept 5 (some b) w w' := by
  obtain ⟨v', hbd, hbel, ho⟩ := h
  exact ⟨v', ⟨hF, hbd.2.2.1⟩, hbd, hbel, ho⟩
/-- What a writer into the reader's own block and its buffer leaves of what stands round it. -/
theorem Env.oth {b mm B : Nat} {x x' : X6} {w w' : World} (h : Env b mm x w) (hx : x'.1 = x.1) (ho : Lib.OthersKept 5 (some b) w w') (hb : Below B w w') (hB : 12 ≤ B) : Env b mm x' w' := by
  refine ⟨hx.trans h.names, ?_, h.low.below hb hB, h.hb, h.hm⟩
  obtain ⟨es, clock, hm, r⟩ := h.lies
  exact ⟨es, clock, ho mm _ hm (by simp; exact h.hm) (fun c f => by simp), r⟩
theorem oth_set {b : Nat} (w : World) (i : Nat) (v : Value) : Lib.OthersKept 5 (some b) w (w.setCell ⟨b, i, none⟩ v) := (Lib.OthersKept.refl _ _ _).setCell ⟨b, i, none⟩ rfl _
theorem say_text (t : K.Told) (m : List Nat) (p : K.Pl) : (K.say t m p).text = t.text ++ m ∧ (K.say t m p).toks = t.toks := ⟨rfl, rfl⟩
theorem text_len {t : List Nat} : ((Lib.byteCells (U.n8 t)).length : Int) = ((U.n8 t).length : Int) := by rw [Lib.byteCells_length]

/-- What say leaves. -/
def Said (b mm B : Nat) (s : K.St) (t : K.Told) (m : List Nat) (p : K.Pl) (w : World) (e : Ending) (w' : World) : Prop :=
  e = .returned (.tuple #[]) ∧ ∃ x', Inv b mm B s (K.say t m p) x' w' ∧ Below B w w' ∧ KeepT 29 w w'

set_option maxHeartbeats 4000000 in
set_option maxRecDepth 100000 in
theorem say_any (b mm B : Nat) (s : K.St) (t : K.Told) (x : X6) (w : World) (h : Inv b mm B s t x w) (m : List Nat) (hm : K.Sc m) (p : K.Pl) (hroom : t.text.length + m.length + s.1.length ≤ 65536)
    (hmany : t.toks.length + (if t.text ++ m = [] then 0 else 1) + s.1.length ≤ 65537) (h12 : 12 ≤ B) :
    Calls Tryz.prog 92 #[.pointer (some ⟨b, 0, none⟩), .string (bs (U.n8 m)), .agg #[.int .i64 (p.1 : Int), .int .i64 (p.2 : Int)]] w (Said b mm B s t m p w) := by
  obtain ⟨hrd, henv, hB, ⟨xs, hown, htoks⟩, htext, hat, ⟨hl, hc, hlv, hcv⟩, hsc, hr0, hm0⟩ := h
  have hblt := hrd.lt
  have hmlt := henv.lt
  have hbox : Below w.heap.size w (w.alloc (.cells #[.int .i64 (p.1 : Int), .int .i64 (p.2 : Int)] 29)) := (Below.refl _ _).alloc (Nat.le_refl _) _
  have htext1 := htext.bel hbox
  have hrd1 := hrd.below hbox
  have hnew := heap_new w (.cells #[.int .i64 (p.1 : Int), .int .i64 (p.2 : Int)] 29)
  have hk38 : KeepT 38 w (w.alloc (.cells #[.int .i64 (p.1 : Int), .int .i64 (p.2 : Int)] 29)) := .bel hbox
  have hk40 : KeepT 40 w (w.alloc (.cells #[.int .i64 (p.1 : Int), .int .i64 (p.2 : Int)] 29)) := .bel hbox
  have hk29 : KeepT 29 w (w.alloc (.cells #[.int .i64 (p.1 : Int), .int .i64 (p.2 : Int)] 29)) := .bel hbox
  have hs1 : (w.alloc (.cells #[.int .i64 (p.1 : Int), .int .i64 (p.2 : Int)] 29)).heap.size = w.heap.size + 1 := heap_size _ _
  have henv1 : Env b mm x (w.alloc (.cells #[.int .i64 (p.1 : Int), .int .i64 (p.2 : Int)] 29)) := henv.bar (.of_below hbox) hblt
  generalize hW1 : w.alloc (.cells #[.int .i64 (p.1 : Int), .int .i64 (p.2 : Int)] 29) = w1 at htext1 hrd1 hnew hk38 hk40 hk29 hs1 hbox henv1
  have hlen := len_any B b 5 57 _ _ w1 htext1
  have h4 := n8_len4 t.text
  have h4m := n8_len4 m
  have hmz := bs_size (U.n8 m)
  have hb7 : w1.cell? ⟨b, 7, none⟩ = some (.int .i64 hl) := by rw [Lib.cell_of_heap hrd1.2, ← hlv]; rfl
  have hb8 : w1.cell? ⟨b, 8, none⟩ = some (.int .i64 hc) := by rw [Lib.cell_of_heap hrd1.2, ← hcv]; rfl
  have hf7 : w1.frozen? ⟨b, 7, none⟩ = false := Lib.frozen_of_heap hrd1.2 _
  have hf8 : w1.frozen? ⟨b, 8, none⟩ = false := Lib.frozen_of_heap hrd1.2 _
  have wb7 : w.cell? ⟨b, 7, none⟩ = some (.int .i64 hl) := by rw [Lib.cell_of_heap hrd.2, ← hlv]; rfl
  have wb8 : w.cell? ⟨b, 8, none⟩ = some (.int .i64 hc) := by rw [Lib.cell_of_heap hrd.2, ← hcv]; rfl
  have wf7 : w.frozen? ⟨b, 7, none⟩ = false := Lib.frozen_of_heap hrd.2 _
  have wf8 : w.frozen? ⟨b, 8, none⟩ = false := Lib.frozen_of_heap hrd.2 _
  have xf8 : ((w.setCell ⟨b, 7, none⟩ (.int .i64 (p.1 : Int))).alloc (.cells #[.int .i64 (p.1 : Int), .int .i64 (p.2 : Int)] 29)).frozen? ⟨b, 8, none⟩ = false :=
    Lib.frozen_of_heap (Below.keep ((Below.refl _ _).alloc (Nat.le_refl _) _) (heap_set hrd.2 7 _)) _
  have hn0 : w1.cell? ⟨w.heap.size, 0, none⟩ = some (.int .i64 (p.1 : Int)) := by rw [Lib.cell_of_heap hnew]; rfl
  have hn1 : w1.cell? ⟨w.heap.size, 1, none⟩ = some (.int .i64 (p.2 : Int)) := by rw [Lib.cell_of_heap hnew]; rfl
  rw [text_len] at hlen
  by_cases ht : t.text = []
  · have h0 : (U.n8 t.text).length = 0 := by rw [ht]; rfl
    rw [h0] at hlen
    have hlen : Calls Tryz.prog 70 #[.pointer (some ⟨b, 5, none⟩)] w1 fun e w' => e = .returned (.int .i64 0) ∧ w1 = w' := hlen
    have hw2 := ((htext1.put (i := 7) (by decide) (by decide) (.int .i64 (p.1 : Int))).put (i := 8) (by decide) (by decide) (.int .i64 (p.2 : Int)))
    have hwrite := writeString_any B b 5 57 _ _ (bs (U.n8 m)) _ hw2 (by rw [Lib.byteCells_length]; omega) (by have := lt_of_heap hw2.2.2.1; omega)
    have hsay : K.say t m p = ⟨t.toks, m, p⟩ := by unfold K.say; rw [ht]; rfl
    have hfin : ∀ w', Wrote B b 5 57 (cells9 s (x.1, x.2.1, x.2.2.1, x.2.2.2.1, .int .i64 (p.1 : Int), .int .i64 (p.2 : Int))) (Lib.byteCells (U.n8 t.text)) (Lib.strCells (bs (U.n8 m))) ((w1.setCell ⟨b, 7, none⟩ (.int .i64 (p.1 : Int))).setCell ⟨b, 8, none⟩ (.int .i64 (p.2 : Int))) w' → ∃ x', Inv b mm B s (K.say t m p) x' w' ∧ Below B w w' ∧ KeepT 29 w w' := by
      intro w' hwr
      obtain ⟨v', hR, hbd, hbel, hoth⟩ := Wrote.rd hrd.1 hwr
      have hk : ∀ e, e ≠ 57 → e ≠ 5 → KeepT e w1 w' := fun e h1 h2 => ((KeepT.set hrd1.2 h1 7 _).trans (KeepT.set (heap_set hrd1.2 7 _) h1 8 _)).trans (KeepT.others hoth hw2.2.2.1 h1 h2)
      have hBel : Below B w1 w' := (((Below.refl B w1).setCell (p := ⟨b, 7, none⟩) hB _).setCell (p := ⟨b, 8, none⟩) hB _).trans hbel
      refine ⟨_, ⟨hR, ?_, hB, ⟨xs, (hk38.trans (hk 38 (by decide) (by decide))).own hown, htoks.keep (hk40.trans (hk 40 (by decide) (by decide)))⟩, ?_, ?_, ⟨_, _, rfl, rfl⟩, ?_, ?_, ?_⟩, (hbox.mono (by omega)).trans hBel, hk29.trans (hk 29 (by decide) (by decide))⟩
      · exact henv1.oth (x' := (x.1, x.2.1, _, v', _, _)) rfl (((oth_set w1 7 _).trans (oth_set _ 8 _)).trans hoth) hBel h12
      · rw [ht] at hbd
        rw [hsay]
        exact hbd
      · intro _
        rw [hsay]
        exact ⟨rfl, rfl⟩
      · rw [hsay]; exact hm
      · rw [hsay]; show m.length + _ ≤ _; omega
      · rw [hsay]
        rw [ht] at hmany
        exact hmany
    have HF := Lib.hid hfin
    have hsz : ((bs (U.n8 m)).size : Int) ≤ 400000 := by omega
    subst hW1
    rw [World.setCell_alloc_past _ _ _ _ hblt, World.setCell_alloc_past _ _ _ _ (by simp [World.setCell]; exact hblt)] at hwrite HF
    clear hfin hw2 hsay htext1 hrd1 hk38 hk40 hk29 hbox henv1 h0 hat hlv hcv htext hown htoks hrd henv hnew ht hmz
    go_enter Tryz.func92, Tryz.ntmps92
    go_wp2_with (first
      | (go_at_call 70; refine hlen.mono ?_; rintro e w' ⟨rfl, rfl⟩)
      | (go_at_call 34; refine hwrite.mono ?_; rintro e w' ⟨rfl, hw⟩))
    go_end0
    exact ⟨rfl, HF.out _ hw⟩
  · have h0 : (((U.n8 t.text).length : Int) == 0) = false := by
      have : (U.n8 t.text).length ≠ 0 := fun h => ht (K.n8_eq_nil.1 (List.eq_nil_of_length_eq_zero h))
      exact beq_eq_false_iff_ne.2 (by omega)
    have hwrite := writeString_any B b 5 57 _ _ (bs (U.n8 m)) _ htext1 (by rw [Lib.byteCells_length]; omega) (by have := lt_of_heap htext1.2.2.1; omega)
    have hsay : K.say t m p = ⟨t.toks, t.text ++ m, t.place⟩ := by unfold K.say; rw [if_neg ht]
    have hfin : ∀ w', Wrote B b 5 57 (cells9 s x) (Lib.byteCells (U.n8 t.text)) (Lib.strCells (bs (U.n8 m))) w1 w' → ∃ x', Inv b mm B s (K.say t m p) x' w' ∧ Below B w w' ∧ KeepT 29 w w' := by
      intro w' hwr
      obtain ⟨v', hR, hbd, hbel, hoth⟩ := Wrote.rd hrd.1 hwr
      have hk : ∀ e, e ≠ 57 → e ≠ 5 → KeepT e w1 w' := fun e h1 h2 => KeepT.others hoth htext1.2.2.1 h1 h2
      refine ⟨_, ⟨hR, henv1.oth (x' := (x.1, x.2.1, _, v', _, _)) rfl hoth hbel h12, hB, ⟨xs, (hk38.trans (hk 38 (by decide) (by decide))).own hown, htoks.keep (hk40.trans (hk 40 (by decide) (by decide)))⟩, ?_, ?_, ⟨_, _, hlv, hcv⟩, ?_, ?_, ?_⟩, (hbox.mono (by omega)).trans hbel, hk29.trans (hk 29 (by decide) (by decide))⟩
      · rw [hsay]
        show BdAt B b 5 57 _ (Lib.byteCells (U.n8 (t.text ++ m))) w'
        rw [U.n8_append, Lib.byteCells_append]
        exact hbd
      · intro _
        rw [hsay]
        exact hat ht
      · rw [hsay]; exact hsc.append hm
      · rw [hsay]; show (t.text ++ m).length + _ ≤ _; rw [List.length_append]; omega
      · rw [hsay]; exact hmany
    have HF := Lib.hid hfin
    have hsz : ((bs (U.n8 m)).size : Int) ≤ 400000 := by omega
    subst hW1
    clear hfin hsay htext1 hrd1 hk38 hk40 hk29 hbox henv1 hat hlv hcv htext hown htoks hrd henv hnew ht hmz
    go_enter Tryz.func92, Tryz.ntmps92
    go_wp2_with (first
      | (go_at_call 70; refine hlen.mono ?_; rintro e w' ⟨rfl, rfl⟩)
      | (go_at_call 34; refine hwrite.mono ?_; rintro e w' ⟨rfl, hw⟩))
    go_end0
    exact ⟨rfl, HF.out _ hw⟩
end Go.Proofs.YtdilngjolhmjnaaGreatDoor
