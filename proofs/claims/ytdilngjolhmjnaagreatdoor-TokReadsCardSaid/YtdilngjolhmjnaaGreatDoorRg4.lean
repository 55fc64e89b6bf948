/- The document's own reading of attributes. Conditions: those that each theorem names. The document's own reading of a tag. Conditions: those that each theorem names. -/
import Derived.Test.YtdilngjolhmjnaaGreatDoorRg3
import Derived.Test.YtdilngjolhmjnaaGreatDoorB5
import Derived.Deep.AppendLies
import Derived.Deep.RegionHeld3
namespace Go.Proofs.YtdilngjolhmjnaaGreatDoor
open Go.RowKit Go.Shelf
set_option linter.all false

theorem KeepT.bar64 {e : TypeId} {b : Nat} {C : Array Value} {f : Nat × Nat} {w w' : World} (h : Bar b w w') (hb : w.heap[b]? = some (.cells C 64 f)) (he : e ≠ 64) : KeepT e w w' := by
  intro g c hx
  refine h.keep ?_ hx
  rintro rfl
  rw [hb] at hx
  cases hx
  exact he rfl
/-- As Sbad, a letter further. -/
def Sbad3 (b : Nat) (cs : List Nat) (T C A : Value) (er : K.Er) (w : World) : Prop := 1 ≤ er.1 ∧ er.1 ≤ 100 ∧ ∃ j, j ≤ cs.length + 3 ∧ Sn b T C A j er.1 er.2 w
/-- An attribute is being read into block a; the reader stands at j. -/
structure Mid (b : Nat) (cs : List Nat) (T C A : Value) (w1 : World) (a : Nat) (o1 o2 : ByteArray) (p : K.Pl) (j e : Nat) (q : K.Pl) (W : World) : Prop where
  sn : Sn b T C A j e q W
  s1 : Sr b cs T C A w1
  bar : Bar b w1 W
  lie : W.heap[a]? = some (.cells #[.string o1, .string o2, .int .i64 (p.1 : Int), .int .i64 (p.2 : Int)] 40 (0, 0))
  ea : w1.heap.size = a
  ne : a ≠ b
theorem Mid.sr {b : Nat} {cs : List Nat} {T C A : Value} {w1 : World} {a : Nat} {o1 o2 : ByteArray} {p : K.Pl} {j e : Nat} {q : K.Pl} {W : World} (h : Mid b cs T C A w1 a o1 o2 p j e q W) : Sr b cs T C A W := h.s1.bar h.bar
theorem Mid.start {b : Nat} {cs : List Nat} {T C A : Value} {w1 : World} {m : Nat} (p : K.Pl) (hs : Sn b T C A m 0 (0, 0) w1) (hr : Sr b cs T C A w1) :
    Mid b cs T C A w1 w1.heap.size ⟨#[]⟩ ⟨#[]⟩ p m 0 (0, 0) (w1.alloc (.cells #[.string ⟨#[]⟩, .string ⟨#[]⟩, .int .i64 (p.1 : Int), .int .i64 (p.2 : Int)] 40)).drew := by
  have hb : Below w1.heap.size w1 (w1.alloc (.cells #[.string ⟨#[]⟩, .string ⟨#[]⟩, .int .i64 (p.1 : Int), .int .i64 (p.2 : Int)] 40)).drew := ((Below.refl _ _).alloc (Nat.le_refl _) _).drew
  have hlt := lt_of_heap hs
  exact ⟨hs.keep hb, hr, .of_below hb, heap_alloc_new w1 _, rfl, by omega⟩
theorem Mid.step {b : Nat} {cs : List Nat} {T C A : Value} {w1 : World} {a : Nat} {o1 o2 : ByteArray} {p : K.Pl} {j e : Nat} {q : K.Pl} {W : World} (h : Mid b cs T C A w1 a o1 o2 p j e q W) {j' e' : Nat} {q' : K.Pl} {W' : World} (hs : Sn b T C A j' e' q' W') (hb : Bar b W W') : Mid b cs T C A w1 a o1 o2 p j' e' q' W' :=
  ⟨hs, h.s1, h.bar.trans hb, hb.keep h.ne h.lie, h.ea, h.ne⟩
theorem Mid.set0 {b : Nat} {cs : List Nat} {T C A : Value} {w1 : World} {a : Nat} {o1 o2 : ByteArray} {p : K.Pl} {j e : Nat} {q : K.Pl} {W : World} (h : Mid b cs T C A w1 a o1 o2 p j e q W) (o : ByteArray) : Mid b cs T C A w1 a o o2 p j e q (W.setCell ⟨a, 0, none⟩ (.string o)) := by
  refine ⟨?_, h.s1, h.bar.setNew (Nat.le_of_eq h.ea) 0 _, heap_set h.lie 0 _, h.ea, h.ne⟩
  unfold Sn
  rw [Below.heap_setCell _ _ _ _ (Ne.symm h.ne)]; exact h.sn
theorem Mid.set1 {b : Nat} {cs : List Nat} {T C A : Value} {w1 : World} {a : Nat} {o1 o2 : ByteArray} {p : K.Pl} {j e : Nat} {q : K.Pl} {W : World} (h : Mid b cs T C A w1 a o1 o2 p j e q W) (o : ByteArray) : Mid b cs T C A w1 a o1 o p j e q (W.setCell ⟨a, 1, none⟩ (.string o)) := by
  refine ⟨?_, h.s1, h.bar.setNew (Nat.le_of_eq h.ea) 1 _, heap_set h.lie 1 _, h.ea, h.ne⟩
  unfold Sn
  rw [Below.heap_setCell _ _ _ _ (Ne.symm h.ne)]; exact h.sn
theorem Mid.cells {b : Nat} {cs : List Nat} {T C A : Value} {w1 : World} {a : Nat} {o1 o2 : ByteArray} {p : K.Pl} {j e : Nat} {q : K.Pl} {W : World} (h : Mid b cs T C A w1 a o1 o2 p j e q W) : W.cell? ⟨a, 0, none⟩ = some (.string o1) ∧ W.cell? ⟨a, 1, none⟩ = some (.string o2) ∧ W.cell? ⟨a, 2, none⟩ = some (.int .i64 (p.1 : Int)) ∧ W.cell? ⟨a, 3, none⟩ = some (.int .i64 (p.2 : Int)) := by
  refine ⟨?_, ?_, ?_, ?_⟩ <;> rw [Lib.cell_of_heap h.lie] <;> rfl
theorem Mid.free {b : Nat} {cs : List Nat} {T C A : Value} {w1 : World} {a : Nat} {o1 o2 : ByteArray} {p : K.Pl} {j e : Nat} {q : K.Pl} {W : World} (h : Mid b cs T C A w1 a o1 o2 p j e q W) (k : Nat) : W.frozen? ⟨a, k, none⟩ = false := Lib.frozen_of_heap h.lie k
theorem Mid.grow {b : Nat} {cs : List Nat} {T C A : Value} {w1 : World} {a : Nat} {o1 o2 : ByteArray} {p : K.Pl} {j e : Nat} {q : K.Pl} {W : World} (h : Mid b cs T C A w1 a o1 o2 p j e q W) {u : Value} {n B : Nat} {xs : List Value} (hB1 : B ≤ w1.heap.size) (hbB : b < B) (hown : W.ownsRow B 40 4 u n xs) {o : Obj} {w6 : World} (hg : (W.alloc o).grownBy w6 u.ownBlock) {w : World} (hw : w.heap.size = B) (hbar : Bar b w w1) : Bar b w w6 ∧ B ≤ w6.heap.size ∧ Sn b T C A j e q w6 := by
  have hsz := h.bar.size
  have hbel : Below B W w6 := ((Below.refl B W).alloc (by omega) o).grown hg (by simp; omega) (fun k hk => (own_block hown k hk).1)
  refine ⟨(hbar.trans h.bar).belN (by rw [hw]; exact hbel), Nat.le_trans (by omega) hbel.size, ?_⟩
  unfold Sn
  rw [hbel.block b hbB]
  exact h.sn
theorem oneCell4 (o1 o2 : ByteArray) (x y : Int) : ∀ u ∈ [Value.string o1, .string o2, .int .i64 x, .int .i64 y], u.oneCell' = true := by
  intro u hu
  simp only [List.mem_cons, List.not_mem_nil, or_false] at hu
  rcases hu with rfl | rfl | rfl | rfl <;> rfl
theorem name_at {cs : List Nat} {m : Nat} {n : List Nat} {s1 : K.St} (h : K.name (S cs m) = .ok (n, s1)) (hm : m ≤ cs.length) : ∃ k, k ≤ cs.length ∧ s1 = S cs k := by
  unfold K.name at h
  split at h
  · split at h
    · cases h
    · simp only [Except.ok.injEq, Prod.mk.injEq] at h
      refine ⟨m + ((S cs m).1.takeWhile K.goes).length, ?_, ?_⟩
      · have h1 : ((S cs m).1.takeWhile K.goes).length ≤ (S cs m).1.length := (List.takeWhile_prefix _).length_le
        rw [S_eq, List.length_drop] at h1
        rw [S_eq]
        dsimp only at h1 ⊢
        omega
      · rw [← h.2]; exact S_skip cs m _
  · cases h
theorem at_e1 {s : K.St} {er : K.Er} (h : K.name s = .error er) : K.attr1 s = .error er := by unfold K.attr1; rw [h]
theorem at_e2 {s s1 : K.St} {n : List Nat} {er : K.Er} (h : K.name s = .ok (n, s1)) (h2 : K.want [61] (K.blanks s1) = .error er) : K.attr1 s = .error er := by unfold K.attr1; rw [h]; dsimp only; rw [h2]
theorem at_e3 {s s1 s2 : K.St} {n : List Nat} {er : K.Er} (h : K.name s = .ok (n, s1)) (h2 : K.want [61] (K.blanks s1) = .ok s2) (h3 : K.value (K.blanks s2) = .error er) : K.attr1 s = .error er := by unfold K.attr1; rw [h]; dsimp only; rw [h2]; dsimp only; rw [h3]
theorem at_ok {s s1 s2 s3 : K.St} {n v : List Nat} (h : K.name s = .ok (n, s1)) (h2 : K.want [61] (K.blanks s1) = .ok s2) (h3 : K.value (K.blanks s2) = .ok (v, s3)) : K.attr1 s = .ok ((n, v, s.2), s3) := by unfold K.attr1; rw [h]; dsimp only; rw [h2]; dsimp only; rw [h3]
theorem want61_ok {cs : List Nat} {l : Nat} (h : cnum cs l = 61) : K.want [61] (S cs l) = .ok (S cs (l + 1)) ∧ l < cs.length := by
  rcases cnum_cases cs l with ⟨hd, hc⟩ | ⟨c, r, hd, hc⟩
  · rw [hc] at h; cases h
  · have hc1 : c = 61 := by rw [hc] at h; omega
    subst hc1
    refine ⟨?_, by rcases Nat.lt_or_ge l cs.length with h' | h'; exact h'; rw [List.drop_eq_nil_of_le h'] at hd; cases hd⟩
    rw [← S_skip cs l 1]
    unfold K.want K.sees
    rw [S_eq, hd]
    rfl
theorem want61_bad {cs : List Nat} {l : Nat} (h : cnum cs l ≠ 61) : K.want [61] (S cs l) = .error (21, pl cs l) := by
  rcases cnum_cases cs l with ⟨hd, hc⟩ | ⟨c, r, hd, hc⟩
  · unfold K.want K.sees
    rw [S_eq, hd]
    rfl
  · have hc1 : ¬ 61 = c := by rintro rfl; exact h hc
    unfold K.want K.sees
    rw [S_eq, hd]
    have : ([61] : List Nat).isPrefixOf (c :: r) = false := by simp [List.isPrefixOf, hc1]
    simp [this]
/-- What taking attributes leaves, rows from block B on. -/
def APost (b : Nat) (cs : List Nat) (T C A : Value) (B : Nat) (w : World) (r : Except K.Er (List K.At × K.St)) (e : Ending) (w' : World) : Prop := Bar b w w' ∧ match r with
  | .ok (l, s) => ∃ av j, e = .returned av ∧ s = S cs j ∧ j ≤ cs.length ∧ w'.ownsRow B 40 4 av l.length (attrCells l) ∧ Sn b T C A j 0 (0, 0) w'
  | .error er => ∃ p n c, e = .returned (.slice p n c) ∧ Sbad3 b cs T C A er w'
/-- What the walk over attributes has come to. -/
def AtRel (b : Nat) (cs : List Nat) (T C A : Value) (B : Nat) (R : Except K.Er (List K.At × K.St)) (w : World) (g : Nat) (av : Value) (wr : World) : Prop :=
  Bar b w wr ∧ B ≤ wr.heap.size ∧ ((∃ (acc : List K.At) (j : Nat), cs.length - j + 1 = g ∧ AF (S cs j) acc = R ∧ j ≤ cs.length ∧ acc.length ≤ j ∧ wr.ownsRow B 40 4 av acc.length (attrCells acc) ∧ Sn b T C A j 0 (0, 0) wr) ∨
    (g = 0 ∧ (∃ p n c, av = .slice p n c) ∧ ∃ er, R = .error er ∧ Sbad3 b cs T C A er wr))
theorem begins_call (cs : List Nat) (j : Nat) (W : World) : Calls Tryz.prog 72 #[.int .i64 (cnum cs j)] W fun e w' => e = .returned (.bool (K.beginsS (S cs j))) ∧ W = w' := by
  have h := refBegins_any (cs.drop j) W
  rcases cnum_cases cs j with ⟨hd, _⟩ | ⟨c, r, hd, _⟩
  · unfold cnum; rw [S_eq, hd]; rw [hd] at h; exact h
  · unfold cnum; rw [S_eq, hd]; rw [hd] at h; exact h

set_option maxHeartbeats 8000000 in
set_option maxRecDepth 100000 in
theorem attrs_rf {b : Nat} {cs : List Nat} {T C A : Value} {i B : Nat} {w : World} (hn : Sn b T C A i 0 (0, 0) w) (hr : Sr b cs T C A w) (hi : i ≤ cs.length) (hB : w.heap.size = B) :
    Calls Tryz.prog 43 #[.pointer (some ⟨b, 0, none⟩)] w (APost b cs T C A B w (K.attrs (S cs i))) := by
  have hlen := hr.len
  have hbB : b < B := by rw [← hB]; exact lt_of_heap hn
  obtain ⟨R, hR⟩ : ∃ R, K.attrs (S cs i) = R := ⟨_, rfl⟩
  have hst : AtRel b cs T C A B R w (cs.length - i + 1) (.slice none 0 0) w := ⟨Bar.refl _ _, Nat.le_of_eq hB.symm, .inl ⟨[], i, rfl, hR, hi, Nat.zero_le _, ⟨rfl, .inl ⟨rfl, rfl⟩⟩, hn⟩⟩
  rw [hR]
  obtain ⟨i0, hi0, hz0, hz1, hz2⟩ := info_parts info40
  have HST := Lib.hid hst
  have HR := Lib.hid hr
  have HBz := Lib.hid hB
  clear hR hn hr hst hB
  go_enter Tryz.func43, Tryz.ntmps43
  go_wp2
  go_loopg [3] (cs.length - i + 1) (fun g av wr => AtRel b cs T C A B R w g av wr)
  case atStart => exact HST.out
  case round =>
    obtain ⟨hbar, hBw, hcase⟩ := hrel
    have hr' := HR.out.bar hbar
    have HB := Lib.hid hbar
    have HR' := Lib.hid hr'
    clear hbar hr'
    rcases hcase with ⟨acc, j, hg, hAF, hj, haj, hown, hs⟩ | ⟨hg, ⟨p, n, c, rfl⟩, er, hRe, hs1, hs2, j, hj, hs⟩
    · obtain ⟨_, _, _, c3, c4⟩ := hs.cells
      have hbl := blanks_rf hs HR'.out (by omega)
      have hnl := nblank_le cs j
      have HS := Lib.hid hs
      have HOwn := Lib.hid hown
      clear hs hown
      by_cases h0 : K.nblank (S cs j) = 0
      · have hre : R = .ok (acc, K.blanks (S cs j)) := hAF.symm.trans (AF_stop acc (.inl h0))
        rw [show decide (0 < K.nblank (S cs j)) = false by simp [h0]] at hbl
        have HRES := Lib.hid hre
        have HNB := Lib.hid h0
        clear hre hAF h0
        go_wp2_with (go_at_call 47; refine hbl.mono ?_; rintro e w1 ⟨rfl, hs1, hb1⟩; have HS1 := Lib.hid hs1; have HB1 := Lib.hid hb1; clear hs1 hb1)
        go_ret
        rw [HRES.out]
        exact ⟨HB.out.trans HB1.out, _, j + K.nblank (S cs j), rfl, S_skip cs j _, by omega, (KeepT.bar64 HB1.out HS.out (by decide)).own HOwn.out, HS1.out⟩
      · rw [show decide (0 < K.nblank (S cs j)) = true by simp; omega] at hbl
        obtain ⟨m, hm⟩ : ∃ m, j + K.nblank (S cs j) = m := ⟨_, rfl⟩
        have hbe : K.blanks (S cs j) = S cs m := by rw [← hm]; exact S_skip cs j _
        have hjm : j < m := by omega
        have hml : m ≤ cs.length := by omega
        rw [hm] at hbl
        have HCm := Lib.hid (fun W (h1 : Sn b T C A m 0 (0, 0) W) (h2 : Sr b cs T C A W) => c_any h1 h2 m (by omega))
        have hbg := fun W => begins_call cs m W
        cases h1 : K.beginsS (S cs m) with
        | false =>
          simp only [h1] at hbg
          have hre : R = .ok (acc, S cs m) := by
            rw [← hbe]
            exact hAF.symm.trans (AF_stop acc (.inr (by rw [hbe, h1]; decide)))
          have HRES := Lib.hid hre
          have HBG := Lib.hid hbg
          clear hre hAF h0 h1 hbg hbe
          go_wp2_with (first
            | (go_at_call 47; refine hbl.mono ?_; rintro e w1 ⟨rfl, hs1, hb1⟩; obtain ⟨_, _, _, d3, _⟩ := hs1.cells; have hc1 := HCm.out _ hs1 (HR'.out.bar hb1); have HS1 := Lib.hid hs1; have HB1 := Lib.hid hb1; clear hs1 hb1)
            | (go_at_call 42; refine hc1.mono ?_; rintro e w2 ⟨rfl, rfl⟩)
            | (go_at_call 72; refine (HBG.out _).mono ?_; rintro e w2 ⟨rfl, rfl⟩))
          go_ret
          rw [HRES.out]
          exact ⟨HB.out.trans HB1.out, _, m, rfl, rfl, hml, (KeepT.bar64 HB1.out HS.out (by decide)).own HOwn.out, HS1.out⟩
        | true =>
          simp only [h1] at hbg
          have HBG := Lib.hid hbg
          obtain ⟨ga, na, hA, hpl⟩ := HR'.out.place
          have HPl := Lib.hid hpl
          have HA := Lib.hid hA
          clear hbg hpl hA
          go_wp2_with (first
            | (go_at_call 47; refine hbl.mono ?_; rintro e w1 ⟨rfl, hs1, hb1⟩; obtain ⟨_, _, d2, d3, _⟩ := hs1.cells; rw [HA.out] at d2; obtain ⟨p0, p1⟩ := HPl.out m hml _ hb1; have hml2 : (m : Int) < (cs.length : Int) + 1 := (by omega); have hc1 := HCm.out _ hs1 (HR'.out.bar hb1); have HS1 := Lib.hid hs1; have HB1 := Lib.hid hb1; clear hs1 hb1)
            | (go_at_call 42; refine hc1.mono ?_; rintro e w2 ⟨rfl, rfl⟩)
            | (go_at_call 72; refine (HBG.out _).mono ?_; rintro e w2 ⟨rfl, rfl⟩))
          go_region_held3 (fun w' => w'.cell? ⟨b, 2, none⟩ = some (.slice (some ⟨ga, 0, none⟩) (cs.length + 1) na) ∧ w'.cell? ⟨b, 3, none⟩ = some (.int .i64 (m : Int)) ∧ w'.cell? ⟨ga, m * 2, none⟩ = some (.int .i64 ((pl cs m).1 : Int)) ∧ w'.cell? ⟨ga, m * 2 + 1, none⟩ = some (.int .i64 ((pl cs m).2 : Int)))
            (first | assumption | go_keep)
            (fail)
          obtain ⟨a, ha⟩ : ∃ a, w1.heap.size = a := ⟨_, rfl⟩
          have hM0 := Mid.start (pl cs m) HS1.out (HR'.out.bar HB1.out)
          rw [ha] at hM0 ⊢
          rename_i hHeld
          clear hHeld
          generalize (w1.alloc (.cells #[.string ⟨#[]⟩, .string ⟨#[]⟩, .int .i64 ((pl cs m).1 : Int), .int .i64 ((pl cs m).2 : Int)] 40)).drew = w0 at hM0 ⊢
          have HM0 := Lib.hid hM0
          clear hM0
          have hnm := fun W (h1 : Sn b T C A m 0 (0, 0) W) (h2 : Sr b cs T C A W) => name_rf h1 h2 hml
          have HOwn1 := Lib.hid ((KeepT.bar64 HB1.out HS.out (by decide)).own HOwn.out)
          have h1' : K.beginsS (K.blanks (S cs j)) = true := by rw [hbe]; exact h1
          cases hN : K.name (S cs m) with
          | error er =>
            simp only [hN] at hnm
            have hre : R = .error er := hAF.symm.trans (AF_err acc h0 h1' (by rw [hbe]; exact at_e1 hN))
            have HNM := Lib.hid hnm
            have HRES := Lib.hid hre
            clear hnm hre hAF h0 h1 h1' hbe hN
            go_wp2_with (first
              | (go_at_call 45; refine (HNM.out _ HM0.out.sn HM0.out.sr).mono ?_; rintro e w2 ⟨hb2, z, k2, rfl, ⟨o, rfl, _⟩, hk2, he1, he2, hs2⟩; have hMa := HM0.out.step hs2 hb2; obtain ⟨y0, y1, y2, y3⟩ := hMa.cells; have yf := hMa.free 0; have hM2 := hMa.set0 o; have hbl2 := blanks_rf hM2.sn hM2.sr (by omega); have hn2 := nblank_le cs k2; have hne : ((er.1 : Int) == 0) = false := (by rw [beq_eq_false_iff_ne]; omega); have HM2 := Lib.hid hM2; clear hM2 hMa hs2 hb2)
              | (go_at_call 47; with_reducible refine hbl2.mono ?_; rintro e w3 ⟨rfl, hs3, hb3⟩; have hM3 := HM2.out.step hs3 hb3; have hon := one_no hM3.sn hM3.sr (by omega) (by omega) 61; have HM3 := Lib.hid hM3; clear hM3 hs3 hb3 hbl2)
              | (go_at_call 48; refine hon.mono ?_; rintro e w4 ⟨rfl, k4, hk4, hs4, hb4⟩; have hM4 := HM3.out.step hs4 hb4; have hbl5 := blanks_rf hM4.sn hM4.sr (by omega); have hn4 := nblank_le cs k4; have HM4 := Lib.hid hM4; clear hM4 hs4 hb4)
              | (go_at_call 47; with_reducible refine hbl5.mono ?_; rintro e w5 ⟨rfl, hs5, hb5⟩; have hM5 := HM4.out.step hs5 hb5; obtain ⟨_, _, _, _, e4⟩ := hM5.sn.cells; obtain ⟨x0, x1, x2, x3⟩ := hM5.cells; have xf := hM5.free 1; have HM5 := Lib.hid hM5; clear hM5 hs5 hb5 hbl5)
              | (at_builtin; refine wpList_append_lies _ rfl _ _ 36 rfl B 40 i0 _ 4 48 Tryz.underlying36 hi0 hz0 hz1 hz2 rfl ?c0 _ acc.length (attrCells acc) rfl ?c1 ⟨(w5).heap.size, 0, none⟩ 1 1 [.string (o), .string (⟨#[]⟩), .int .i64 ((pl cs m).1 : Int), .int .i64 ((pl cs m).2 : Int)] rfl rfl ?c2 ?c3 ?c4 ?c5 ?c6 ?c7 _ rfl ?_))
            case c0 => decide
            case c1 => exact ((KeepT.bar64 HM5.out.bar HS1.out (by decide)).own HOwn1.out).alloc _
            case c2 => exact World.news_of_block (heap_alloc_new _ _)
            case c3 => exact oneCell4 _ _ _ _
            case c4 => decide
            case c5 => unfold maxLen; omega
            case c6 => omega
            case c7 => have := HB1.out.size; have := HM5.out.bar.size; simp; omega
            · intro g6 cap w9 hown6 hgrow hat6 hlt6
              have HO6 := Lib.hid hown6
              have HG6 := Lib.hid hgrow
              clear hown6 hgrow hat6 hlt6
              go_wp2
              go_roundg (0)
              case measure => omega
              case rel =>
                obtain ⟨q1, q2, q3⟩ := Mid.grow HM5.out (by have := HB1.out.size; omega) hbB ((KeepT.bar64 HM5.out.bar HS1.out (by decide)).own HOwn1.out) HG6.out HBz.out (HB.out.trans HB1.out)
                exact ⟨q1, q2, .inr ⟨rfl, ⟨_, _, _, rfl⟩, er, HRES.out, he1, he2, _, by omega, q3⟩⟩
          | ok ns =>
            obtain ⟨n, s1⟩ := ns
            obtain ⟨k, hkl, rfl⟩ := name_at hN hml
            simp only [hN] at hnm
            have HNM := Lib.hid hnm
            obtain ⟨l, hl⟩ : ∃ l, k + K.nblank (S cs k) = l := ⟨_, rfl⟩
            have hbl' : K.blanks (S cs k) = S cs l := by rw [← hl]; exact S_skip cs k _
            have hll : l ≤ cs.length := by have := nblank_le cs k; omega
            by_cases h61 : cnum cs l = 61
            · obtain ⟨hw, hl1⟩ := want61_ok h61
              obtain ⟨l2, hl2⟩ : ∃ l2, l + 1 + K.nblank (S cs (l + 1)) = l2 := ⟨_, rfl⟩
              have hbl2' : K.blanks (S cs (l + 1)) = S cs l2 := by rw [← hl2]; exact S_skip cs (l + 1) _
              have hl2l : l2 ≤ cs.length := by have := nblank_le cs (l + 1); omega
              have hvm := fun W (h1 : Sn b T C A l2 0 (0, 0) W) (h2 : Sr b cs T C A W) => value_rf h1 h2 hl2l
              cases hV : K.value (S cs l2) with
              | error er =>
                simp only [hV] at hvm
                have HVM := Lib.hid hvm
                have hre : R = .error er := hAF.symm.trans (AF_err acc h0 h1' (by rw [hbe]; exact at_e3 hN (by rw [hbl']; exact hw) (by rw [hbl2']; exact hV)))
                have HRES := Lib.hid hre
                clear hnm hre hAF h0 h1 h1' hbe hN hvm hbl' hbl2' hw hV
                go_wp2_with (first
                  | (go_at_call 45; refine (HNM.out _ HM0.out.sn HM0.out.sr).mono ?_; rintro e w2 ⟨hb2, k2, hk2, hk2l, rfl, hs2⟩; have hkk := S_inj hkl hk2l hk2; subst hkk; have hMa := HM0.out.step hs2 hb2; obtain ⟨y0, y1, y2, y3⟩ := hMa.cells; have yf := hMa.free 0; have hM2 := hMa.set0 (bs (U.n8 n)); have hbl2 := blanks_rf hM2.sn hM2.sr (by omega); rw [hl] at hbl2; have HM2 := Lib.hid hM2; clear hM2 hMa hs2 hb2 hk2)
                  | (go_at_call 47; with_reducible refine hbl2.mono ?_; rintro e w3 ⟨rfl, hs3, hb3⟩; have hM3 := HM2.out.step hs3 hb3; have hon := one_ok hM3.sn hM3.sr (by omega) 61 (by simpa using h61); have HM3 := Lib.hid hM3; clear hM3 hs3 hb3 hbl2)
                  | (go_at_call 48; refine hon.mono ?_; rintro e w4 ⟨rfl, hs4, hb4⟩; have hM4 := HM3.out.step hs4 hb4; have hbl5 := blanks_rf hM4.sn hM4.sr (by omega); rw [hl2] at hbl5; have HM4 := Lib.hid hM4; clear hM4 hs4 hb4)
                  | (go_at_call 47; with_reducible refine hbl5.mono ?_; rintro e w5 ⟨rfl, hs5, hb5⟩; have hM5 := HM4.out.step hs5 hb5; obtain ⟨_, _, _, _, e4⟩ := hM5.sn.cells; obtain ⟨x0, x1, x2, x3⟩ := hM5.cells; have xf := hM5.free 1; have HM5 := Lib.hid hM5; clear hM5 hs5 hb5 hbl5)
                  | (go_at_call 73; refine (HVM.out _ HM5.out.sn HM5.out.sr).mono ?_; rintro e w6 ⟨hb6, z, k6, rfl, ⟨o, rfl, _⟩, hk6, he1, he2, hs6⟩; have hMb := HM5.out.step hs6 hb6; have yg := hMb.free 1; obtain ⟨z0, z1, z2, z3⟩ := hMb.cells; have hM7 := hMb.set1 o; obtain ⟨x0, x1, x2, x3⟩ := hM7.cells; have HM7 := Lib.hid hM7; clear hM7 hMb hs6 hb6)
                  | (at_builtin; refine wpList_append_lies _ rfl _ _ 36 rfl B 40 i0 _ 4 48 Tryz.underlying36 hi0 hz0 hz1 hz2 rfl ?c0 _ acc.length (attrCells acc) rfl ?c1 ⟨(w6.heap).size, 0, none⟩ 1 1 [.string (bs (U.n8 n)), .string (o), .int .i64 ((pl cs m).1 : Int), .int .i64 ((pl cs m).2 : Int)] rfl rfl ?c2 ?c3 ?c4 ?c5 ?c6 ?c7 _ rfl ?_))
                case c0 => decide
                case c1 => exact ((KeepT.bar64 HM7.out.bar HS1.out (by decide)).own HOwn1.out).alloc _
                case c2 => rw [show w6.heap.size = (w6.setCell ⟨a, 1, none⟩ (.string (o))).heap.size by simp [World.setCell]]; exact World.news_of_block (heap_alloc_new _ _)
                case c3 => exact oneCell4 _ _ _ _
                case c4 => decide
                case c5 => unfold maxLen; omega
                case c6 => omega
                case c7 => have := HB1.out.size; have h3 := HM7.out.bar.size; rw [show (w6.setCell ⟨a, 1, none⟩ (.string (o))).heap.size = w6.heap.size by simp [World.setCell]] at h3; simp; omega
                · intro g6 cap w9 hown6 hgrow hat6 hlt6
                  have HO6 := Lib.hid hown6
                  have HG6 := Lib.hid hgrow
                  clear hown6 hgrow hat6 hlt6
                  go_wp2
                  go_roundg (0)
                  case measure => omega
                  case rel =>
                    obtain ⟨q1, q2, q3⟩ := Mid.grow HM7.out (by have := HB1.out.size; omega) hbB ((KeepT.bar64 HM7.out.bar HS1.out (by decide)).own HOwn1.out) HG6.out HBz.out (HB.out.trans HB1.out)
                    exact ⟨q1, q2, .inr ⟨rfl, ⟨_, _, _, rfl⟩, er, HRES.out, he1, he2, _, by omega, q3⟩⟩
              | ok vs =>
                obtain ⟨v, s3⟩ := vs
                simp only [hV] at hvm
                have HVM := Lib.hid hvm
                have ha1 : K.attr1 (K.blanks (S cs j)) = .ok ((n, v, pl cs m), s3) := by rw [hbe]; exact at_ok hN (by rw [hbl']; exact hw) (by rw [hbl2']; exact hV)
                have hre : AF s3 (acc ++ [(n, v, pl cs m)]) = R := (AF_ok acc h0 h1' ha1).symm.trans hAF
                have hlt : s3.1.length < (S cs j).1.length := by have := attr1_le ha1 value_le; have := blanks_lt h0; omega
                have HRES := Lib.hid hre
                have HLT := Lib.hid hlt
                clear hnm hre hAF h0 h1 h1' hbe hN hvm hbl' hbl2' hw hV ha1 hlt
                go_wp2_with (first
                  | (go_at_call 45; refine (HNM.out _ HM0.out.sn HM0.out.sr).mono ?_; rintro e w2 ⟨hb2, k2, hk2, hk2l, rfl, hs2⟩; have hkk := S_inj hkl hk2l hk2; subst hkk; have hMa := HM0.out.step hs2 hb2; obtain ⟨y0, y1, y2, y3⟩ := hMa.cells; have yf := hMa.free 0; have hM2 := hMa.set0 (bs (U.n8 n)); have hbl2 := blanks_rf hM2.sn hM2.sr (by omega); rw [hl] at hbl2; have HM2 := Lib.hid hM2; clear hM2 hMa hs2 hb2 hk2)
                  | (go_at_call 47; with_reducible refine hbl2.mono ?_; rintro e w3 ⟨rfl, hs3, hb3⟩; have hM3 := HM2.out.step hs3 hb3; have hon := one_ok hM3.sn hM3.sr (by omega) 61 (by simpa using h61); have HM3 := Lib.hid hM3; clear hM3 hs3 hb3 hbl2)
                  | (go_at_call 48; refine hon.mono ?_; rintro e w4 ⟨rfl, hs4, hb4⟩; have hM4 := HM3.out.step hs4 hb4; have hbl5 := blanks_rf hM4.sn hM4.sr (by omega); rw [hl2] at hbl5; have HM4 := Lib.hid hM4; clear hM4 hs4 hb4)
                  | (go_at_call 47; with_reducible refine hbl5.mono ?_; rintro e w5 ⟨rfl, hs5, hb5⟩; have hM5 := HM4.out.step hs5 hb5; obtain ⟨_, _, _, _, e4⟩ := hM5.sn.cells; obtain ⟨x0, x1, x2, x3⟩ := hM5.cells; have xf := hM5.free 1; have HM5 := Lib.hid hM5; clear hM5 hs5 hb5 hbl5)
                  | (go_at_call 73; refine (HVM.out _ HM5.out.sn HM5.out.sr).mono ?_; rintro e w6 ⟨hb6, k6, hk6, hk6l, rfl, hs6⟩; have hMb := HM5.out.step hs6 hb6; have yg := hMb.free 1; obtain ⟨z0, z1, z2, z3⟩ := hMb.cells; have hM7 := hMb.set1 (bs (U.n8 v)); obtain ⟨x0, x1, x2, x3⟩ := hM7.cells; have HM7 := Lib.hid hM7; clear hM7 hMb hs6 hb6)
                  | (at_builtin; refine wpList_append_lies _ rfl _ _ 36 rfl B 40 i0 _ 4 48 Tryz.underlying36 hi0 hz0 hz1 hz2 rfl ?c0 _ acc.length (attrCells acc) rfl ?c1 ⟨(w6.heap).size, 0, none⟩ 1 1 [.string (bs (U.n8 n)), .string (bs (U.n8 v)), .int .i64 ((pl cs m).1 : Int), .int .i64 ((pl cs m).2 : Int)] rfl rfl ?c2 ?c3 ?c4 ?c5 ?c6 ?c7 _ rfl ?_))
                case c0 => decide
                case c1 => exact ((KeepT.bar64 HM7.out.bar HS1.out (by decide)).own HOwn1.out).alloc _
                case c2 => rw [show w6.heap.size = (w6.setCell ⟨a, 1, none⟩ (.string (bs (U.n8 v)))).heap.size by simp [World.setCell]]; exact World.news_of_block (heap_alloc_new _ _)
                case c3 => exact oneCell4 _ _ _ _
                case c4 => decide
                case c5 => unfold maxLen; omega
                case c6 => omega
                case c7 => have := HB1.out.size; have h3 := HM7.out.bar.size; rw [show (w6.setCell ⟨a, 1, none⟩ (.string (bs (U.n8 v)))).heap.size = w6.heap.size by simp [World.setCell]] at h3; simp; omega
                · intro g6 cap w9 hown6 hgrow hat6 hlt6
                  have HO6 := Lib.hid hown6
                  have HG6 := Lib.hid hgrow
                  clear hown6 hgrow hat6 hlt6
                  have hjk : j < k6 := by
                    have h := HLT.out
                    rw [hk6] at h
                    simp only [S_eq, List.length_drop] at h
                    omega
                  go_wp2
                  go_roundg (cs.length - k6 + 1)
                  case measure => omega
                  case rel =>
                    obtain ⟨q1, q2, q3⟩ := Mid.grow HM7.out (by have := HB1.out.size; omega) hbB ((KeepT.bar64 HM7.out.bar HS1.out (by decide)).own HOwn1.out) HG6.out HBz.out (HB.out.trans HB1.out)
                    refine ⟨q1, q2, .inl ⟨acc ++ [(n, v, pl cs m)], k6, rfl, by rw [← hk6]; exact HRES.out, hk6l, by simp; omega, ?_, q3⟩⟩
                    rw [attrCells_snoc, List.length_append]
                    exact HO6.out
            · have hw := want61_bad h61
              have hmn : min l cs.length = l := by omega
              have hre : R = .error (21, pl cs l) := hAF.symm.trans (AF_err acc h0 h1' (by rw [hbe]; exact at_e2 hN (by rw [hbl']; exact hw)))
              have hn2 := nblank_le cs l
              have HRES := Lib.hid hre
              clear hnm hre hAF h0 h1 h1' hbe hN hbl' hw
              go_wp2_with (first
                | (go_at_call 45; refine (HNM.out _ HM0.out.sn HM0.out.sr).mono ?_; rintro e w2 ⟨hb2, k2, hk2, hk2l, rfl, hs2⟩; have hkk := S_inj hkl hk2l hk2; subst hkk; have hMa := HM0.out.step hs2 hb2; obtain ⟨y0, y1, y2, y3⟩ := hMa.cells; have yf := hMa.free 0; have hM2 := hMa.set0 (bs (U.n8 n)); have hbl2 := blanks_rf hM2.sn hM2.sr (by omega); rw [hl] at hbl2; have HM2 := Lib.hid hM2; clear hM2 hMa hs2 hb2 hk2)
                | (go_at_call 47; with_reducible refine hbl2.mono ?_; rintro e w3 ⟨rfl, hs3, hb3⟩; have hM3 := HM2.out.step hs3 hb3; have hon := one_bad hM3.sn hM3.sr (by omega) 61 (by simpa using h61); rw [hmn] at hon; have HM3 := Lib.hid hM3; clear hM3 hs3 hb3 hbl2)
                | (go_at_call 48; refine hon.mono ?_; rintro e w4 ⟨rfl, hs4, hb4⟩; have hM4 := HM3.out.step hs4 hb4; have hbl5 := blanks_rf hM4.sn hM4.sr (by omega); have HM4 := Lib.hid hM4; clear hM4 hs4 hb4)
                | (go_at_call 47; with_reducible refine hbl5.mono ?_; rintro e w5 ⟨rfl, hs5, hb5⟩; have hM5 := HM4.out.step hs5 hb5; obtain ⟨_, _, _, _, e4⟩ := hM5.sn.cells; obtain ⟨x0, x1, x2, x3⟩ := hM5.cells; have xf := hM5.free 1; have HM5 := Lib.hid hM5; clear hM5 hs5 hb5 hbl5)
                | (at_builtin; refine wpList_append_lies _ rfl _ _ 36 rfl B 40 i0 _ 4 48 Tryz.underlying36 hi0 hz0 hz1 hz2 rfl ?c0 _ acc.length (attrCells acc) rfl ?c1 ⟨(w5).heap.size, 0, none⟩ 1 1 [.string (bs (U.n8 n)), .string (⟨#[]⟩), .int .i64 ((pl cs m).1 : Int), .int .i64 ((pl cs m).2 : Int)] rfl rfl ?c2 ?c3 ?c4 ?c5 ?c6 ?c7 _ rfl ?_))
              case c0 => decide
              case c1 => exact ((KeepT.bar64 HM5.out.bar HS1.out (by decide)).own HOwn1.out).alloc _
              case c2 => exact World.news_of_block (heap_alloc_new _ _)
              case c3 => exact oneCell4 _ _ _ _
              case c4 => decide
              case c5 => unfold maxLen; omega
              case c6 => omega
              case c7 => have := HB1.out.size; have := HM5.out.bar.size; simp; omega
              · intro g6 cap w9 hown6 hgrow hat6 hlt6
                have HO6 := Lib.hid hown6
                have HG6 := Lib.hid hgrow
                clear hown6 hgrow hat6 hlt6
                go_wp2
                go_roundg (0)
                case measure => omega
                case rel =>
                  obtain ⟨q1, q2, q3⟩ := Mid.grow HM5.out (by have := HB1.out.size; omega) hbB ((KeepT.bar64 HM5.out.bar HS1.out (by decide)).own HOwn1.out) HG6.out HBz.out (HB.out.trans HB1.out)
                  exact ⟨q1, q2, .inr ⟨rfl, ⟨_, _, _, rfl⟩, _, HRES.out, by show 1 ≤ 21; decide, by show 21 ≤ 100; decide, _, by omega, q3⟩⟩
    · obtain ⟨_, _, _, c3, c4⟩ := hs.cells
      have hne : ((er.1 : Int) == 0) = false := by rw [beq_eq_false_iff_ne]; omega
      have HRES := Lib.hid hRe
      go_wp2
      go_ret
      rw [HRES.out]
      exact ⟨HB.out, p, n, c, rfl, hs1, hs2, j, hj, hs⟩
end Go.Proofs.YtdilngjolhmjnaaGreatDoor
namespace Go.Proofs.YtdilngjolhmjnaaGreatDoor
open Go.RowKit Go.Shelf
set_option linter.all false

/-- Attributes, a fault behind: none is taken. -/
theorem attrs_no {b : Nat} {T C A : Value} {i e : Nat} {p : K.Pl} {w : World} (he : e ≠ 0) (hn : Sn b T C A i e p w) :
    Calls Tryz.prog 43 #[.pointer (some ⟨b, 0, none⟩)] w fun en w' => en = .returned (.slice none 0 0) ∧ w = w' := by
  obtain ⟨_, _, _, _, c4⟩ := hn.cells
  have hne : ((e : Int) == 0) = false := by rw [beq_eq_false_iff_ne]; omega
  go_enter Tryz.func43, Tryz.ntmps43
  go_wp2
  go_loopg [3] 1 (fun g av wr => av = .slice none 0 0 ∧ wr = w)
  case atStart => exact ⟨rfl, rfl⟩
  case round =>
    obtain ⟨rfl, rfl⟩ := hrel
    go_wp2
    go_ret
    exact ⟨rfl, rfl⟩

abbrev z38 : Array Value := #[.int .i64 0, .string ⟨#[]⟩, .slice none 0 0, .string ⟨#[]⟩, .int .i64 0, .int .i64 0, .bool false]
/-- A token is being read into block r + 1, its place is r; the reader stands at j. -/
structure TMid (b : Nat) (cs : List Nat) (T C A : Value) (w : World) (r : Nat) (D : Array Value) (j e : Nat) (q : K.Pl) (W : World) : Prop where
  sn : Sn b T C A j e q W
  s1 : Sr b cs T C A w
  bar : Bar b w W
  lie : W.heap[r + 1]? = some (.cells D 38 (0, 0))
  lir : W.heap[r]? = some (.cells z38 38 (0, 0))
  er : w.heap.size = r
  hb : b < r
theorem TMid.sr {b : Nat} {cs : List Nat} {T C A : Value} {w : World} {r : Nat} {D : Array Value} {j e : Nat} {q : K.Pl} {W : World} (h : TMid b cs T C A w r D j e q W) : Sr b cs T C A W := h.s1.bar h.bar
theorem TMid.start {b : Nat} {cs : List Nat} {T C A : Value} {w : World} {m : Nat} (D : Array Value) (hs : Sn b T C A m 0 (0, 0) w) (hr : Sr b cs T C A w) {w0 : World} (hw0 : w.alloc (.cells z38 38) = w0) :
    TMid b cs T C A w w.heap.size D m 0 (0, 0) (w0.alloc (.cells D 38)).drew ∧ w0.heap.size = w.heap.size + 1 ∧ Bar b w w0 ∧ Sn b T C A m 0 (0, 0) w0 := by
  subst hw0
  have hb0 : Below w.heap.size w (w.alloc (.cells z38 38)) := (Below.refl _ _).alloc (Nat.le_refl _) _
  have hsz : (w.alloc (.cells z38 38)).heap.size = w.heap.size + 1 := by simp
  have hb1 : Below (w.heap.size + 1) (w.alloc (.cells z38 38)) ((w.alloc (.cells z38 38)).alloc (.cells D 38)).drew := ((Below.refl _ _).alloc (Nat.le_of_eq hsz.symm) _).drew
  have hbb : Below w.heap.size w ((w.alloc (.cells z38 38)).alloc (.cells D 38)).drew := ((hb0.alloc (by rw [hsz]; omega) _)).drew
  have hlt := lt_of_heap hs
  have hn1 := heap_alloc_new (w.alloc (.cells z38 38)) (.cells D 38)
  rw [hsz] at hn1
  exact ⟨⟨hs.keep hbb, hr, .of_below hbb, hn1, (hb1.block _ (by omega)).trans (heap_alloc_new w _), rfl, hlt⟩, hsz, .of_below hb0, hs.keep hb0⟩
theorem TMid.step {b : Nat} {cs : List Nat} {T C A : Value} {w : World} {r : Nat} {D : Array Value} {j e : Nat} {q : K.Pl} {W : World} (h : TMid b cs T C A w r D j e q W) {j' e' : Nat} {q' : K.Pl} {W' : World} (hs : Sn b T C A j' e' q' W') (hb : Bar b W W') : TMid b cs T C A w r D j' e' q' W' :=
  ⟨hs, h.s1, h.bar.trans hb, hb.keep (by have := h.hb; omega) h.lie, hb.keep (by have := h.hb; omega) h.lir, h.er, h.hb⟩
theorem TMid.setz {b : Nat} {cs : List Nat} {T C A : Value} {w : World} {r : Nat} {D : Array Value} {j e : Nat} {q : K.Pl} {W : World} (h : TMid b cs T C A w r D j e q W) (z : Int) (j' : Nat) (hz : z = j') : TMid b cs T C A w r D j' e q (W.setCell ⟨b, 3, none⟩ (.int .i64 z)) :=
  h.step (h.sn.setz z j' hz) (Bar.set _ 3 _)
theorem TMid.setc {b : Nat} {cs : List Nat} {T C A : Value} {w : World} {r : Nat} {D : Array Value} {j e : Nat} {q : K.Pl} {W : World} (h : TMid b cs T C A w r D j e q W) (k : Nat) (v : Value) (D' : Array Value) (hD : D.setIfInBounds k v = D') : TMid b cs T C A w r D' j e q (W.setCell ⟨r + 1, k, none⟩ v) := by
  subst hD
  have hbr := h.hb
  refine ⟨?_, h.s1, h.bar.setNew (by rw [h.er]; omega) k _, heap_set h.lie k _, ?_, h.er, h.hb⟩
  · unfold Sn
    rw [Below.heap_setCell _ _ _ _ (by simp; omega)]; exact h.sn
  · rw [Below.heap_setCell _ _ _ _ (by simp)]; exact h.lir
theorem TMid.free {b : Nat} {cs : List Nat} {T C A : Value} {w : World} {r : Nat} {D : Array Value} {j e : Nat} {q : K.Pl} {W : World} (h : TMid b cs T C A w r D j e q W) (k : Nat) : W.frozen? ⟨r + 1, k, none⟩ = false := Lib.frozen_of_heap h.lie k
theorem TMid.cell {b : Nat} {cs : List Nat} {T C A : Value} {w : World} {r : Nat} {D : Array Value} {j e : Nat} {q : K.Pl} {W : World} (h : TMid b cs T C A w r D j e q W) (k : Nat) (v : Value) (hk : D[k]? = some v) : W.cell? ⟨r + 1, k, none⟩ = some v := by rw [Lib.cell_of_heap h.lie]; exact hk
theorem TMid.cellr {b : Nat} {cs : List Nat} {T C A : Value} {w : World} {r : Nat} {D : Array Value} {j e : Nat} {q : K.Pl} {W : World} (h : TMid b cs T C A w r D j e q W) (k : Nat) (v : Value) (hk : z38[k]? = some v) : W.cell? ⟨r, k, none⟩ = some v := by rw [Lib.cell_of_heap h.lir]; exact hk
theorem TMid.freer {b : Nat} {cs : List Nat} {T C A : Value} {w : World} {r : Nat} {D : Array Value} {j e : Nat} {q : K.Pl} {W : World} (h : TMid b cs T C A w r D j e q W) (k : Nat) : W.frozen? ⟨r, k, none⟩ = false := Lib.frozen_of_heap h.lir k

theorem TMid.done {b : Nat} {cs : List Nat} {T C A : Value} {w : World} {r : Nat} {d0 d1 d2 d3 d4 d5 d6 : Value} {j e : Nat} {q : K.Pl} {W : World} (h : TMid b cs T C A w r #[d0, d1, d2, d3, d4, d5, d6] j e q W) :
    ∃ W7, (((((((W.setCell ⟨r, 0, none⟩ d0).setCell ⟨r, 1, none⟩ d1).setCell ⟨r, 2, none⟩ d2).setCell ⟨r, 3, none⟩ d3).setCell ⟨r, 4, none⟩ d4).setCell ⟨r, 5, none⟩ d5).setCell ⟨r, 6, none⟩ d6) = W7 ∧ Bar b w W7 ∧ Sn b T C A j e q W7 ∧ W7.heap[r]? = some (.cells #[d0, d1, d2, d3, d4, d5, d6] 38 (0, 0)) ∧ ∀ k, k ≠ r → W7.heap[k]? = W.heap[k]? := by
  have hbr := h.hb
  have hk : ∀ k, k ≠ r → ((((((((W.setCell ⟨r, 0, none⟩ d0).setCell ⟨r, 1, none⟩ d1).setCell ⟨r, 2, none⟩ d2).setCell ⟨r, 3, none⟩ d3).setCell ⟨r, 4, none⟩ d4).setCell ⟨r, 5, none⟩ d5).setCell ⟨r, 6, none⟩ d6)).heap[k]? = W.heap[k]? := by
    intro k hk
    iterate 7 rw [Below.heap_setCell _ _ _ _ (by simpa using hk)]
  refine ⟨_, rfl, ?_, ?_, ?_, hk⟩
  · have h1 := h.bar
    have er : w.heap.size ≤ r := Nat.le_of_eq h.er
    exact (((((((h1.setNew er 0 _).setNew er 1 _).setNew er 2 _).setNew er 3 _).setNew er 4 _).setNew er 5 _).setNew er 6 _)
  · unfold Sn
    rw [hk b (by omega)]
    exact h.sn
  · exact heap_set (heap_set (heap_set (heap_set (heap_set (heap_set (heap_set h.lir 0 _) 1 _) 2 _) 3 _) 4 _) 5 _) 6 _
theorem cells7 {r : Nat} {d0 d1 d2 d3 d4 d5 d6 : Value} {W : World} (h : W.heap[r]? = some (.cells #[d0, d1, d2, d3, d4, d5, d6] 38 (0, 0))) : W.cell? ⟨r, 0, none⟩ = some d0 ∧ W.cell? ⟨r, 1, none⟩ = some d1 ∧ W.cell? ⟨r, 2, none⟩ = some d2 ∧ W.cell? ⟨r, 3, none⟩ = some d3 ∧ W.cell? ⟨r, 4, none⟩ = some d4 ∧ W.cell? ⟨r, 5, none⟩ = some d5 ∧ W.cell? ⟨r, 6, none⟩ = some d6 := by
  refine ⟨?_, ?_, ?_, ?_, ?_, ?_, ?_⟩ <;> rw [Lib.cell_of_heap h] <;> rfl
/-- What a token looks like. -/
def tokShape (v : Value) : Prop := ∃ kd nm p n c tx l cl em, v = .agg #[.int .i64 kd, .string nm, .slice p n c, .string tx, .int .i64 l, .int .i64 cl, .bool em]
/-- What taking a tag leaves. -/
def TPost (b : Nat) (cs : List Nat) (T C A : Value) (B : Nat) (w : World) (r : Except K.Er (K.Tk × K.St)) (e : Ending) (w' : World) : Prop := Bar b w w' ∧ match r with
  | .ok (k, s) => ∃ av j, e = .returned (.agg (tokCells k av).toArray) ∧ s = S cs j ∧ j ≤ cs.length ∧ w'.ownsRow B 40 4 av k.attrs.length (attrCells k.attrs) ∧ Sn b T C A j 0 (0, 0) w'
  | .error er => (∃ z, e = .returned z ∧ tokShape z) ∧ Sbad3 b cs T C A er w'
theorem want62_ok {cs : List Nat} {l : Nat} (h : cnum cs l = 62) : K.want [62] (S cs l) = .ok (S cs (l + 1)) ∧ l < cs.length := by
  rcases cnum_cases cs l with ⟨hd, hc⟩ | ⟨c, r, hd, hc⟩
  · rw [hc] at h; cases h
  · have hc1 : c = 62 := by rw [hc] at h; omega
    subst hc1
    refine ⟨?_, by rcases Nat.lt_or_ge l cs.length with h' | h'; exact h'; rw [List.drop_eq_nil_of_le h'] at hd; cases hd⟩
    rw [← S_skip cs l 1]
    unfold K.want K.sees
    rw [S_eq, hd]
    rfl
theorem want62_bad {cs : List Nat} {l : Nat} (h : cnum cs l ≠ 62) : K.want [62] (S cs l) = .error (21, pl cs l) := by
  rcases cnum_cases cs l with ⟨hd, hc⟩ | ⟨c, r, hd, hc⟩
  · unfold K.want K.sees
    rw [S_eq, hd]
    rfl
  · have hc1 : ¬ 62 = c := by rintro rfl; exact h hc
    unfold K.want K.sees
    rw [S_eq, hd]
    have : ([62] : List Nat).isPrefixOf (c :: r) = false := by simp [List.isPrefixOf, hc1]
    simp [this]
theorem end_e1 {s : K.St} {er : K.Er} (h : K.name (K.skip s 2) = .error er) : K.endTag s = .error er := by unfold K.endTag; rw [h]
theorem end_e2 {s s1 : K.St} {n : List Nat} {er : K.Er} (h : K.name (K.skip s 2) = .ok (n, s1)) (h2 : K.want [62] (K.blanks s1) = .error er) : K.endTag s = .error er := by unfold K.endTag; rw [h]; dsimp only; rw [h2]
theorem end_ok {s s1 s2 : K.St} {n : List Nat} (h : K.name (K.skip s 2) = .ok (n, s1)) (h2 : K.want [62] (K.blanks s1) = .ok s2) : K.endTag s = .ok (⟨2, n, [], [], s.2, false⟩, s2) := by unfold K.endTag; rw [h]; dsimp only; rw [h2]

set_option maxHeartbeats 8000000 in
set_option maxRecDepth 100000 in
theorem endTag_rf {b : Nat} {cs : List Nat} {T C A : Value} {i B : Nat} {w : World} (hn : Sn b T C A i 0 (0, 0) w) (hr : Sr b cs T C A w) (hsee : K.sees [60, 47] (S cs i) = true) (hB : w.heap.size = B) :
    Calls Tryz.prog 27 #[.pointer (some ⟨b, 0, none⟩)] w (TPost b cs T C A B w (K.endTag (S cs i))) := by
  have hlen := hr.len
  have hi2 : i + 2 ≤ cs.length := by
    have := (List.isPrefixOf_iff_prefix.1 hsee).length_le
    rw [S_eq] at this
    simp only [List.length_drop, List.length_cons, List.length_nil] at this
    omega
  obtain ⟨ga, na, hA, hpl⟩ := hr.place
  have HPl := Lib.hid hpl
  have HA := Lib.hid hA
  have HN := Lib.hid hn
  have HR := Lib.hid hr
  obtain ⟨R, hR⟩ : ∃ R, K.endTag (S cs i) = R := ⟨_, rfl⟩
  rw [hR]
  have hsk : K.skip (S cs i) 2 = S cs (i + 2) := S_skip cs i 2
  have h47 : cnum cs (i + 1) = 47 := by
    rw [sees_step, sees_step] at hsee
    simp only [Bool.and_eq_true, decide_eq_true_eq] at hsee
    exact hsee.2.1
  clear hpl hA hn hr hB hsee
  go_enter Tryz.func27, Tryz.ntmps27
  go_wp2
  obtain ⟨w0, hw0⟩ : ∃ w0, w.alloc (.cells z38 38) = w0 := ⟨_, rfl⟩
  obtain ⟨hM0, hs0, hb0, hn0⟩ := TMid.start #[.int .i64 1, .string ⟨#[]⟩, .slice none 0 0, .string ⟨#[]⟩, .int .i64 ((pl cs i).1 : Int), .int .i64 ((pl cs i).2 : Int), .bool false] HN.out HR.out hw0
  rw [hw0]
  obtain ⟨_, _, d2, d3, _⟩ := hn0.cells
  rw [HA.out] at d2
  obtain ⟨p0, p1⟩ := HPl.out i (by omega) _ hb0
  have hml2 : (i : Int) < (cs.length : Int) + 1 := by omega
  have hlt0 := lt_of_heap hn0
  have HM0 := Lib.hid hM0
  have HS0 := Lib.hid hs0
  clear hM0 hs0 hb0 hn0
  go_region_held3 (fun w' => w'.cell? ⟨b, 2, none⟩ = some (.slice (some ⟨ga, 0, none⟩) (cs.length + 1) na) ∧ w'.cell? ⟨b, 3, none⟩ = some (.int .i64 (i : Int)) ∧ w'.cell? ⟨ga, i * 2, none⟩ = some (.int .i64 ((pl cs i).1 : Int)) ∧ w'.cell? ⟨ga, i * 2 + 1, none⟩ = some (.int .i64 ((pl cs i).2 : Int)))
    (first | assumption | go_keep)
    (fail)
  rename_i hHeld
  clear hHeld
  obtain ⟨r, hr⟩ : ∃ r, w.heap.size = r := ⟨_, rfl⟩
  have hM0 := HM0.out
  rw [HS0.out, hr]
  rw [hr] at hM0
  generalize (w0.alloc (.cells #[.int .i64 1, .string ⟨#[]⟩, .slice none 0 0, .string ⟨#[]⟩, .int .i64 ((pl cs i).1 : Int), .int .i64 ((pl cs i).2 : Int), .bool false] 38)).drew = wa at hM0 ⊢
  obtain ⟨_, _, _, c3, c4⟩ := hM0.sn.cells
  have g3 := hM0.sn.free 3
  have hM1 := hM0.setz ((i : Int) + 1) (i + 1) (by omega)
  have hC := c_any hM1.sn hM1.sr (i + 1) (by omega)
  rw [h47, show ((i + 1 : Nat) : Int) = (i : Int) + 1 by omega] at hC
  have hM2 := hM1.setz ((i : Int) + 1 + 1) (i + 2) (by omega)
  have y0 := hM2.cell 0 _ rfl
  have yf := hM2.free 0
  have hM3 := hM2.setc 0 (.int .i64 2) #[.int .i64 2, .string (⟨#[]⟩), .slice none 0 0, .string ⟨#[]⟩, .int .i64 ((pl cs i).1 : Int), .int .i64 ((pl cs i).2 : Int), .bool false] rfl
  have hnm := name_rf hM3.sn hM3.sr hi2
  have HM3 := Lib.hid hM3
  clear hM0 hM1 hM2 hM3
  cases hN : K.name (S cs (i + 2)) with
  | error er =>
    have HRES := Lib.hid (hR.symm.trans (end_e1 (by rw [hsk]; exact hN)))
    rw [hN] at hnm
    clear hR hsk h47 hN
    go_wp2_with (first
      | (go_at_call 42; refine hC.mono ?_; rintro e w1 ⟨rfl, rfl⟩)
      | (go_at_call 45; refine hnm.mono ?_; rintro e w2 ⟨hb2, z, k2, rfl, ⟨o, rfl, _⟩, hk2, he1, he2, hs2⟩; have hMa := HM3.out.step hs2 hb2; have y1 := hMa.cell 1 _ rfl; have f1 := hMa.free 1; have hM4 := hMa.setc 1 (.string o) #[.int .i64 2, .string (o), .slice none 0 0, .string ⟨#[]⟩, .int .i64 ((pl cs i).1 : Int), .int .i64 ((pl cs i).2 : Int), .bool false] rfl; have hbl2 := blanks_rf hM4.sn hM4.sr (by omega); have hn2 := nblank_le cs k2; have hne : ((er.1 : Int) == 0) = false := (by rw [beq_eq_false_iff_ne]; omega); have HM4 := Lib.hid hM4; clear hM4 hMa hs2 hb2)
      | (go_at_call 47; refine hbl2.mono ?_; rintro e w3 ⟨rfl, hs3, hb3⟩; have hM5 := HM4.out.step hs3 hb3; obtain ⟨_, _, _, _, e4⟩ := hM5.sn.cells; have x0 := hM5.cell 0 _ rfl; have x1 := hM5.cell 1 _ rfl; have x2 := hM5.cell 2 _ rfl; have x3 := hM5.cell 3 _ rfl; have x4 := hM5.cell 4 _ rfl; have x5 := hM5.cell 5 _ rfl; have x6 := hM5.cell 6 _ rfl; have t0 := hM5.cellr 0 _ rfl; have t1 := hM5.cellr 1 _ rfl; have t2 := hM5.cellr 2 _ rfl; have t3 := hM5.cellr 3 _ rfl; have t4 := hM5.cellr 4 _ rfl; have t5 := hM5.cellr 5 _ rfl; have t6 := hM5.cellr 6 _ rfl; have u0 := hM5.freer 0; have u1 := hM5.freer 1; have u2 := hM5.freer 2; have u3 := hM5.freer 3; have u4 := hM5.freer 4; have u5 := hM5.freer 5; have u6 := hM5.freer 6; have HM5 := Lib.hid hM5; clear hM5 hs3 hb3 hbl2))
    obtain ⟨W7, hW7, hbar, hsn, hlie, hkp⟩ := HM5.out.done
    rw [hW7]
    obtain ⟨v0, v1, v2, v3, v4, v5, v6⟩ := cells7 hlie
    clear hW7
    refine bodyPost_ret (v := .agg #[.int .i64 2, .string (o), .slice none 0 0, .string ⟨#[]⟩, .int .i64 ((pl cs i).1 : Int), .int .i64 ((pl cs i).2 : Int), .bool false]) ?_ rfl ?_
    · simp [results, Tryz.results27, go_sem, v0, v1, v2, v3, v4, v5, v6]
    rw [HRES.out]
    exact ⟨hbar, ⟨_, rfl, _, _, _, _, _, _, _, _, _, rfl⟩, he1, he2, _, by omega, hsn⟩
  | ok ns =>
    obtain ⟨n, s1⟩ := ns
    obtain ⟨k, hkl, rfl⟩ := name_at hN hi2
    rw [hN] at hnm
    obtain ⟨l, hl⟩ : ∃ l, k + K.nblank (S cs k) = l := ⟨_, rfl⟩
    have hbl' : K.blanks (S cs k) = S cs l := by rw [← hl]; exact S_skip cs k _
    have hll : l ≤ cs.length := by have := nblank_le cs k; omega
    by_cases h62 : cnum cs l = 62
    · obtain ⟨hw, hl1⟩ := want62_ok h62
      have HRES := Lib.hid (hR.symm.trans (end_ok (by rw [hsk]; exact hN) (by rw [hbl']; exact hw)))
      clear hR hsk h47 hN hbl' hw
      go_wp2_with (first
        | (go_at_call 42; refine hC.mono ?_; rintro e w1 ⟨rfl, rfl⟩)
        | (go_at_call 45; refine hnm.mono ?_; rintro e w2 ⟨hb2, k2, hk2, hk2l, rfl, hs2⟩; have hkk := S_inj hkl hk2l hk2; subst hkk; have hMa := HM3.out.step hs2 hb2; have y1 := hMa.cell 1 _ rfl; have f1 := hMa.free 1; have hM4 := hMa.setc 1 (.string (bs (U.n8 n))) #[.int .i64 2, .string (bs (U.n8 n)), .slice none 0 0, .string ⟨#[]⟩, .int .i64 ((pl cs i).1 : Int), .int .i64 ((pl cs i).2 : Int), .bool false] rfl; have hbl2 := blanks_rf hM4.sn hM4.sr (by omega); rw [hl] at hbl2; have HM4 := Lib.hid hM4; clear hM4 hMa hs2 hb2 hk2)
        | (go_at_call 47; refine hbl2.mono ?_; rintro e w3 ⟨rfl, hs3, hb3⟩; have hMc := HM4.out.step hs3 hb3; obtain ⟨_, _, _, _, e4⟩ := hMc.sn.cells; have hon := one_ok hMc.sn hMc.sr (by omega) 62 (by simpa using h62); have HMc := Lib.hid hMc; clear hMc hs3 hb3 hbl2)
        | (go_at_call 48; refine hon.mono ?_; rintro e w4 ⟨rfl, hs4, hb4⟩; have hM5 := HMc.out.step hs4 hb4; have x0 := hM5.cell 0 _ rfl; have x1 := hM5.cell 1 _ rfl; have x2 := hM5.cell 2 _ rfl; have x3 := hM5.cell 3 _ rfl; have x4 := hM5.cell 4 _ rfl; have x5 := hM5.cell 5 _ rfl; have x6 := hM5.cell 6 _ rfl; have t0 := hM5.cellr 0 _ rfl; have t1 := hM5.cellr 1 _ rfl; have t2 := hM5.cellr 2 _ rfl; have t3 := hM5.cellr 3 _ rfl; have t4 := hM5.cellr 4 _ rfl; have t5 := hM5.cellr 5 _ rfl; have t6 := hM5.cellr 6 _ rfl; have u0 := hM5.freer 0; have u1 := hM5.freer 1; have u2 := hM5.freer 2; have u3 := hM5.freer 3; have u4 := hM5.freer 4; have u5 := hM5.freer 5; have u6 := hM5.freer 6; have HM5 := Lib.hid hM5; clear hM5 hs4 hb4))
      obtain ⟨W7, hW7, hbar, hsn, hlie, hkp⟩ := HM5.out.done
      rw [hW7]
      obtain ⟨v0, v1, v2, v3, v4, v5, v6⟩ := cells7 hlie
      clear hW7
      refine bodyPost_ret (v := .agg #[.int .i64 2, .string (bs (U.n8 n)), .slice none 0 0, .string ⟨#[]⟩, .int .i64 ((pl cs i).1 : Int), .int .i64 ((pl cs i).2 : Int), .bool false]) ?_ rfl ?_
      · simp [results, Tryz.results27, go_sem, v0, v1, v2, v3, v4, v5, v6]
      rw [HRES.out]
      exact ⟨hbar, .slice none 0 0, l + 1, rfl, rfl, hl1, ⟨rfl, .inl ⟨rfl, rfl⟩⟩, hsn⟩
    · have hw := want62_bad h62
      have hmn : min l cs.length = l := by omega
      have HRES := Lib.hid (hR.symm.trans (end_e2 (by rw [hsk]; exact hN) (by rw [hbl']; exact hw)))
      clear hR hsk h47 hN hbl' hw
      go_wp2_with (first
        | (go_at_call 42; refine hC.mono ?_; rintro e w1 ⟨rfl, rfl⟩)
        | (go_at_call 45; refine hnm.mono ?_; rintro e w2 ⟨hb2, k2, hk2, hk2l, rfl, hs2⟩; have hkk := S_inj hkl hk2l hk2; subst hkk; have hMa := HM3.out.step hs2 hb2; have y1 := hMa.cell 1 _ rfl; have f1 := hMa.free 1; have hM4 := hMa.setc 1 (.string (bs (U.n8 n))) #[.int .i64 2, .string (bs (U.n8 n)), .slice none 0 0, .string ⟨#[]⟩, .int .i64 ((pl cs i).1 : Int), .int .i64 ((pl cs i).2 : Int), .bool false] rfl; have hbl2 := blanks_rf hM4.sn hM4.sr (by omega); rw [hl] at hbl2; have HM4 := Lib.hid hM4; clear hM4 hMa hs2 hb2 hk2)
        | (go_at_call 47; refine hbl2.mono ?_; rintro e w3 ⟨rfl, hs3, hb3⟩; have hMc := HM4.out.step hs3 hb3; obtain ⟨_, _, _, _, e4⟩ := hMc.sn.cells; have hon := one_bad hMc.sn hMc.sr (by omega) 62 (by simpa using h62); have HMc := Lib.hid hMc; clear hMc hs3 hb3 hbl2)
        | (go_at_call 48; refine hon.mono ?_; rintro e w4 ⟨rfl, hs4, hb4⟩; rw [hmn] at hs4; have hM5 := HMc.out.step hs4 hb4; have x0 := hM5.cell 0 _ rfl; have x1 := hM5.cell 1 _ rfl; have x2 := hM5.cell 2 _ rfl; have x3 := hM5.cell 3 _ rfl; have x4 := hM5.cell 4 _ rfl; have x5 := hM5.cell 5 _ rfl; have x6 := hM5.cell 6 _ rfl; have t0 := hM5.cellr 0 _ rfl; have t1 := hM5.cellr 1 _ rfl; have t2 := hM5.cellr 2 _ rfl; have t3 := hM5.cellr 3 _ rfl; have t4 := hM5.cellr 4 _ rfl; have t5 := hM5.cellr 5 _ rfl; have t6 := hM5.cellr 6 _ rfl; have u0 := hM5.freer 0; have u1 := hM5.freer 1; have u2 := hM5.freer 2; have u3 := hM5.freer 3; have u4 := hM5.freer 4; have u5 := hM5.freer 5; have u6 := hM5.freer 6; have HM5 := Lib.hid hM5; clear hM5 hs4 hb4))
      obtain ⟨W7, hW7, hbar, hsn, hlie, hkp⟩ := HM5.out.done
      rw [hW7]
      obtain ⟨v0, v1, v2, v3, v4, v5, v6⟩ := cells7 hlie
      clear hW7
      refine bodyPost_ret (v := .agg #[.int .i64 2, .string (bs (U.n8 n)), .slice none 0 0, .string ⟨#[]⟩, .int .i64 ((pl cs i).1 : Int), .int .i64 ((pl cs i).2 : Int), .bool false]) ?_ rfl ?_
      · simp [results, Tryz.results27, go_sem, v0, v1, v2, v3, v4, v5, v6]
      rw [HRES.out]
      exact ⟨hbar, ⟨_, rfl, _, _, _, _, _, _, _, _, _, rfl⟩, by show 1 ≤ 21; decide, by show 21 ≤ 100; decide, _, by omega, hsn⟩
end Go.Proofs.YtdilngjolhmjnaaGreatDoor
