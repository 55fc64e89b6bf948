/- The document's own reading of a start tag. Conditions: those that each theorem names. -/
import Derived.Test.YtdilngjolhmjnaaGreatDoorRg4
namespace Go.Proofs.YtdilngjolhmjnaaGreatDoor
open Go.RowKit Go.Shelf
set_option linter.all false

theorem TMid.kset {b : Nat} {cs : List Nat} {T C A : Value} {w : World} {r : Nat} {D : Array Value} {j e : Nat} {q : K.Pl} {W : World} (h : TMid b cs T C A w r D j e q W) (k : Nat) (v : Value) : KeepT 40 W (W.setCell ⟨r + 1, k, none⟩ v) := KeepT.set h.lie (by decide) k v
theorem TMid.kz {b : Nat} {cs : List Nat} {T C A : Value} {w : World} {r : Nat} {D : Array Value} {j e : Nat} {q : K.Pl} {W : World} (h : TMid b cs T C A w r D j e q W) (v : Value) : KeepT 40 W (W.setCell ⟨b, 3, none⟩ v) := KeepT.set (show W.heap[b]? = some (.cells _ 64 (0, 0)) from h.sn) (by decide) 3 v
theorem TMid.kbar {b : Nat} {cs : List Nat} {T C A : Value} {w : World} {r : Nat} {D : Array Value} {j e : Nat} {q : K.Pl} {W : World} (h : TMid b cs T C A w r D j e q W) {W' : World} (hb : Bar b W W') : KeepT 40 W W' := KeepT.bar64 hb h.sn (by decide)
theorem TMid.k7 {b : Nat} {cs : List Nat} {T C A : Value} {w : World} {r : Nat} {D : Array Value} {j e : Nat} {q : K.Pl} {W : World} (h : TMid b cs T C A w r D j e q W) {W7 : World} (hk : ∀ k, k ≠ r → W7.heap[k]? = W.heap[k]?) : KeepT 40 W W7 := by
  intro g c hx
  have hg : g ≠ r := by
    rintro rfl
    rw [h.lir] at hx
    cases hx
  rw [hk g hg]
  exact hx
theorem own_le {w : World} {B B' : Nat} {e : TypeId} {sz n : Nat} {v : Value} {xs : List Value} (h : w.ownsRow B' e sz v n xs) (hB : B ≤ B') : w.ownsRow B e sz v n xs := by
  refine ⟨h.1, ?_⟩
  rcases h.2 with hn | ⟨g, cap, cur, hv, hg, rest⟩
  · exact .inl hn
  · exact .inr ⟨g, cap, cur, hv, Nat.le_trans hB hg, rest⟩
theorem own_shape {w : World} {B : Nat} {e : TypeId} {sz n : Nat} {v : Value} {xs : List Value} (h : w.ownsRow B e sz v n xs) : ∃ p m c, v = .slice p m c := by
  rcases h.2 with ⟨rfl, _⟩ | ⟨g, cap, cur, rfl, _⟩
  · exact ⟨_, _, _, rfl⟩
  · exact ⟨_, _, _, rfl⟩
theorem st_e1 {s : K.St} {er : K.Er} (h : K.name (K.skip s 1) = .error er) : K.startTag s = .error er := by unfold K.startTag; rw [h]
theorem st_e2 {s s1 : K.St} {n : List Nat} {er : K.Er} (h : K.name (K.skip s 1) = .ok (n, s1)) (h2 : K.attrs s1 = .error er) : K.startTag s = .error er := by unfold K.startTag; rw [h]; dsimp only; rw [h2]
theorem st_e3 {s s1 s2 : K.St} {n : List Nat} {l : List K.At} {er : K.Er} (h : K.name (K.skip s 1) = .ok (n, s1)) (h2 : K.attrs s1 = .ok (l, s2)) (h3 : K.want [62] (if K.sees [47] s2 then K.skip s2 1 else s2) = .error er) : K.startTag s = .error er := by unfold K.startTag; rw [h]; dsimp only; rw [h2]; dsimp only; rw [h3]
theorem st_ok {s s1 s2 s3 : K.St} {n : List Nat} {l : List K.At} (h : K.name (K.skip s 1) = .ok (n, s1)) (h2 : K.attrs s1 = .ok (l, s2)) (h3 : K.want [62] (if K.sees [47] s2 then K.skip s2 1 else s2) = .ok s3) : K.startTag s = .ok (⟨1, n, l, [], s.2, K.sees [47] s2⟩, s3) := by unfold K.startTag; rw [h]; dsimp only; rw [h2]; dsimp only; rw [h3]
theorem attrsF_goes : ∀ (f : Nat) (s : K.St) (acc l : List K.At) (s2 : K.St), K.attrsF f s acc = .ok (l, s2) → Goes s s2
  | 0, s, acc, l, s2, h => by
    unfold K.attrsF at h
    simp only [Except.ok.injEq, Prod.mk.injEq] at h
    rw [← h.2]
    exact ⟨[], rfl, rfl⟩
  | f + 1, s, acc, l, s2, h => by
    unfold K.attrsF at h
    split at h
    · simp only [Except.ok.injEq, Prod.mk.injEq] at h
      rw [← h.2]
      exact goes_skip s _
    · cases ha : K.attr1 (K.blanks s) with
      | error e => rw [ha] at h; cases h
      | ok q =>
        obtain ⟨a, s1⟩ := q
        rw [ha] at h
        exact ((goes_skip s _).trans (attr1_goes ha).1).trans (attrsF_goes f s1 _ l s2 h)
theorem attrs_at {cs : List Nat} {k : Nat} {l : List K.At} {s2 : K.St} (h : K.attrs (S cs k) = .ok (l, s2)) (hk : k ≤ cs.length) : ∃ j, j ≤ cs.length ∧ s2 = S cs j := by
  obtain ⟨j, rfl, _, hj⟩ := S_goes (attrsF_goes _ _ _ _ _ h) hk
  exact ⟨j, hj, rfl⟩
theorem sees47 (cs : List Nat) (j : Nat) : K.sees [47] (S cs j) = decide (cnum cs j = 47) := by
  rw [sees_step, sees_empty, Bool.and_true]
  rfl

set_option maxHeartbeats 8000000 in
set_option maxRecDepth 100000 in
theorem startTag_rf {b : Nat} {cs : List Nat} {T C A : Value} {i B : Nat} {w : World} (hn : Sn b T C A i 0 (0, 0) w) (hr : Sr b cs T C A w) (hno : K.sees [60, 47] (S cs i) = false) (hsee : K.sees [60] (S cs i) = true) (hB : w.heap.size = B) :
    Calls Tryz.prog 27 #[.pointer (some ⟨b, 0, none⟩)] w (TPost b cs T C A B w (K.startTag (S cs i))) := by
  have hlen := hr.len
  have hi1 : i + 1 ≤ cs.length := by
    have := (List.isPrefixOf_iff_prefix.1 hsee).length_le
    rw [S_eq] at this
    simp only [List.length_drop, List.length_cons, List.length_nil] at this
    omega
  obtain ⟨ga, na, hA, hpl⟩ := hr.place
  have HPl := Lib.hid hpl
  have HA := Lib.hid hA
  have HN := Lib.hid hn
  have HR := Lib.hid hr
  obtain ⟨R, hR⟩ : ∃ R, K.startTag (S cs i) = R := ⟨_, rfl⟩
  rw [hR]
  have hsk : K.skip (S cs i) 1 = S cs (i + 1) := S_skip cs i 1
  have h47 : ¬ cnum cs (i + 1) = 47 := by
    intro h
    rw [sees_step, sees_empty, Bool.and_true] at hsee
    rw [sees_step, sees_step, sees_empty, hsee, h] at hno
    cases hno
  have h47' : (cnum cs (i + 1) == 47) = false := by rw [beq_eq_false_iff_ne]; exact h47
  have HBz := Lib.hid hB
  clear hpl hA hn hr hB hsee hno
  go_enter Tryz.func27, Tryz.ntmps27
  go_wp2
  obtain ⟨w0, hw0⟩ : ∃ w0, w.alloc (.cells z38 38) = w0 := ⟨_, rfl⟩
  obtain ⟨hM0, hs0, hb0, hn0⟩ := TMid.start #[.int .i64 1, .string ⟨#[]⟩, .slice none 0 0, .string ⟨#[]⟩, .int .i64 ((pl cs i).1 : Int), .int .i64 ((pl cs i).2 : Int), .bool false] HN.out HR.out hw0
  rw [hw0]
  obtain ⟨_, _, d2, d3, _⟩ := hn0.cells
  rw [HA.out] at d2
  obtain ⟨p0, p1⟩ := HPl.out i (by omega) _ hb0
  have hml2 : (i : Int) < (cs.length : Int) + 1 := by omega
  have hlt0 := lt_of_heap hn0
  have HM0 := Lib.hid hM0
  have HS0 := Lib.hid hs0
  clear hM0 hs0 hb0 hn0
  go_region_held3 (fun w' => w'.cell? ⟨b, 2, none⟩ = some (.slice (some ⟨ga, 0, none⟩) (cs.length + 1) na) ∧ w'.cell? ⟨b, 3, none⟩ = some (.int .i64 (i : Int)) ∧ w'.cell? ⟨ga, i * 2, none⟩ = some (.int .i64 ((pl cs i).1 : Int)) ∧ w'.cell? ⟨ga, i * 2 + 1, none⟩ = some (.int .i64 ((pl cs i).2 : Int)))
    (first | assumption | go_keep)
    (fail)
  rename_i hHeld
  clear hHeld
  obtain ⟨r, hr⟩ : ∃ r, w.heap.size = r := ⟨_, rfl⟩
  have hM0 := HM0.out
  rw [HS0.out, hr]
  rw [hr] at hM0
  generalize (w0.alloc (.cells #[.int .i64 1, .string ⟨#[]⟩, .slice none 0 0, .string ⟨#[]⟩, .int .i64 ((pl cs i).1 : Int), .int .i64 ((pl cs i).2 : Int), .bool false] 38)).drew = wa at hM0 ⊢
  obtain ⟨_, _, _, c3, c4⟩ := hM0.sn.cells
  have g3 := hM0.sn.free 3
  have hM1 := hM0.setz ((i : Int) + 1) (i + 1) (by omega)
  have hC := c_any hM1.sn hM1.sr (i + 1) (by omega)
  rw [show ((i + 1 : Nat) : Int) = (i : Int) + 1 by omega] at hC
  have hnm := name_rf hM1.sn hM1.sr hi1
  have HM3 := Lib.hid hM1
  clear hM0 hM1
  cases hN : K.name (S cs (i + 1)) with
  | error er =>
    have HRES := Lib.hid (hR.symm.trans (st_e1 (by rw [hsk]; exact hN)))
    rw [hN] at hnm
    clear hR hsk hN
    go_wp2_with (first
      | (go_at_call 42; refine hC.mono ?_; rintro e w1 ⟨rfl, rfl⟩)
      | (go_at_call 45; refine hnm.mono ?_; rintro e w2 ⟨hb2, z, k2, rfl, ⟨o, rfl, _⟩, hk2, he1, he2, hs2⟩; have hMa := HM3.out.step hs2 hb2; have y1 := hMa.cell 1 _ rfl; have f1 := hMa.free 1; have hM4 := hMa.setc 1 (.string o) #[.int .i64 1, .string (o), (.slice none 0 0), .string ⟨#[]⟩, .int .i64 ((pl cs i).1 : Int), .int .i64 ((pl cs i).2 : Int), .bool false] rfl; have han := attrs_no (show er.1 ≠ 0 by omega) hM4.sn; have y2 := hM4.cell 2 _ rfl; have f2 := hM4.free 2; have hne : ((er.1 : Int) == 0) = false := (by rw [beq_eq_false_iff_ne]; omega); have hM5 := hM4.setc 2 (.slice none 0 0) #[.int .i64 1, .string (o), (.slice none 0 0), .string ⟨#[]⟩, .int .i64 ((pl cs i).1 : Int), .int .i64 ((pl cs i).2 : Int), .bool false] rfl; obtain ⟨_, _, _, _, e4⟩ := hM5.sn.cells; have x0 := hM5.cell 0 _ rfl; have x1 := hM5.cell 1 _ rfl; have x2 := hM5.cell 2 _ rfl; have x3 := hM5.cell 3 _ rfl; have x4 := hM5.cell 4 _ rfl; have x5 := hM5.cell 5 _ rfl; have x6 := hM5.cell 6 _ rfl; have t0 := hM5.cellr 0 _ rfl; have t1 := hM5.cellr 1 _ rfl; have t2 := hM5.cellr 2 _ rfl; have t3 := hM5.cellr 3 _ rfl; have t4 := hM5.cellr 4 _ rfl; have t5 := hM5.cellr 5 _ rfl; have t6 := hM5.cellr 6 _ rfl; have u0 := hM5.freer 0; have u1 := hM5.freer 1; have u2 := hM5.freer 2; have u3 := hM5.freer 3; have u4 := hM5.freer 4; have u5 := hM5.freer 5; have u6 := hM5.freer 6; have HM5 := Lib.hid hM5; clear hM5 hM4 hMa hs2 hb2)
      | (go_at_call 43; refine han.mono ?_; rintro e w3 ⟨rfl, rfl⟩))
    obtain ⟨W7, hW7, hbar, hsn, hlie, hkp⟩ := HM5.out.done
    rw [hW7]
    obtain ⟨v0, v1, v2, v3, v4, v5, v6⟩ := cells7 hlie
    clear hW7
    refine bodyPost_ret (v := .agg #[.int .i64 1, .string (o), (.slice none 0 0), .string ⟨#[]⟩, .int .i64 ((pl cs i).1 : Int), .int .i64 ((pl cs i).2 : Int), .bool false]) ?_ rfl ?_
    · simp [results, Tryz.results27, go_sem, v0, v1, v2, v3, v4, v5, v6]
    rw [HRES.out]
    exact ⟨hbar, ⟨_, rfl, _, _, _, _, _, _, _, _, _, rfl⟩, he1, he2, _, by omega, hsn⟩
  | ok ns =>
    obtain ⟨n, s1⟩ := ns
    obtain ⟨k, hkl, rfl⟩ := name_at hN hi1
    rw [hN] at hnm
    cases hAt : K.attrs (S cs k) with
    | error er =>
      have HRES := Lib.hid (hR.symm.trans (st_e2 (by rw [hsk]; exact hN) hAt))
      clear hR hsk hN
      go_wp2_with (first
        | (go_at_call 42; refine hC.mono ?_; rintro e w1 ⟨rfl, rfl⟩)
        | (go_at_call 45; refine hnm.mono ?_; rintro e w2 ⟨hb2, k2, hk2, hk2l, rfl, hs2⟩; have hkk := S_inj hkl hk2l hk2; subst hkk; have hMa := HM3.out.step hs2 hb2; have y1 := hMa.cell 1 _ rfl; have f1 := hMa.free 1; have hM4 := hMa.setc 1 (.string (bs (U.n8 n))) #[.int .i64 1, .string (bs (U.n8 n)), (.slice none 0 0), .string ⟨#[]⟩, .int .i64 ((pl cs i).1 : Int), .int .i64 ((pl cs i).2 : Int), .bool false] rfl; have hat := attrs_rf hM4.sn hM4.sr hkl rfl; rw [hAt] at hat; have hszz := hM4.bar.size; have y2 := hM4.cell 2 _ rfl; have f2 := hM4.free 2; have HM4 := Lib.hid hM4; clear hM4 hMa hs2 hb2 hk2)
        | (go_at_call 43; refine hat.mono ?_; rintro e w3 ⟨hb3, p3, n3, m3, rfl, he1, he2, j3, hj3, hs3⟩; have hMb := HM4.out.step hs3 hb3; have y2' := hMb.cell 2 _ rfl; have f2' := hMb.free 2; have hM5 := hMb.setc 2 (.slice p3 n3 m3) #[.int .i64 1, .string (bs (U.n8 n)), (.slice p3 n3 m3), .string ⟨#[]⟩, .int .i64 ((pl cs i).1 : Int), .int .i64 ((pl cs i).2 : Int), .bool false] rfl; have hne : ((er.1 : Int) == 0) = false := (by rw [beq_eq_false_iff_ne]; omega); obtain ⟨_, _, _, _, e4⟩ := hM5.sn.cells; have x0 := hM5.cell 0 _ rfl; have x1 := hM5.cell 1 _ rfl; have x2 := hM5.cell 2 _ rfl; have x3 := hM5.cell 3 _ rfl; have x4 := hM5.cell 4 _ rfl; have x5 := hM5.cell 5 _ rfl; have x6 := hM5.cell 6 _ rfl; have t0 := hM5.cellr 0 _ rfl; have t1 := hM5.cellr 1 _ rfl; have t2 := hM5.cellr 2 _ rfl; have t3 := hM5.cellr 3 _ rfl; have t4 := hM5.cellr 4 _ rfl; have t5 := hM5.cellr 5 _ rfl; have t6 := hM5.cellr 6 _ rfl; have u0 := hM5.freer 0; have u1 := hM5.freer 1; have u2 := hM5.freer 2; have u3 := hM5.freer 3; have u4 := hM5.freer 4; have u5 := hM5.freer 5; have u6 := hM5.freer 6; have HM5 := Lib.hid hM5; clear hM5 hMb hs3 hb3 hat))
      obtain ⟨W7, hW7, hbar, hsn, hlie, hkp⟩ := HM5.out.done
      rw [hW7]
      obtain ⟨v0, v1, v2, v3, v4, v5, v6⟩ := cells7 hlie
      clear hW7
      refine bodyPost_ret (v := .agg #[.int .i64 1, .string (bs (U.n8 n)), (.slice p3 n3 m3), .string ⟨#[]⟩, .int .i64 ((pl cs i).1 : Int), .int .i64 ((pl cs i).2 : Int), .bool false]) ?_ rfl ?_
      · simp [results, Tryz.results27, go_sem, v0, v1, v2, v3, v4, v5, v6]
      rw [HRES.out]
      exact ⟨hbar, ⟨_, rfl, _, _, _, _, _, _, _, _, _, rfl⟩, he1, he2, _, by omega, hsn⟩
    | ok ls =>
      obtain ⟨al, s2⟩ := ls
      obtain ⟨j, hjl, rfl⟩ := attrs_at hAt hkl
      by_cases h47j : cnum cs j = 47
      · have hs47 : K.sees [47] (S cs j) = true := by rw [sees47]; exact decide_eq_true h47j
        have hjl1 : j + 1 ≤ cs.length := by
          have := (List.isPrefixOf_iff_prefix.1 hs47).length_le
          rw [S_eq] at this
          simp only [List.length_drop, List.length_cons, List.length_nil] at this
          omega
        have hif : (if K.sees [47] (S cs j) then K.skip (S cs j) 1 else S cs j) = S cs (j + 1) := by rw [if_pos hs47]; exact S_skip cs j 1
        by_cases h62 : cnum cs (j + 1) = 62
        · obtain ⟨hw, hl1⟩ := want62_ok h62
          have hre := hR.symm.trans (st_ok (by rw [hsk]; exact hN) hAt (by rw [hif]; exact hw))
          rw [hs47] at hre
          have HRES := Lib.hid hre
          clear hR hsk hN hif hw hs47 hre
          go_wp2_with (first
            | (go_at_call 42; first | (with_reducible refine hC.mono ?_; rintro e w1 ⟨rfl, rfl⟩) | (with_reducible refine hC2.mono ?_; rintro e w1 ⟨rfl, rfl⟩))
            | (go_at_call 45; refine hnm.mono ?_; rintro e w2 ⟨hb2, k2, hk2, hk2l, rfl, hs2⟩; have hkk := S_inj hkl hk2l hk2; subst hkk; have hMa := HM3.out.step hs2 hb2; have y1 := hMa.cell 1 _ rfl; have f1 := hMa.free 1; have hM4 := hMa.setc 1 (.string (bs (U.n8 n))) #[.int .i64 1, .string (bs (U.n8 n)), (.slice none 0 0), .string ⟨#[]⟩, .int .i64 ((pl cs i).1 : Int), .int .i64 ((pl cs i).2 : Int), .bool false] rfl; have hat := attrs_rf hM4.sn hM4.sr hkl rfl; rw [hAt] at hat; have hszz := hM4.bar.size; have y2 := hM4.cell 2 _ rfl; have f2 := hM4.free 2; have HM4 := Lib.hid hM4; clear hM4 hMa hs2 hb2 hk2)
            | (go_at_call 43; refine hat.mono ?_; rintro e w3 ⟨hb3, av, j3, rfl, hj3, hj3l, hown, hs3⟩; have hjj := S_inj hjl hj3l hj3; subst hjj; obtain ⟨p3, n3, m3, rfl⟩ := own_shape hown; have hMb := HM4.out.step hs3 hb3; have y2' := hMb.cell 2 _ rfl; have f2' := hMb.free 2; have hM5 := hMb.setc 2 (.slice p3 n3 m3) #[.int .i64 1, .string (bs (U.n8 n)), (.slice p3 n3 m3), .string ⟨#[]⟩, .int .i64 ((pl cs i).1 : Int), .int .i64 ((pl cs i).2 : Int), .bool false] rfl; have HO := Lib.hid ((hMb.kset 2 (.slice p3 n3 m3)).own (own_le hown (Nat.le_trans (Nat.le_of_eq HBz.out.symm) hszz))); obtain ⟨_, _, _, e3, e4⟩ := hM5.sn.cells; have h3 := hM5.sn.free 3; have hC2 := c_any hM5.sn hM5.sr j (by omega); rw [h47j] at hC2; have hM6 := hM5.setz ((j : Int) + 1) (j + 1) (by omega); have y6 := hM6.cell 6 _ rfl; have f6 := hM6.free 6; have hM8 := hM6.setc 6 (.bool true) #[.int .i64 1, .string (bs (U.n8 n)), (.slice p3 n3 m3), .string ⟨#[]⟩, .int .i64 ((pl cs i).1 : Int), .int .i64 ((pl cs i).2 : Int), .bool true] rfl; obtain ⟨_, _, _, _, e4'⟩ := hM8.sn.cells; have hon := one_ok hM8.sn hM8.sr (by omega) 62 (by simpa using h62); have HO8 := Lib.hid ((hM6.kset 6 (.bool true)).own ((hM5.kz _).own HO.out)); have HM8 := Lib.hid hM8; clear hM6 hM8; have HM5 := Lib.hid hM5; clear hM5 hMb hs3 hb3 hat hown hj3 hj3l)
            | (go_at_call 48; refine hon.mono ?_; rintro e w4 ⟨rfl, hs4, hb4⟩; have hM9 := HM8.out.step hs4 hb4; have HO9 := Lib.hid ((HM8.out.kbar hb4).own HO8.out); have x0 := hM9.cell 0 _ rfl; have x1 := hM9.cell 1 _ rfl; have x2 := hM9.cell 2 _ rfl; have x3 := hM9.cell 3 _ rfl; have x4 := hM9.cell 4 _ rfl; have x5 := hM9.cell 5 _ rfl; have x6 := hM9.cell 6 _ rfl; have t0 := hM9.cellr 0 _ rfl; have t1 := hM9.cellr 1 _ rfl; have t2 := hM9.cellr 2 _ rfl; have t3 := hM9.cellr 3 _ rfl; have t4 := hM9.cellr 4 _ rfl; have t5 := hM9.cellr 5 _ rfl; have t6 := hM9.cellr 6 _ rfl; have u0 := hM9.freer 0; have u1 := hM9.freer 1; have u2 := hM9.freer 2; have u3 := hM9.freer 3; have u4 := hM9.freer 4; have u5 := hM9.freer 5; have u6 := hM9.freer 6; have HM5 := Lib.hid hM9; clear hM9 hs4 hb4))
          obtain ⟨W7, hW7, hbar, hsn, hlie, hkp⟩ := HM5.out.done
          rw [hW7]
          obtain ⟨v0, v1, v2, v3, v4, v5, v6⟩ := cells7 hlie
          clear hW7
          refine bodyPost_ret (v := .agg #[.int .i64 1, .string (bs (U.n8 n)), (.slice p3 n3 m3), .string ⟨#[]⟩, .int .i64 ((pl cs i).1 : Int), .int .i64 ((pl cs i).2 : Int), .bool true]) ?_ rfl ?_
          · simp [results, Tryz.results27, go_sem, v0, v1, v2, v3, v4, v5, v6]
          rw [HRES.out]
          exact ⟨hbar, (.slice p3 n3 m3), j + 1 + 1, rfl, rfl, by omega, (HM5.out.k7 hkp).own HO9.out, hsn⟩
        · have hw := want62_bad h62
          have hmn : min (j + 1) cs.length = j + 1 := by omega
          have HRES := Lib.hid (hR.symm.trans (st_e3 (by rw [hsk]; exact hN) hAt (by rw [hif]; exact hw)))
          clear hR hsk hN hif hw hs47
          go_wp2_with (first
            | (go_at_call 42; first | (with_reducible refine hC.mono ?_; rintro e w1 ⟨rfl, rfl⟩) | (with_reducible refine hC2.mono ?_; rintro e w1 ⟨rfl, rfl⟩))
            | (go_at_call 45; refine hnm.mono ?_; rintro e w2 ⟨hb2, k2, hk2, hk2l, rfl, hs2⟩; have hkk := S_inj hkl hk2l hk2; subst hkk; have hMa := HM3.out.step hs2 hb2; have y1 := hMa.cell 1 _ rfl; have f1 := hMa.free 1; have hM4 := hMa.setc 1 (.string (bs (U.n8 n))) #[.int .i64 1, .string (bs (U.n8 n)), (.slice none 0 0), .string ⟨#[]⟩, .int .i64 ((pl cs i).1 : Int), .int .i64 ((pl cs i).2 : Int), .bool false] rfl; have hat := attrs_rf hM4.sn hM4.sr hkl rfl; rw [hAt] at hat; have hszz := hM4.bar.size; have y2 := hM4.cell 2 _ rfl; have f2 := hM4.free 2; have HM4 := Lib.hid hM4; clear hM4 hMa hs2 hb2 hk2)
            | (go_at_call 43; refine hat.mono ?_; rintro e w3 ⟨hb3, av, j3, rfl, hj3, hj3l, hown, hs3⟩; have hjj := S_inj hjl hj3l hj3; subst hjj; obtain ⟨p3, n3, m3, rfl⟩ := own_shape hown; have hMb := HM4.out.step hs3 hb3; have y2' := hMb.cell 2 _ rfl; have f2' := hMb.free 2; have hM5 := hMb.setc 2 (.slice p3 n3 m3) #[.int .i64 1, .string (bs (U.n8 n)), (.slice p3 n3 m3), .string ⟨#[]⟩, .int .i64 ((pl cs i).1 : Int), .int .i64 ((pl cs i).2 : Int), .bool false] rfl; have HO := Lib.hid ((hMb.kset 2 (.slice p3 n3 m3)).own (own_le hown (Nat.le_trans (Nat.le_of_eq HBz.out.symm) hszz))); obtain ⟨_, _, _, e3, e4⟩ := hM5.sn.cells; have h3 := hM5.sn.free 3; have hC2 := c_any hM5.sn hM5.sr j (by omega); rw [h47j] at hC2; have hM6 := hM5.setz ((j : Int) + 1) (j + 1) (by omega); have y6 := hM6.cell 6 _ rfl; have f6 := hM6.free 6; have hM8 := hM6.setc 6 (.bool true) #[.int .i64 1, .string (bs (U.n8 n)), (.slice p3 n3 m3), .string ⟨#[]⟩, .int .i64 ((pl cs i).1 : Int), .int .i64 ((pl cs i).2 : Int), .bool true] rfl; obtain ⟨_, _, _, _, e4'⟩ := hM8.sn.cells; have hon := one_bad hM8.sn hM8.sr (by omega) 62 (by simpa using h62); have HO8 := Lib.hid ((hM6.kset 6 (.bool true)).own ((hM5.kz _).own HO.out)); have HM8 := Lib.hid hM8; clear hM6 hM8; have HM5 := Lib.hid hM5; clear hM5 hMb hs3 hb3 hat hown hj3 hj3l)
            | (go_at_call 48; refine hon.mono ?_; rintro e w4 ⟨rfl, hs4, hb4⟩; rw [hmn] at hs4; have hM9 := HM8.out.step hs4 hb4; have HO9 := Lib.hid ((HM8.out.kbar hb4).own HO8.out); have x0 := hM9.cell 0 _ rfl; have x1 := hM9.cell 1 _ rfl; have x2 := hM9.cell 2 _ rfl; have x3 := hM9.cell 3 _ rfl; have x4 := hM9.cell 4 _ rfl; have x5 := hM9.cell 5 _ rfl; have x6 := hM9.cell 6 _ rfl; have t0 := hM9.cellr 0 _ rfl; have t1 := hM9.cellr 1 _ rfl; have t2 := hM9.cellr 2 _ rfl; have t3 := hM9.cellr 3 _ rfl; have t4 := hM9.cellr 4 _ rfl; have t5 := hM9.cellr 5 _ rfl; have t6 := hM9.cellr 6 _ rfl; have u0 := hM9.freer 0; have u1 := hM9.freer 1; have u2 := hM9.freer 2; have u3 := hM9.freer 3; have u4 := hM9.freer 4; have u5 := hM9.freer 5; have u6 := hM9.freer 6; have HM5 := Lib.hid hM9; clear hM9 hs4 hb4))
          obtain ⟨W7, hW7, hbar, hsn, hlie, hkp⟩ := HM5.out.done
          rw [hW7]
          obtain ⟨v0, v1, v2, v3, v4, v5, v6⟩ := cells7 hlie
          clear hW7
          refine bodyPost_ret (v := .agg #[.int .i64 1, .string (bs (U.n8 n)), (.slice p3 n3 m3), .string ⟨#[]⟩, .int .i64 ((pl cs i).1 : Int), .int .i64 ((pl cs i).2 : Int), .bool true]) ?_ rfl ?_
          · simp [results, Tryz.results27, go_sem, v0, v1, v2, v3, v4, v5, v6]
          rw [HRES.out]
          exact ⟨hbar, ⟨_, rfl, _, _, _, _, _, _, _, _, _, rfl⟩, by show 1 ≤ 21; decide, by show 21 ≤ 100; decide, _, by omega, hsn⟩
      · have hs47 : K.sees [47] (S cs j) = false := by rw [sees47]; exact decide_eq_false h47j
        have h47b : (cnum cs j == 47) = false := by rw [beq_eq_false_iff_ne]; exact h47j
        have hif : (if K.sees [47] (S cs j) then K.skip (S cs j) 1 else S cs j) = S cs j := by rw [if_neg (by rw [hs47]; decide)]
        by_cases h62 : cnum cs j = 62
        · obtain ⟨hw, hl1⟩ := want62_ok h62
          have hre := hR.symm.trans (st_ok (by rw [hsk]; exact hN) hAt (by rw [hif]; exact hw))
          rw [hs47] at hre
          have HRES := Lib.hid hre
          clear hR hsk hN hif hw hs47 hre
          go_wp2_with (first
            | (go_at_call 42; first | (with_reducible refine hC.mono ?_; rintro e w1 ⟨rfl, rfl⟩) | (with_reducible refine hC2.mono ?_; rintro e w1 ⟨rfl, rfl⟩))
            | (go_at_call 45; refine hnm.mono ?_; rintro e w2 ⟨hb2, k2, hk2, hk2l, rfl, hs2⟩; have hkk := S_inj hkl hk2l hk2; subst hkk; have hMa := HM3.out.step hs2 hb2; have y1 := hMa.cell 1 _ rfl; have f1 := hMa.free 1; have hM4 := hMa.setc 1 (.string (bs (U.n8 n))) #[.int .i64 1, .string (bs (U.n8 n)), (.slice none 0 0), .string ⟨#[]⟩, .int .i64 ((pl cs i).1 : Int), .int .i64 ((pl cs i).2 : Int), .bool false] rfl; have hat := attrs_rf hM4.sn hM4.sr hkl rfl; rw [hAt] at hat; have hszz := hM4.bar.size; have y2 := hM4.cell 2 _ rfl; have f2 := hM4.free 2; have HM4 := Lib.hid hM4; clear hM4 hMa hs2 hb2 hk2)
            | (go_at_call 43; refine hat.mono ?_; rintro e w3 ⟨hb3, av, j3, rfl, hj3, hj3l, hown, hs3⟩; have hjj := S_inj hjl hj3l hj3; subst hjj; obtain ⟨p3, n3, m3, rfl⟩ := own_shape hown; have hMb := HM4.out.step hs3 hb3; have y2' := hMb.cell 2 _ rfl; have f2' := hMb.free 2; have hM5 := hMb.setc 2 (.slice p3 n3 m3) #[.int .i64 1, .string (bs (U.n8 n)), (.slice p3 n3 m3), .string ⟨#[]⟩, .int .i64 ((pl cs i).1 : Int), .int .i64 ((pl cs i).2 : Int), .bool false] rfl; have HO := Lib.hid ((hMb.kset 2 (.slice p3 n3 m3)).own (own_le hown (Nat.le_trans (Nat.le_of_eq HBz.out.symm) hszz))); obtain ⟨_, _, _, e3, e4⟩ := hM5.sn.cells; have h3 := hM5.sn.free 3; have hC2 := c_any hM5.sn hM5.sr j (by omega); have hon := one_ok hM5.sn hM5.sr (by omega) 62 (by simpa using h62); have HO8 := HO; have HM8 := Lib.hid hM5; have HM5 := Lib.hid hM5; clear hM5 hMb hs3 hb3 hat hown hj3 hj3l)
            | (go_at_call 48; refine hon.mono ?_; rintro e w4 ⟨rfl, hs4, hb4⟩; have hM9 := HM8.out.step hs4 hb4; have HO9 := Lib.hid ((HM8.out.kbar hb4).own HO8.out); have x0 := hM9.cell 0 _ rfl; have x1 := hM9.cell 1 _ rfl; have x2 := hM9.cell 2 _ rfl; have x3 := hM9.cell 3 _ rfl; have x4 := hM9.cell 4 _ rfl; have x5 := hM9.cell 5 _ rfl; have x6 := hM9.cell 6 _ rfl; have t0 := hM9.cellr 0 _ rfl; have t1 := hM9.cellr 1 _ rfl; have t2 := hM9.cellr 2 _ rfl; have t3 := hM9.cellr 3 _ rfl; have t4 := hM9.cellr 4 _ rfl; have t5 := hM9.cellr 5 _ rfl; have t6 := hM9.cellr 6 _ rfl; have u0 := hM9.freer 0; have u1 := hM9.freer 1; have u2 := hM9.freer 2; have u3 := hM9.freer 3; have u4 := hM9.freer 4; have u5 := hM9.freer 5; have u6 := hM9.freer 6; have HM5 := Lib.hid hM9; clear hM9 hs4 hb4))
          obtain ⟨W7, hW7, hbar, hsn, hlie, hkp⟩ := HM5.out.done
          rw [hW7]
          obtain ⟨v0, v1, v2, v3, v4, v5, v6⟩ := cells7 hlie
          clear hW7
          refine bodyPost_ret (v := .agg #[.int .i64 1, .string (bs (U.n8 n)), (.slice p3 n3 m3), .string ⟨#[]⟩, .int .i64 ((pl cs i).1 : Int), .int .i64 ((pl cs i).2 : Int), .bool false]) ?_ rfl ?_
          · simp [results, Tryz.results27, go_sem, v0, v1, v2, v3, v4, v5, v6]
          rw [HRES.out]
          exact ⟨hbar, (.slice p3 n3 m3), j + 1, rfl, rfl, by omega, (HM5.out.k7 hkp).own HO9.out, hsn⟩
        · have hw := want62_bad h62
          have hmn : min j cs.length = j := by omega
          have HRES := Lib.hid (hR.symm.trans (st_e3 (by rw [hsk]; exact hN) hAt (by rw [hif]; exact hw)))
          clear hR hsk hN hif hw hs47
          go_wp2_with (first
            | (go_at_call 42; first | (with_reducible refine hC.mono ?_; rintro e w1 ⟨rfl, rfl⟩) | (with_reducible refine hC2.mono ?_; rintro e w1 ⟨rfl, rfl⟩))
            | (go_at_call 45; refine hnm.mono ?_; rintro e w2 ⟨hb2, k2, hk2, hk2l, rfl, hs2⟩; have hkk := S_inj hkl hk2l hk2; subst hkk; have hMa := HM3.out.step hs2 hb2; have y1 := hMa.cell 1 _ rfl; have f1 := hMa.free 1; have hM4 := hMa.setc 1 (.string (bs (U.n8 n))) #[.int .i64 1, .string (bs (U.n8 n)), (.slice none 0 0), .string ⟨#[]⟩, .int .i64 ((pl cs i).1 : Int), .int .i64 ((pl cs i).2 : Int), .bool false] rfl; have hat := attrs_rf hM4.sn hM4.sr hkl rfl; rw [hAt] at hat; have hszz := hM4.bar.size; have y2 := hM4.cell 2 _ rfl; have f2 := hM4.free 2; have HM4 := Lib.hid hM4; clear hM4 hMa hs2 hb2 hk2)
            | (go_at_call 43; refine hat.mono ?_; rintro e w3 ⟨hb3, av, j3, rfl, hj3, hj3l, hown, hs3⟩; have hjj := S_inj hjl hj3l hj3; subst hjj; obtain ⟨p3, n3, m3, rfl⟩ := own_shape hown; have hMb := HM4.out.step hs3 hb3; have y2' := hMb.cell 2 _ rfl; have f2' := hMb.free 2; have hM5 := hMb.setc 2 (.slice p3 n3 m3) #[.int .i64 1, .string (bs (U.n8 n)), (.slice p3 n3 m3), .string ⟨#[]⟩, .int .i64 ((pl cs i).1 : Int), .int .i64 ((pl cs i).2 : Int), .bool false] rfl; have HO := Lib.hid ((hMb.kset 2 (.slice p3 n3 m3)).own (own_le hown (Nat.le_trans (Nat.le_of_eq HBz.out.symm) hszz))); obtain ⟨_, _, _, e3, e4⟩ := hM5.sn.cells; have h3 := hM5.sn.free 3; have hC2 := c_any hM5.sn hM5.sr j (by omega); have hon := one_bad hM5.sn hM5.sr (by omega) 62 (by simpa using h62); have HO8 := HO; have HM8 := Lib.hid hM5; have HM5 := Lib.hid hM5; clear hM5 hMb hs3 hb3 hat hown hj3 hj3l)
            | (go_at_call 48; refine hon.mono ?_; rintro e w4 ⟨rfl, hs4, hb4⟩; rw [hmn] at hs4; have hM9 := HM8.out.step hs4 hb4; have HO9 := Lib.hid ((HM8.out.kbar hb4).own HO8.out); have x0 := hM9.cell 0 _ rfl; have x1 := hM9.cell 1 _ rfl; have x2 := hM9.cell 2 _ rfl; have x3 := hM9.cell 3 _ rfl; have x4 := hM9.cell 4 _ rfl; have x5 := hM9.cell 5 _ rfl; have x6 := hM9.cell 6 _ rfl; have t0 := hM9.cellr 0 _ rfl; have t1 := hM9.cellr 1 _ rfl; have t2 := hM9.cellr 2 _ rfl; have t3 := hM9.cellr 3 _ rfl; have t4 := hM9.cellr 4 _ rfl; have t5 := hM9.cellr 5 _ rfl; have t6 := hM9.cellr 6 _ rfl; have u0 := hM9.freer 0; have u1 := hM9.freer 1; have u2 := hM9.freer 2; have u3 := hM9.freer 3; have u4 := hM9.freer 4; have u5 := hM9.freer 5; have u6 := hM9.freer 6; have HM5 := Lib.hid hM9; clear hM9 hs4 hb4))
          obtain ⟨W7, hW7, hbar, hsn, hlie, hkp⟩ := HM5.out.done
          rw [hW7]
          obtain ⟨v0, v1, v2, v3, v4, v5, v6⟩ := cells7 hlie
          clear hW7
          refine bodyPost_ret (v := .agg #[.int .i64 1, .string (bs (U.n8 n)), (.slice p3 n3 m3), .string ⟨#[]⟩, .int .i64 ((pl cs i).1 : Int), .int .i64 ((pl cs i).2 : Int), .bool false]) ?_ rfl ?_
          · simp [results, Tryz.results27, go_sem, v0, v1, v2, v3, v4, v5, v6]
          rw [HRES.out]
          exact ⟨hbar, ⟨_, rfl, _, _, _, _, _, _, _, _, _, rfl⟩, by show 1 ≤ 21; decide, by show 21 ≤ 100; decide, _, by omega, hsn⟩
end Go.Proofs.YtdilngjolhmjnaaGreatDoor
