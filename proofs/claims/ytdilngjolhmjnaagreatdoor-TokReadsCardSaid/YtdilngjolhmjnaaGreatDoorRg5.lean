/- The document's own reading of a declaration. Conditions: those that each theorem names. The document's own reading of a declaration: its early ends. Conditions: those that each theorem names. The document's own reading of a declaration, where one stands. Conditions: those that each theorem names. -/
import Derived.Test.YtdilngjolhmjnaaGreatDoorRfN
namespace Go.Proofs.YtdilngjolhmjnaaGreatDoor
open Go.RowKit Go.Shelf
set_option linter.all false

theorem attrsF_len : ∀ (f : Nat) (s : K.St) (acc l : List K.At) (s2 : K.St), K.attrsF f s acc = .ok (l, s2) → l.length + s2.1.length ≤ acc.length + s.1.length
  | 0, s, acc, l, s2, h => by
    unfold K.attrsF at h
    simp only [Except.ok.injEq, Prod.mk.injEq] at h
    rw [← h.1, ← h.2]
    exact Nat.le_refl _
  | f + 1, s, acc, l, s2, h => by
    unfold K.attrsF at h
    split at h
    · simp only [Except.ok.injEq, Prod.mk.injEq] at h
      rw [← h.1, ← h.2]
      have := skip_le s (K.nblank s)
      show acc.length + (K.skip s (K.nblank s)).1.length ≤ _
      omega
    · cases ha : K.attr1 (K.blanks s) with
      | error e => rw [ha] at h; cases h
      | ok q =>
        obtain ⟨a, s1⟩ := q
        rw [ha] at h
        have h1 := attrsF_len f s1 _ l s2 h
        have h2 := (attr1_goes ha).2.2.2
        have h3 : (K.blanks s).1.length ≤ s.1.length := skip_le s (K.nblank s)
        simp only [List.length_append, List.length_cons, List.length_nil] at h1
        omega
theorem dclAll_step {l : List K.At} {k : Nat} {a : K.At} (h : l[k]? = some a) (q : Nat × Bool) : dclAll (l.take (k + 1)) q = dclNext (dclAll (l.take k) q) a := by
  unfold dclAll
  rw [List.take_succ, h, List.foldl_append]
  rfl
theorem below_le {B B' : Nat} {w w' : World} (h : Below B' w w') (hB : B ≤ B') : Below B w w' := ⟨h.os, h.tape, h.output, h.size, fun k hk => h.block k (by omega)⟩
/-- What the walk over a declaration's attributes has come to. -/
def DRel (l : List K.At) (b0 : Bool) (w : World) (g : Nat) (a3 a4 a5 : Value) (wr : World) : Prop := ∃ k, l.length - k = g ∧ k ≤ l.length ∧ a3 = .int .i64 ((dclAll (l.take k) (0, b0)).1 : Int) ∧ a4 = .bool (dclAll (l.take k) (0, b0)).2 ∧ a5 = .int .i64 (k : Int) ∧ Below w.heap.size w wr
theorem DRel.next {l : List K.At} {b0 : Bool} {w wr : World} {k z z' : Nat} {bb bb' : Bool} {a : K.At} (h : l[k]? = some a) (hz : dclAll (l.take k) (0, b0) = (z, bb)) (hn : dclNext (z, bb) a = (z', bb')) (hk : k < l.length) (hb : Below w.heap.size w wr) (z3 z5 : Int) (h3 : z3 = z') (h5 : z5 = (k : Int) + 1) : DRel l b0 w (l.length - (k + 1)) (.int .i64 z3) (.bool bb') (.int .i64 z5) wr := by
  subst h3 h5
  refine ⟨k + 1, rfl, hk, ?_, ?_, rfl, hb⟩
  · rw [dclAll_step h, hz, hn]
  · rw [dclAll_step h, hz, hn]

set_option maxHeartbeats 8000000 in
set_option maxRecDepth 100000 in
theorem decl_x {b : Nat} {cs : List Nat} {T C A : Value} {w : World} (hn : Sn b T C A 0 0 (0, 0) w) (hr : Sr b cs T C A w) (hd : K.declares (S cs 0) = true) {l : List K.At} {s1 : K.St} (hl : K.attrs (S cs 5) = .ok (l, s1)) :
    Calls Tryz.prog 22 #[.pointer (some ⟨b, 0, none⟩)] w (RPost b cs T C A w 5 unitV isUnit (okUnit (K.declaration (S cs 0)))) := by
  have hlen := hr.len
  obtain ⟨R, hR⟩ : ∃ R, K.declaration (S cs 0) = R := ⟨_, rfl⟩
  rw [hR]
  unfold K.declares at hd
  simp only [Bool.and_eq_true] at hd
  obtain ⟨hx, hbk⟩ := hd
  have h5 : 5 ≤ cs.length := by
    have := (List.isPrefixOf_iff_prefix.1 hx).length_le
    simpa [S_eq, K.kXmlDecl] using this
  have hh := here_any hn hr (by omega) K.kXmlDecl (by unfold Small; decide) (by decide) ⟨#[60, 63, 120, 109, 108]⟩ rfl
  rw [hx] at hh
  have HC := Lib.hid (fun W (h1 : Sn b T C A 0 0 (0, 0) W) (h2 : Sr b cs T C A W) => c_any h1 h2 5 (by omega))
  have hbl : ∀ W, Calls Tryz.prog 41 #[.int .i64 (cnum cs 5)] W fun e w' => e = .returned (.bool true) ∧ W = w' := by
    intro W
    have hrb := refBlank_any (cs.drop 5) W
    rcases cnum_cases cs 5 with ⟨hd, hc⟩ | ⟨c, r, hd, hc⟩
    · simp [S_eq, hd] at hbk
    · have hb : K.blank c = true := by simpa [S_eq, hd] using hbk
      rw [hd] at hrb
      dsimp only at hrb
      rw [hb] at hrb
      rw [hc]
      exact hrb
  have HBL := Lib.hid hbl
  have HAT := Lib.hid (fun W (h1 : Sn b T C A 5 0 (0, 0) W) (h2 : Sr b cs T C A W) => by have h := attrs_rf h1 h2 h5 rfl; rw [hl] at h; exact h)
  obtain ⟨j, hj, rfl⟩ := attrs_at hl h5
  have HHR := Lib.hid (fun W (h1 : Sn b T C A j 0 (0, 0) W) (h2 : Sr b cs T C A W) => here_any h1 h2 (by omega) [63, 62] (by unfold Small; decide) (by decide) ⟨#[63, 62]⟩ rfl)
  obtain ⟨b0, hb0⟩ : ∃ b0, K.sees [63, 62] (S cs j) = b0 := ⟨_, rfl⟩
  rw [hb0] at HHR
  obtain ⟨_, _, _, c3, _⟩ := hn.cells
  have f3 := hn.free 3
  have hll : l.length ≤ 65536 := by
    have := attrsF_len _ _ _ _ _ hl
    simp only [S_eq, List.length_drop, List.length_nil] at this
    omega
  have hgood := (attrs_facts hl (hr.sc.drop 5)).1
  have hre : R = if (b0 && K.declared l) = true then .ok (S cs (j + 2)) else .error (21, pl cs 0) := by
    rw [← hR]
    unfold K.declaration
    rw [show K.skip (S cs 0) 5 = S cs 5 from S_skip cs 0 5, hl]
    dsimp only
    rw [hb0, Bool.and_comm, S_skip]
    rfl
  have hj2 : b0 = true → j + 2 ≤ cs.length := by
    intro h
    rw [h] at hb0
    have := (List.isPrefixOf_iff_prefix.1 hb0).length_le
    rw [S_eq] at this
    simp only [List.length_drop, List.length_cons, List.length_nil] at this
    omega
  have HRE := Lib.hid hre
  have HJ2 := Lib.hid hj2
  have HG := Lib.hid hgood
  have HN := Lib.hid hn
  have HR := Lib.hid hr
  have HR0 := Lib.hid hR
  clear hn hr hx hbk hl hbl hb0 hgood hR hre hj2
  go_enter Tryz.func22, Tryz.ntmps22
  go_wp2_with (first
    | (go_at_call 23; first
      | (with_reducible refine hh.mono ?_; rintro e w1 ⟨rfl, n1, rfl⟩; have hC := HC.out _ (HN.out.drew n1) (HR.out.bar (bar_drew b w n1)))
      | (with_reducible refine hhr.mono ?_; rintro e w4 ⟨rfl, n2, rfl⟩))
    | (go_at_call 42; refine hC.mono ?_; rintro e w2 ⟨rfl, rfl⟩)
    | (go_at_call 41; refine (HBL.out _).mono ?_; rintro e w2 ⟨rfl, rfl⟩)
    | (go_at_call 43; refine (HAT.out _ ((HN.out.drew n1).setz 5 5 rfl) (HR.out.bar ((bar_drew b w n1).trans (Bar.set _ 3 _)))).mono ?_; rintro e w3 ⟨hb3, av, j2, rfl, hj2, hj2l, hown, hs3⟩; have hjj := S_inj hj hj2l hj2; subst hjj; obtain ⟨p3, n3, m3, rfl⟩ := own_shape hown; have HB3 := Lib.hid (((bar_drew b w n1).trans (Bar.set _ 3 _)).trans hb3); have hhr := HHR.out _ hs3 (HR.out.bar HB3.out); obtain ⟨_, _, _, _, k4⟩ := hs3.cells; have HS3 := Lib.hid hs3; have HO := Lib.hid hown; clear hb3 hown hs3 hj2 hj2l))
  go_loopg [3, 4, 5] l.length (fun g a3 a4 a5 wr => DRel l b0 (w3.drewN n2) g a3 a4 a5 wr)
  case atStart => exact ⟨0, rfl, Nat.zero_le _, rfl, rfl, rfl, Below.refl _ _⟩
  case round =>
    obtain ⟨k, hg, hkl, rfl, rfl, rfl, hb⟩ := hrel
    have HB := Lib.hid hb
    have hpn : n3 = l.length := by
      rcases HO.out.2 with ⟨h, h0⟩ | ⟨g, cap, cur, h, _⟩
      · cases h; exact h0.symm
      · cases h; rfl
    clear hb
    obtain ⟨z, hz⟩ : ∃ z, (dclAll (l.take k) (0, b0)).1 = z := ⟨_, rfl⟩
    obtain ⟨bb, hbb⟩ : ∃ bb, (dclAll (l.take k) (0, b0)).2 = bb := ⟨_, rfl⟩
    have hzb : dclAll (l.take k) (0, b0) = (z, bb) := Prod.ext hz hbb
    rw [hz, hbb]
    have HZB := Lib.hid hzb
    clear hz hbb hzb
    subst hpn
    by_cases hk : k = l.length
    · subst hk
      have hsn := (HS3.out.drew n2).keep HB.out
      have hbar : Bar b w wr := (HB3.out.trans (bar_drew b w3 n2)).bel HB.out
      have hd0 := dclAll_0 l b0
      have hzb := HZB.out
      rw [List.take_length] at hzb
      rw [hzb] at hd0
      dsimp only at hd0
      obtain ⟨_, _, _, k3, k4'⟩ := hsn.cells
      have g3 := hsn.free 3
      by_cases hgoodd : bb = true ∧ z ≠ 0
      · obtain ⟨rfl, hz0⟩ := hgoodd
        have hdd : (b0 && K.declared l) = true := by rw [← hd0]; simp [hz0]
        have hres : R = .ok (S cs (j + 2)) := by rw [HRE.out, if_pos hdd]
        have hj2l : j + 2 ≤ cs.length := HJ2.out (by simp only [Bool.and_eq_true] at hdd; exact hdd.1)
        have hz1 : ((z : Int) == 0) = false := by rw [beq_eq_false_iff_ne]; omega
        have HSN := Lib.hid hsn
        have HBAR := Lib.hid hbar
        have HRES := Lib.hid hres
        clear hd0 hzb hsn hbar hres hdd
        go_wp2
        go_end0
        rw [HRES.out]
        exact ⟨HBAR.out.trans (Bar.set _ 3 _), j + 2, rfl, hj2l, rfl, HSN.out.setz _ (j + 2) (by omega)⟩
      · have hdd : (b0 && K.declared l) = false := by
          rw [← hd0]
          cases bb
          · rfl
          · have : z = 0 := by
              rcases Nat.eq_zero_or_pos z with h | h
              · exact h
              · exact absurd ⟨rfl, by omega⟩ hgoodd
            simp [this]
        have hres : R = .error (21, pl cs 0) := by rw [HRE.out, if_neg (by rw [hdd]; decide)]
        have hbd := bad_ok hsn (HR.out.bar hbar) 0 (by omega) 21
        rw [Nat.zero_min] at hbd
        have HBAR := Lib.hid hbar
        have HRES := Lib.hid hres
        clear hd0 hzb hsn hbar hres hdd
        cases bb with
        | false =>
          go_wp2_with (go_at_call 26; refine hbd.mono ?_; rintro e w6 ⟨rfl, hs6, hb6⟩; obtain ⟨_, _, _, m3', _⟩ := hs6.cells; have mf := hs6.free 3; have HS6 := Lib.hid hs6; have HB6 := Lib.hid hb6; clear hs6 hb6)
          go_end0
          rw [HRES.out]
          exact ⟨(HBAR.out.trans HB6.out).trans (Bar.set _ 3 _), _, j + 2, rfl, rfl, by omega, by show 1 ≤ 21; decide, by show 21 ≤ 100; decide, HS6.out.setz _ (j + 2) (by omega)⟩
        | true =>
          obtain rfl : z = 0 := by
            rcases Nat.eq_zero_or_pos z with h | h
            · exact h
            · exact absurd ⟨rfl, by omega⟩ hgoodd
          go_wp2_with (go_at_call 26; refine hbd.mono ?_; rintro e w6 ⟨rfl, hs6, hb6⟩; obtain ⟨_, _, _, m3', _⟩ := hs6.cells; have mf := hs6.free 3; have HS6 := Lib.hid hs6; have HB6 := Lib.hid hb6; clear hs6 hb6)
          go_end0
          rw [HRES.out]
          exact ⟨(HBAR.out.trans HB6.out).trans (Bar.set _ 3 _), _, j + 2, rfl, rfl, by omega, by show 1 ≤ 21; decide, by show 21 ≤ 100; decide, HS6.out.setz _ (j + 2) (by omega)⟩
    · have hk1 : k < l.length := by omega
      obtain ⟨a, hla⟩ : ∃ a, l[k]? = some a := ⟨l[k], List.getElem?_eq_getElem hk1⟩
      obtain ⟨n, v, p⟩ := a
      have hpos : 0 < l.length := by omega
      obtain ⟨g, cap, hsl, _, _, _, _, hcell⟩ := own_at HO.out hpos
      simp only [Value.slice.injEq] at hsl
      obtain ⟨rfl, _, rfl⟩ := hsl
      have hB' : Below w3.heap.size w3 wr := ⟨HB.out.os, HB.out.tape, HB.out.output, HB.out.size, HB.out.block⟩
      obtain ⟨a0, a1, _⟩ := attrCells_at l k _ hla
      have c0 := hcell wr hB' (k * 4) _ (by omega) a0
      have c1 := hcell wr hB' (k * 4 + 1) _ (by omega) a1
      dsimp only at c0 c1
      have G := HG.out _ (List.mem_of_getElem? hla)
      have hki : (k : Int) < (l.length : Int) := by omega
      have hx1 := cmp_b8 G.name sm_version qVersion b8_version
      have hx2 := cmp_b8 G.name sm_enc qEnc b8_enc
      have hx3 := cmp_b8 G.name sm_alone qAlone b8_alone
      have hy1 := cmp_b8 G.value sm_10 q10 b8_10
      have hy2 := cmp_b8 G.value sm_yes qYes b8_yes
      have hy3 := cmp_b8 G.value sm_no qNo b8_no
      have hy4 := cmp_low G.value (t := K.kUtf8) (by unfold Small; decide) [117, 116, 102, 45, 56] rfl
      have hv3 : (U.n8 v).length ≤ 300000 := by
        have h1 := n8_len4 v
        have h2 := G.len
        simp only [S_eq, List.length_drop] at h2
        omega
      have hsm := small_rf (U.n8 v) hv3 wr
      dsimp only at hx1 hx2 hx3 hy1 hy2 hy3 hy4
      have HGL := Lib.hid (World.block_lt_of_cell? wr ⟨g, k * 4, none⟩ c0)
      have HLA := Lib.hid hla
      have HCELL := Lib.hid hcell
      clear hla hcell a0 a1 G hB' hv3
      by_cases hv : n = K.kVersion
      · have X1 := hx1 true (decide_eq_true hv)
        have X2 := hx2 false (decide_eq_false (by rw [hv]; exact kx.1))
        have X3 := hx3 false (decide_eq_false (by rw [hv]; exact kx.2.1))
        by_cases hz0 : z = 0
        · subst hz0
          by_cases h1 : v = K.k10
          · have Y1 := hy1 true (decide_eq_true h1)
            have hnx : dclNext (0, bb) (n, v, p) = (1, bb) := by simp [dclNext, hv, h1, kx.1, kx.2.1, kx.2.2, Ne.symm kx.1, Ne.symm kx.2.1, Ne.symm kx.2.2]
            have HNX := Lib.hid hnx
            clear hx1 hx2 hx3 hy1 hy2 hy3 hy4 hnx
            (try clear h1); (try clear h2); (try clear hv); (try clear he); (try clear ha); (try clear hz0); (try clear hz1); (try clear hz2)
            go_wp2
            go_roundg (l.length - (k + 1))
            case measure => omega
            case rel => exact DRel.next HLA.out HZB.out HNX.out hk1 (HB.out) _ _ rfl rfl
          · have Y1 := hy1 false (decide_eq_false h1)
            have hnx : dclNext (0, bb) (n, v, p) = (0, false) := by simp [dclNext, hv, h1, kx.1, kx.2.1, kx.2.2, Ne.symm kx.1, Ne.symm kx.2.1, Ne.symm kx.2.2]
            have HNX := Lib.hid hnx
            clear hx1 hx2 hx3 hy1 hy2 hy3 hy4 hnx
            (try clear h1); (try clear h2); (try clear hv); (try clear he); (try clear ha); (try clear hz0); (try clear hz1); (try clear hz2)
            go_wp2
            go_roundg (l.length - (k + 1))
            case measure => omega
            case rel => exact DRel.next HLA.out HZB.out HNX.out hk1 (HB.out) _ _ rfl rfl
        · have Z0 : ((z : Int) == 0) = false := by rw [beq_eq_false_iff_ne]; omega
          have hnx : dclNext (z, bb) (n, v, p) = (z, false) := by simp [dclNext, hv, hz0, kx.1, kx.2.1, kx.2.2, Ne.symm kx.1, Ne.symm kx.2.1, Ne.symm kx.2.2]
          have HNX := Lib.hid hnx
          clear hx1 hx2 hx3 hy1 hy2 hy3 hy4 hnx
          (try clear h1); (try clear h2); (try clear hv); (try clear he); (try clear ha); (try clear hz0); (try clear hz1); (try clear hz2)
          go_wp2
          go_roundg (l.length - (k + 1))
          case measure => omega
          case rel => exact DRel.next HLA.out HZB.out HNX.out hk1 (HB.out) _ _ rfl rfl
      · by_cases he : n = K.kEncoding
        · have X1 := hx1 false (decide_eq_false hv)
          have X2 := hx2 true (decide_eq_true he)
          have X3 := hx3 false (decide_eq_false (by rw [he]; exact kx.2.2))
          by_cases hz1 : z = 1
          · subst hz1
            by_cases h1 : v.map K.low = K.kUtf8
            · have Y4 := hy4 true (decide_eq_true h1)
              have hnx : dclNext (1, bb) (n, v, p) = (2, bb) := by simp [dclNext, he, h1, kx.1, kx.2.1, kx.2.2, Ne.symm kx.1, Ne.symm kx.2.1, Ne.symm kx.2.2]
              have HNX := Lib.hid hnx
              clear hx1 hx2 hx3 hy1 hy2 hy3 hy4 hnx
              (try clear h1); (try clear h2); (try clear hv); (try clear he); (try clear ha); (try clear hz0); (try clear hz1); (try clear hz2)
              go_wp2_with (go_at_call 44; refine hsm.mono ?_; rintro e w5 ⟨rfl, hb5⟩; have c0' : w5.cell? ⟨g, k * 4, none⟩ = some (.string (bs (U.n8 n))) := (hb5.cell (p := ⟨g, k * 4, none⟩) HGL.out).trans c0; have c1' : w5.cell? ⟨g, k * 4 + 1, none⟩ = some (.string (bs (U.n8 v))) := (hb5.cell (p := ⟨g, k * 4 + 1, none⟩) HGL.out).trans c1; have HB5 := Lib.hid hb5; clear hb5)
              go_roundg (l.length - (k + 1))
              case measure => omega
              case rel => exact DRel.next HLA.out HZB.out HNX.out hk1 (HB.out.trans (below_le HB5.out HB.out.size)) _ _ rfl rfl
            · have Y4 := hy4 false (decide_eq_false h1)
              have hnx : dclNext (1, bb) (n, v, p) = (1, false) := by simp [dclNext, he, h1, kx.1, kx.2.1, kx.2.2, Ne.symm kx.1, Ne.symm kx.2.1, Ne.symm kx.2.2]
              have HNX := Lib.hid hnx
              clear hx1 hx2 hx3 hy1 hy2 hy3 hy4 hnx
              (try clear h1); (try clear h2); (try clear hv); (try clear he); (try clear ha); (try clear hz0); (try clear hz1); (try clear hz2)
              go_wp2_with (go_at_call 44; refine hsm.mono ?_; rintro e w5 ⟨rfl, hb5⟩; have c0' : w5.cell? ⟨g, k * 4, none⟩ = some (.string (bs (U.n8 n))) := (hb5.cell (p := ⟨g, k * 4, none⟩) HGL.out).trans c0; have c1' : w5.cell? ⟨g, k * 4 + 1, none⟩ = some (.string (bs (U.n8 v))) := (hb5.cell (p := ⟨g, k * 4 + 1, none⟩) HGL.out).trans c1; have HB5 := Lib.hid hb5; clear hb5)
              go_roundg (l.length - (k + 1))
              case measure => omega
              case rel => exact DRel.next HLA.out HZB.out HNX.out hk1 (HB.out.trans (below_le HB5.out HB.out.size)) _ _ rfl rfl
          · have Z1 : ((z : Int) == 1) = false := by rw [beq_eq_false_iff_ne]; omega
            have hnx : dclNext (z, bb) (n, v, p) = (z, false) := by simp [dclNext, he, hz1, kx.1, kx.2.1, kx.2.2, Ne.symm kx.1, Ne.symm kx.2.1, Ne.symm kx.2.2]
            have HNX := Lib.hid hnx
            clear hx1 hx2 hx3 hy1 hy2 hy3 hy4 hnx
            (try clear h1); (try clear h2); (try clear hv); (try clear he); (try clear ha); (try clear hz0); (try clear hz1); (try clear hz2)
            go_wp2
            go_roundg (l.length - (k + 1))
            case measure => omega
            case rel => exact DRel.next HLA.out HZB.out HNX.out hk1 (HB.out) _ _ rfl rfl
        · by_cases ha : n = K.kStandalone
          · have X1 := hx1 false (decide_eq_false hv)
            have X2 := hx2 false (decide_eq_false he)
            have X3 := hx3 true (decide_eq_true ha)
            by_cases hz1 : z = 1
            · subst hz1
              by_cases h1 : v = K.kYes
              · have Y2 := hy2 true (decide_eq_true h1)
                have hnx : dclNext (1, bb) (n, v, p) = (3, bb) := by simp [dclNext, ha, h1, kx.1, kx.2.1, kx.2.2, Ne.symm kx.1, Ne.symm kx.2.1, Ne.symm kx.2.2]
                have HNX := Lib.hid hnx
                clear hx1 hx2 hx3 hy1 hy2 hy3 hy4 hnx
                (try clear h1); (try clear h2); (try clear hv); (try clear he); (try clear ha); (try clear hz0); (try clear hz1); (try clear hz2)
                go_wp2
                go_roundg (l.length - (k + 1))
                case measure => omega
                case rel => exact DRel.next HLA.out HZB.out HNX.out hk1 (HB.out) _ _ rfl rfl
              · by_cases h2 : v = K.kNo
                · have Y2 := hy2 false (decide_eq_false h1)
                  have Y3 := hy3 true (decide_eq_true h2)
                  have hnx : dclNext (1, bb) (n, v, p) = (3, bb) := by simp [dclNext, ha, h2, kx.1, kx.2.1, kx.2.2, Ne.symm kx.1, Ne.symm kx.2.1, Ne.symm kx.2.2]
                  have HNX := Lib.hid hnx
                  clear hx1 hx2 hx3 hy1 hy2 hy3 hy4 hnx
                  (try clear h1); (try clear h2); (try clear hv); (try clear he); (try clear ha); (try clear hz0); (try clear hz1); (try clear hz2)
                  go_wp2
                  go_roundg (l.length - (k + 1))
                  case measure => omega
                  case rel => exact DRel.next HLA.out HZB.out HNX.out hk1 (HB.out) _ _ rfl rfl
                · have Y2 := hy2 false (decide_eq_false h1)
                  have Y3 := hy3 false (decide_eq_false h2)
                  have hnx : dclNext (1, bb) (n, v, p) = (1, false) := by simp [dclNext, ha, h1, h2, kx.1, kx.2.1, kx.2.2, Ne.symm kx.1, Ne.symm kx.2.1, Ne.symm kx.2.2]
                  have HNX := Lib.hid hnx
                  clear hx1 hx2 hx3 hy1 hy2 hy3 hy4 hnx
                  (try clear h1); (try clear h2); (try clear hv); (try clear he); (try clear ha); (try clear hz0); (try clear hz1); (try clear hz2)
                  go_wp2
                  go_roundg (l.length - (k + 1))
                  case measure => omega
                  case rel => exact DRel.next HLA.out HZB.out HNX.out hk1 (HB.out) _ _ rfl rfl
            · by_cases hz2 : z = 2
              · subst hz2
                by_cases h1 : v = K.kYes
                · have Y2 := hy2 true (decide_eq_true h1)
                  have hnx : dclNext (2, bb) (n, v, p) = (3, bb) := by simp [dclNext, ha, h1, kx.1, kx.2.1, kx.2.2, Ne.symm kx.1, Ne.symm kx.2.1, Ne.symm kx.2.2]
                  have HNX := Lib.hid hnx
                  clear hx1 hx2 hx3 hy1 hy2 hy3 hy4 hnx
                  (try clear h1); (try clear h2); (try clear hv); (try clear he); (try clear ha); (try clear hz0); (try clear hz1); (try clear hz2)
                  go_wp2
                  go_roundg (l.length - (k + 1))
                  case measure => omega
                  case rel => exact DRel.next HLA.out HZB.out HNX.out hk1 (HB.out) _ _ rfl rfl
                · by_cases h2 : v = K.kNo
                  · have Y2 := hy2 false (decide_eq_false h1)
                    have Y3 := hy3 true (decide_eq_true h2)
                    have hnx : dclNext (2, bb) (n, v, p) = (3, bb) := by simp [dclNext, ha, h2, kx.1, kx.2.1, kx.2.2, Ne.symm kx.1, Ne.symm kx.2.1, Ne.symm kx.2.2]
                    have HNX := Lib.hid hnx
                    clear hx1 hx2 hx3 hy1 hy2 hy3 hy4 hnx
                    (try clear h1); (try clear h2); (try clear hv); (try clear he); (try clear ha); (try clear hz0); (try clear hz1); (try clear hz2)
                    go_wp2
                    go_roundg (l.length - (k + 1))
                    case measure => omega
                    case rel => exact DRel.next HLA.out HZB.out HNX.out hk1 (HB.out) _ _ rfl rfl
                  · have Y2 := hy2 false (decide_eq_false h1)
                    have Y3 := hy3 false (decide_eq_false h2)
                    have hnx : dclNext (2, bb) (n, v, p) = (2, false) := by simp [dclNext, ha, h1, h2, kx.1, kx.2.1, kx.2.2, Ne.symm kx.1, Ne.symm kx.2.1, Ne.symm kx.2.2]
                    have HNX := Lib.hid hnx
                    clear hx1 hx2 hx3 hy1 hy2 hy3 hy4 hnx
                    (try clear h1); (try clear h2); (try clear hv); (try clear he); (try clear ha); (try clear hz0); (try clear hz1); (try clear hz2)
                    go_wp2
                    go_roundg (l.length - (k + 1))
                    case measure => omega
                    case rel => exact DRel.next HLA.out HZB.out HNX.out hk1 (HB.out) _ _ rfl rfl
              · have Z1 : ((z : Int) == 1) = false := by rw [beq_eq_false_iff_ne]; omega
                have Z2 : ((z : Int) == 2) = false := by rw [beq_eq_false_iff_ne]; omega
                have hnx : dclNext (z, bb) (n, v, p) = (z, false) := by simp [dclNext, ha, hz1, hz2, kx.1, kx.2.1, kx.2.2, Ne.symm kx.1, Ne.symm kx.2.1, Ne.symm kx.2.2]
                have HNX := Lib.hid hnx
                clear hx1 hx2 hx3 hy1 hy2 hy3 hy4 hnx
                (try clear h1); (try clear h2); (try clear hv); (try clear he); (try clear ha); (try clear hz0); (try clear hz1); (try clear hz2)
                go_wp2
                go_roundg (l.length - (k + 1))
                case measure => omega
                case rel => exact DRel.next HLA.out HZB.out HNX.out hk1 (HB.out) _ _ rfl rfl
          · have X1 := hx1 false (decide_eq_false hv)
            have X2 := hx2 false (decide_eq_false he)
            have X3 := hx3 false (decide_eq_false ha)
            have hnx : dclNext (z, bb) (n, v, p) = (z, false) := by simp [dclNext, hv, he, ha]
            have HNX := Lib.hid hnx
            clear hx1 hx2 hx3 hy1 hy2 hy3 hy4 hnx
            (try clear h1); (try clear h2); (try clear hv); (try clear he); (try clear ha); (try clear hz0); (try clear hz1); (try clear hz2)
            go_wp2
            go_roundg (l.length - (k + 1))
            case measure => omega
            case rel => exact DRel.next HLA.out HZB.out HNX.out hk1 (HB.out) _ _ rfl rfl
end Go.Proofs.YtdilngjolhmjnaaGreatDoor
namespace Go.Proofs.YtdilngjolhmjnaaGreatDoor
open Go.RowKit Go.Shelf
set_option linter.all false

set_option maxHeartbeats 4000000 in
set_option maxRecDepth 100000 in
theorem decl_no {b : Nat} {cs : List Nat} {T C A : Value} {w : World} (hn : Sn b T C A 0 0 (0, 0) w) (hr : Sr b cs T C A w) (hd : K.declares (S cs 0) = false) :
    Calls Tryz.prog 22 #[.pointer (some ⟨b, 0, none⟩)] w (RPost b cs T C A w 5 unitV isUnit (.ok ((), S cs 0))) := by
  have hlen := hr.len
  have hh := here_any hn hr (by omega) K.kXmlDecl (by unfold Small; decide) (by decide) ⟨#[60, 63, 120, 109, 108]⟩ rfl
  have HC := Lib.hid (fun W (h1 : Sn b T C A 0 0 (0, 0) W) (h2 : Sr b cs T C A W) => c_any h1 h2 5 (by omega))
  have HN := Lib.hid hn
  have HR := Lib.hid hr
  cases hx : K.sees K.kXmlDecl (S cs 0) with
  | false =>
    rw [hx] at hh
    clear hn hr hd hx
    go_enter Tryz.func22, Tryz.ntmps22
    go_wp2_with (go_at_call 23; refine hh.mono ?_; rintro e w1 ⟨rfl, n1, rfl⟩)
    refine bodyPost_ret (results_none rfl _ _ _) rfl ?_
    exact ⟨bar_drew b w n1, 0, rfl, Nat.zero_le _, rfl, HN.out.drew n1⟩
  | true =>
    rw [hx] at hh
    unfold K.declares at hd
    rw [hx, Bool.true_and] at hd
    have hbl : ∀ W, Calls Tryz.prog 41 #[.int .i64 (cnum cs 5)] W fun e w' => e = .returned (.bool false) ∧ W = w' := by
      intro W
      have hrb := refBlank_any (cs.drop 5) W
      rcases cnum_cases cs 5 with ⟨hd5, hc⟩ | ⟨c, r, hd5, hc⟩
      · rw [hd5] at hrb
        rw [hc]
        exact hrb
      · have hb : K.blank c = false := by simpa [S_eq, hd5] using hd
        rw [hd5] at hrb
        dsimp only at hrb
        rw [hb] at hrb
        rw [hc]
        exact hrb
    have HBL := Lib.hid hbl
    clear hn hr hd hx hbl
    go_enter Tryz.func22, Tryz.ntmps22
    go_wp2_with (first
      | (go_at_call 23; refine hh.mono ?_; rintro e w1 ⟨rfl, n1, rfl⟩; have hC := HC.out _ (HN.out.drew n1) (HR.out.bar (bar_drew b w n1)))
      | (go_at_call 42; refine hC.mono ?_; rintro e w2 ⟨rfl, rfl⟩)
      | (go_at_call 41; refine (HBL.out _).mono ?_; rintro e w2 ⟨rfl, rfl⟩))
    refine bodyPost_ret (results_none rfl _ _ _) rfl ?_
    exact ⟨bar_drew b w n1, 0, rfl, Nat.zero_le _, rfl, HN.out.drew n1⟩

set_option maxHeartbeats 4000000 in
set_option maxRecDepth 100000 in
theorem decl_bad {b : Nat} {cs : List Nat} {T C A : Value} {w : World} (hn : Sn b T C A 0 0 (0, 0) w) (hr : Sr b cs T C A w) (hd : K.declares (S cs 0) = true) {er : K.Er} (hl : K.attrs (S cs 5) = .error er) :
    Calls Tryz.prog 22 #[.pointer (some ⟨b, 0, none⟩)] w (RPost b cs T C A w 5 unitV isUnit (okUnit (K.declaration (S cs 0)))) := by
  have hlen := hr.len
  have hre : K.declaration (S cs 0) = .error er := by
    unfold K.declaration
    rw [show K.skip (S cs 0) 5 = S cs 5 from S_skip cs 0 5, hl]
  rw [hre]
  unfold K.declares at hd
  simp only [Bool.and_eq_true] at hd
  obtain ⟨hx, hbk⟩ := hd
  have h5 : 5 ≤ cs.length := by
    have := (List.isPrefixOf_iff_prefix.1 hx).length_le
    simpa [S_eq, K.kXmlDecl] using this
  have hh := here_any hn hr (by omega) K.kXmlDecl (by unfold Small; decide) (by decide) ⟨#[60, 63, 120, 109, 108]⟩ rfl
  rw [hx] at hh
  have HC := Lib.hid (fun W (h1 : Sn b T C A 0 0 (0, 0) W) (h2 : Sr b cs T C A W) => c_any h1 h2 5 (by omega))
  have hbl : ∀ W, Calls Tryz.prog 41 #[.int .i64 (cnum cs 5)] W fun e w' => e = .returned (.bool true) ∧ W = w' := by
    intro W
    have hrb := refBlank_any (cs.drop 5) W
    rcases cnum_cases cs 5 with ⟨hd, hc⟩ | ⟨c, r, hd, hc⟩
    · simp [S_eq, hd] at hbk
    · have hb : K.blank c = true := by simpa [S_eq, hd] using hbk
      rw [hd] at hrb
      dsimp only at hrb
      rw [hb] at hrb
      rw [hc]
      exact hrb
  have HBL := Lib.hid hbl
  have HAT := Lib.hid (fun W (h1 : Sn b T C A 5 0 (0, 0) W) (h2 : Sr b cs T C A W) => by have h := attrs_rf h1 h2 h5 rfl; rw [hl] at h; exact h)
  obtain ⟨_, _, _, c3, _⟩ := hn.cells
  have f3 := hn.free 3
  have HN := Lib.hid hn
  have HR := Lib.hid hr
  clear hn hr hx hbk hl hbl hre
  go_enter Tryz.func22, Tryz.ntmps22
  go_wp2_with (first
    | (go_at_call 23; refine hh.mono ?_; rintro e w1 ⟨rfl, n1, rfl⟩; have hC := HC.out _ (HN.out.drew n1) (HR.out.bar (bar_drew b w n1)))
    | (go_at_call 42; refine hC.mono ?_; rintro e w2 ⟨rfl, rfl⟩)
    | (go_at_call 41; refine (HBL.out _).mono ?_; rintro e w2 ⟨rfl, rfl⟩)
    | (go_at_call 43; refine (HAT.out _ ((HN.out.drew n1).setz 5 5 rfl) (HR.out.bar ((bar_drew b w n1).trans (Bar.set _ 3 _)))).mono ?_; rintro e w3 ⟨hb3, p3, n3, m3, rfl, he1, he2, j3, hj3, hs3⟩; obtain ⟨_, _, _, _, k4⟩ := hs3.cells; have hne : ((er.1 : Int) != 0) = true := (by rw [bne_iff_ne]; omega); have HB3 := Lib.hid (((bar_drew b w n1).trans (Bar.set _ 3 _)).trans hb3); have HS3 := Lib.hid hs3; clear hb3 hs3))
  refine bodyPost_ret (results_none rfl _ _ _) rfl ?_
  exact ⟨HB3.out, _, j3, rfl, rfl, by omega, he1, he2, HS3.out⟩
end Go.Proofs.YtdilngjolhmjnaaGreatDoor
namespace Go.Proofs.YtdilngjolhmjnaaGreatDoor
open Go.RowKit Go.Shelf
set_option linter.all false

theorem declared_rf {b : Nat} {cs : List Nat} {T C A : Value} {w : World} (hn : Sn b T C A 0 0 (0, 0) w) (hr : Sr b cs T C A w) :
    Calls Tryz.prog 22 #[.pointer (some ⟨b, 0, none⟩)] w (RPost b cs T C A w 5 unitV isUnit (okUnit (if K.declares (S cs 0) = true then K.declaration (S cs 0) else .ok (S cs 0)))) := by
  cases hd : K.declares (S cs 0) with
  | false =>
    rw [if_neg (by decide)]
    exact decl_no hn hr hd
  | true =>
    rw [if_pos rfl]
    cases hl : K.attrs (S cs 5) with
    | error er => exact decl_bad hn hr hd hl
    | ok q => exact decl_x hn hr hd hl
end Go.Proofs.YtdilngjolhmjnaaGreatDoor
