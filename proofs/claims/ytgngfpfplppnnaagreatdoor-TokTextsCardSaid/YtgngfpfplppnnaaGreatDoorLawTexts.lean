/- The walk of the law TokTexts: for every two texts it answers true. Conditions: those that each theorem names. -/
import Derived.Test.YtgngfpfplppnnaaGreatDoorTextsQ
import Derived.Test.YtgngfpfplppnnaaGreatDoorLawRises
namespace Go.Proofs.YtgngfpfplppnnaaGreatDoor
open Go.RowKit Go.Shelf
set_option linter.all false

theorem texts_string (s v : List UInt8) : ((((⟨#[60, 97, 32, 98, 61, 34]⟩ : ByteArray) ++ bs (esc true v)) ++ ⟨#[34, 62]⟩) ++ bs (esc false s)) ++ ⟨#[60, 47, 97, 32, 62]⟩ = bs (textDoc s v) := by
  rw [show (⟨#[60, 97, 32, 98, 61, 34]⟩ : ByteArray) = bs [60, 97, 32, 98, 61, 34] from rfl, show (⟨#[34, 62]⟩ : ByteArray) = bs [34, 62] from rfl, show (⟨#[60, 47, 97, 32, 62]⟩ : ByteArray) = bs [60, 47, 97, 32, 62] from rfl, bs_append, bs_append, bs_append, bs_append]
  unfold textDoc
  congr 1
  simp

theorem empty_2 : (bs []).toList = [] := by unfold ByteArray.toList ByteArray.toList.loop; rfl
theorem empty_1 : (bs []).toList.isEmpty = true := by rw [empty_2]; rfl
theorem tk_cells {L : List K.Tk} {g : Nat} {w : World} (hca : ∀ i t, L[i]? = some t → ∃ p n c, AttrsIn t.attrs (.slice p n c) w ∧ ∀ W, Below w.heap.size w W → TokCell g (i * 7) t (.slice p n c) W) (i : Nat) (t : K.Tk) (h : L[i]? = some t) :
    w.cell? ⟨g, i * 7, none⟩ = some (.int .i64 (t.kind : Int)) ∧ w.cell? ⟨g, i * 7 + 1, none⟩ = some (.string (bs (U.n8 t.name))) ∧ w.cell? ⟨g, i * 7 + 3, none⟩ = some (.string (bs (U.n8 t.text))) := by
  obtain ⟨p, n, c, _, hC⟩ := hca i t h
  obtain ⟨x0, x1, x2, x3, _⟩ := hC w (Below.refl _ _)
  exact ⟨x0, x1, x3⟩
theorem first_cells {L : List K.Tk} {g : Nat} {w : World} {vs : List Nat} {pa : K.Pl} (hca : ∀ i t, L[i]? = some t → ∃ p n c, AttrsIn t.attrs (.slice p n c) w ∧ ∀ W, Below w.heap.size w W → TokCell g (i * 7) t (.slice p n c) W)
    (h : L[0]? = some ⟨1, [97], [([98], vs, pa)], [], (1, 1), false⟩) :
    ∃ g2 cap2, w.cell? ⟨g, 1, none⟩ = some (.string ⟨#[97]⟩) ∧ w.cell? ⟨g, 2, none⟩ = some (.slice (some ⟨g2, 0, none⟩) 1 cap2) ∧ w.cell? ⟨g2, 1, none⟩ = some (.string (bs (U.n8 vs))) ∧ w.cell? ⟨g, 6, none⟩ = some (.bool false) := by
  obtain ⟨p, n, c, hA, hC⟩ := hca 0 _ h
  obtain ⟨x0, x1, x2, x3, x4, x5, x6⟩ := hC w (Below.refl _ _)
  rcases hA with ⟨_, h0⟩ | ⟨g2, cap2, hv, _, _, _, hcb⟩
  · exact absurd h0 (by simp)
  · obtain ⟨_, y1, _, _⟩ := hcb w (Below.refl _ _) 0 ([98], vs, pa) rfl
    rw [hv] at x2
    exact ⟨g2, cap2, x1, x2, y1, x6⟩
theorem texts_cells2 {g : Nat} {w : World} {vs : List Nat} {pa p3 : K.Pl}
    (hca : ∀ i t, (⟨1, [97], [([98], vs, pa)], [], (1, 1), false⟩ :: ([] ++ [⟨2, [97], [], [], p3, false⟩]) : List K.Tk)[i]? = some t → ∃ p n c, AttrsIn t.attrs (.slice p n c) w ∧ ∀ W, Below w.heap.size w W → TokCell g (i * 7) t (.slice p n c) W) :
    ∃ g2 cap2, w.cell? ⟨g, 1, none⟩ = some (.string ⟨#[97]⟩) ∧ w.cell? ⟨g, 2, none⟩ = some (.slice (some ⟨g2, 0, none⟩) 1 cap2) ∧ w.cell? ⟨g2, 1, none⟩ = some (.string (bs (U.n8 vs))) ∧ w.cell? ⟨g, 6, none⟩ = some (.bool false) ∧ w.cell? ⟨g, 7, none⟩ = some (.int .i64 2) := by
  obtain ⟨g2, cap2, x1, x2, y1, x6⟩ := first_cells hca rfl
  exact ⟨g2, cap2, x1, x2, y1, x6, (tk_cells hca 1 _ rfl).1⟩
theorem texts_cells3 {g : Nat} {w : World} {vs ss : List Nat} {pa p2 p3 : K.Pl}
    (hca : ∀ i t, (⟨1, [97], [([98], vs, pa)], [], (1, 1), false⟩ :: ([⟨3, [], [], ss, p2, false⟩] ++ [⟨2, [97], [], [], p3, false⟩]) : List K.Tk)[i]? = some t → ∃ p n c, AttrsIn t.attrs (.slice p n c) w ∧ ∀ W, Below w.heap.size w W → TokCell g (i * 7) t (.slice p n c) W) :
    ∃ g2 cap2, w.cell? ⟨g, 1, none⟩ = some (.string ⟨#[97]⟩) ∧ w.cell? ⟨g, 2, none⟩ = some (.slice (some ⟨g2, 0, none⟩) 1 cap2) ∧ w.cell? ⟨g2, 1, none⟩ = some (.string (bs (U.n8 vs))) ∧ w.cell? ⟨g, 6, none⟩ = some (.bool false) ∧ w.cell? ⟨g, 7, none⟩ = some (.int .i64 3) ∧
      w.cell? ⟨g, 10, none⟩ = some (.string (bs (U.n8 ss))) ∧ w.cell? ⟨g, 14, none⟩ = some (.int .i64 2) ∧ w.cell? ⟨g, 15, none⟩ = some (.string ⟨#[97]⟩) := by
  obtain ⟨g2, cap2, x1, x2, y1, x6⟩ := first_cells hca rfl
  exact ⟨g2, cap2, x1, x2, y1, x6, (tk_cells hca 1 _ rfl).1, (tk_cells hca 1 _ rfl).2.2, (tk_cells hca 2 _ rfl).1, (tk_cells hca 2 _ rfl).2.1⟩

set_option maxHeartbeats 16000000 in
set_option maxRecDepth 100000 in
theorem law_texts (s : List UInt8) (hs : s.length ≤ 140737488355328) (v : List UInt8) (hv : v.length ≤ 140737488355328) (w : World) (hlow : Low w) (h12 : 12 ≤ w.heap.size) :
    Calls Tryz.prog 6 #[.string (bs s), .string (bs v)] w fun e w' => e = .returned (.bool true) ∧ Below w.heap.size w w' := by
  have haw := awake_any w hlow h12
  have hss := bs_size s
  have hsv := bs_size v
  by_cases hls : 1000 < s.length
  · have hgt : (1000 : Int) < ((bs s).size : Int) := by omega
    clear hlow
    go_enter Tryz.func6, Tryz.ntmps6
    go_wp2_with (go_at_call 8; refine haw.mono ?_; rintro e w1 ⟨rfl, hb1⟩)
    go_ret
    exact ⟨rfl, hb1⟩
  by_cases hlv : 1000 < v.length
  · have hgt : (1000 : Int) < ((bs v).size : Int) := by omega
    have hle : ((bs s).size : Int) ≤ 1000 := by omega
    clear hlow
    go_enter Tryz.func6, Tryz.ntmps6
    go_wp2_with (go_at_call 8; refine haw.mono ?_; rintro e w1 ⟨rfl, hb1⟩)
    go_ret
    exact ⟨rfl, hb1⟩
  have hle : ((bs s).size : Int) ≤ 1000 := by omega
  have hle2 : ((bs v).size : Int) ≤ 1000 := by omega
  have hps := fun W => plain_any s (by omega) W
  have hpv := fun W => plain_any v (by omega) W
  have hev := fun W => escaped_any true v (by omega) W
  have hes := fun W => escaped_any false s (by omega) W
  have HPS := Lib.hid hps
  have HPV := Lib.hid hpv
  have HEV := Lib.hid hev
  have HES := Lib.hid hes
  have HLow := Lib.hid hlow
  clear hps hpv hev hes hlow
  have l1 := esc_length true v
  have l2 := esc_length false s
  have z1 := bs_size (esc true v)
  have z2 := bs_size (esc false s)
  go_enter Tryz.func6, Tryz.ntmps6
  go_wp2_with (first
    | (go_at_call 8; refine haw.mono ?_; rintro e w1 ⟨rfl, hb1⟩; have HB1 := Lib.hid hb1; clear hb1)
    | (go_at_call 14; first
      | ((with_reducible refine (HPS.out _).mono ?_); rintro e w2 ⟨r1, rfl, hr1, hb2⟩; have HB2 := Lib.hid hb2; have HR1 := Lib.hid hr1; clear hb2 hr1; cases r1)
      | ((with_reducible refine (HPV.out _).mono ?_); rintro e w3 ⟨r2, rfl, hr2, hb3⟩; have HB3 := Lib.hid hb3; have HR2 := Lib.hid hr2; clear hb3 hr2; cases r2)))
  · go_ret
    exact ⟨rfl, HB1.out.trans (HB2.out.mono HB1.out.size)⟩
  · go_ret
    exact ⟨rfl, (HB1.out.trans (HB2.out.mono HB1.out.size)).trans (HB3.out.mono (Nat.le_trans HB1.out.size HB2.out.size))⟩
  · obtain ⟨ss, hss8, hsok⟩ := HR1.out trivial
    obtain ⟨vs, hvs8, hvok⟩ := HR2.out trivial
    obtain ⟨pa, p2, p3, hK⟩ := tokens_texts ss vs hsok hvok (by rw [hss8]; omega) (by rw [hvs8]; omega)
    rw [hss8, hvs8] at hK
    have hB3 : Below w.heap.size w w3 := (HB1.out.trans (HB2.out.mono HB1.out.size)).trans (HB3.out.mono (Nat.le_trans HB1.out.size HB2.out.size))
    have W3 := Lib.hid hB3
    have hcat := texts_string s v
    have hlen : (textDoc s v).length ≤ 140737488355328 := by unfold textDoc; simp; omega
    have hT : ∀ W, Below w.heap.size w W → Calls Tryz.prog 9 #[.string (bs (textDoc s v))] W (TokRet (K.tokens (textDoc s v)) W) := fun W hW => tokens_any (textDoc s v) hlen W (HLow.out.below hW h12) (by have := hW.size; omega)
    rw [hK] at hT
    have HCAT := Lib.hid hcat
    have H8S := Lib.hid hss8
    have H8V := Lib.hid hvs8
    have c1 : ¬ (6 + (bs (esc true v)).size > 9223372036854775807) := by omega
    have c2 : ¬ (6 + (bs (esc true v)).size + 2 > 9223372036854775807) := by omega
    have c3 : ¬ (6 + (bs (esc true v)).size + 2 + (bs (esc false s)).size > 9223372036854775807) := by omega
    have c4 : ¬ (6 + (bs (esc true v)).size + 2 + (bs (esc false s)).size + 5 > 9223372036854775807) := by omega
    clear hss8 hvs8 hK hB3 hcat hlen hsok hvok
    by_cases hse : ss = []
    · have e0 : s = [] := by rw [← H8S.out, hse]; rfl
      have e1 : (bs s).toList.isEmpty = true := by rw [e0]; exact empty_1
      have e2 : (bs s).toList = [] := by rw [e0]; exact empty_2
      rw [if_pos hse] at hT
      have HT := Lib.hid hT
      clear hT hse e0
      go_wp2_with (first
        | (go_at_call 15; first
          | ((with_reducible refine (HEV.out _).mono ?_); rintro e w4 ⟨rfl, hb4⟩; have W4 := Lib.hid (W3.out.trans (hb4.mono W3.out.size)); clear hb4)
          | ((with_reducible refine (HES.out _).mono ?_); rintro e w5 ⟨rfl, hb5⟩; have W5 := Lib.hid (W4.out.trans (hb5.mono W4.out.size)); clear hb5))
        | (go_at_call 9; rw [HCAT.out]; refine (HT.out _ W5.out).mono ?_; rintro e w6 ⟨lv, rfl, hL, hb6⟩; obtain ⟨q0, n0, c0, rfl⟩ := hL.slice; have hLI := list_in hL; have W6 := Lib.hid (W5.out.trans (hb6.mono W5.out.size)); rcases hLI with ⟨_, h0⟩ | ⟨g, cap, hv6, hc1, hc2, hgl, hca⟩; (exact absurd h0 (by simp)); injection hv6 with f1 f2 f3; subst f1; subst f3; (have f2' : n0 = 2 := f2); clear f2; subst f2'; have LK := Lib.hid (texts_cells2 hca); clear hca hL hb6 hc1 hc2; obtain ⟨g2, cap2, x1, x2, y1, x6, z0⟩ := LK.out; rw [H8V.out] at y1))
      go_ret
      exact ⟨rfl, W6.out⟩
    · have e1 : (bs s).toList.isEmpty = false := by rw [← H8S.out]; exact n8_isEmpty hse
      have e2 : ¬ (bs s).toList = [] := by rw [← H8S.out]; exact n8_ne hse
      rw [if_neg hse] at hT
      have HT := Lib.hid hT
      clear hT hse
      go_wp2_with (first
        | (go_at_call 15; first
          | ((with_reducible refine (HEV.out _).mono ?_); rintro e w4 ⟨rfl, hb4⟩; have W4 := Lib.hid (W3.out.trans (hb4.mono W3.out.size)); clear hb4)
          | ((with_reducible refine (HES.out _).mono ?_); rintro e w5 ⟨rfl, hb5⟩; have W5 := Lib.hid (W4.out.trans (hb5.mono W4.out.size)); clear hb5))
        | (go_at_call 9; rw [HCAT.out]; refine (HT.out _ W5.out).mono ?_; rintro e w6 ⟨lv, rfl, hL, hb6⟩; obtain ⟨q0, n0, c0, rfl⟩ := hL.slice; have hLI := list_in hL; have W6 := Lib.hid (W5.out.trans (hb6.mono W5.out.size)); rcases hLI with ⟨_, h0⟩ | ⟨g, cap, hv6, hc1, hc2, hgl, hca⟩; (exact absurd h0 (by simp)); injection hv6 with f1 f2 f3; subst f1; subst f3; (have f2' : n0 = 3 := f2); clear f2; subst f2'; have LK := Lib.hid (texts_cells3 hca); clear hca hL hb6 hc1 hc2; obtain ⟨g2, cap2, x1, x2, y1, x6, z0, z3, u0, u1⟩ := LK.out; rw [H8V.out] at y1; rw [H8S.out] at z3))
      go_ret
      exact ⟨rfl, W6.out⟩
end Go.Proofs.YtgngfpfplppnnaaGreatDoor
