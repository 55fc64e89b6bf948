/- The walk of the law TokReads: for every document it answers true. Conditions: those that the theorem names. -/
import Derived.Test.YtdilngjolhmjnaaGreatDoorRfX
import Derived.Test.YtdilngjolhmjnaaGreatDoorRfY
import Derived.Test.YtdilngjolhmjnaaGreatDoorRg6
import Derived.Test.YtdilngjolhmjnaaGreatDoorLawLines
namespace Go.Proofs.YtdilngjolhmjnaaGreatDoor
open Go.RowKit Go.Shelf
set_option linter.all false

theorem read_rf (doc : List UInt8) (hs : doc.length ≤ 140737488355328) (w : World) : Calls Tryz.prog 21 #[.string (bs doc)] w (RdPost (rdK doc) w) := by
  unfold rdK
  by_cases hl : 65536 < doc.length
  · rw [if_pos hl]
    exact read_long doc hl hs w
  · rw [if_neg hl]
    exact read_chars doc (by omega) w
/-- The document's own tokens are those that the chapter says. -/
theorem tokens_rf (doc : List UInt8) (hs : doc.length ≤ 140737488355328) (w : World) : Calls Tryz.prog 10 #[.string (bs doc)] w (TkPost (K.tokens doc) w) := by
  have hr := fun W (_ : Below w.heap.size w W) => read_rf doc hs W
  rw [tokens_eq]
  unfold rdK at hr
  by_cases hl : 65536 < doc.length
  · simp only [if_pos hl] at hr
    rw [if_pos hl]
    exact tokens_unread doc w _ hr
  · simp only [if_neg hl] at hr
    rw [if_neg hl]
    cases hc : CF doc (1, 1) [] with
    | error er =>
      simp only [hc] at hr
      exact tokens_unread doc w er hr
    | ok cs =>
      simp only [hc] at hr
      exact tokens_read doc w cs hr
theorem av_olds {w : World} {g n cap : Nat} {c : Array Value} (hg : w.heap[g]? = some (.cells c 40 (0, 0))) (hn : n ≤ cap) (hc : c.size = cap * 4) : ∃ olds : List Value, olds.length = n * 4 ∧ ∀ W, Below w.heap.size w W → ∀ (j : Nat) (u : Value), olds[j]? = some u → W.cell? ⟨g, 0 + j, none⟩ = some u := by
  refine ⟨c.toList.take (n * 4), by rw [List.length_take, Array.length_toList, hc]; omega, fun W hW j u hu => ?_⟩
  rw [Lib.cell_of_heap (Below.keep hW hg), Nat.zero_add]
  rcases Nat.lt_or_ge j (n * 4) with hj | hj
  · rw [List.getElem?_take_of_lt hj] at hu
    rw [← hu]; simp
  · rw [List.getElem?_eq_none (by rw [List.length_take, Array.length_toList]; omega)] at hu
    cases hu
theorem av_spare {w : World} {g n cap : Nat} {c : Array Value} (hg : w.heap[g]? = some (.cells c 40 (0, 0))) (hc : c.size = cap * 4) (hr : n + 1 ≤ cap) : ∀ j, j < 4 → (w.cell? ⟨g, 0 + n * 4 + j, none⟩).isSome = true ∧ w.frozen? ⟨g, 0 + n * 4 + j, none⟩ = false := by
  intro j hj
  refine ⟨?_, Lib.frozen_of_heap hg _⟩
  rw [Lib.cell_of_heap hg, Array.getElem?_eq_getElem (by rw [hc]; omega)]
  rfl
/-- The law's inner walk: the names of a token's attributes. -/
def InRel (N1 N2 : Nat) (w : World) (toks : List K.Tk) (gl cap i n : Nat) (av : Value) (g : Nat) (kv : Value) (wr : World) : Prop :=
  ∃ k : Nat, kv = .int .i64 (k : Int) ∧ n - k = g ∧ k ≤ n ∧ Lw N1 N2 w toks gl cap i wr ∧ wr.cell? ⟨gl, i * 7 + 2, none⟩ = some av ∧ AvOk N1 N2 wr av n
/-- The law's outer walk. -/
def OutRel (N1 N2 : Nat) (w : World) (toks : List K.Tk) (gl cap : Nat) (g : Nat) (iv : Value) (wr : World) : Prop :=
  ∃ i : Nat, iv = .int .i64 (i : Int) ∧ toks.length - i = g ∧ i ≤ toks.length ∧ Lw N1 N2 w toks gl cap i wr

set_option maxHeartbeats 16000000 in
set_option maxRecDepth 100000 in
theorem law_reads (d : List UInt8) (hs : d.length ≤ 140737488355328) (w : World) (hlow : Low w) (h12 : 12 ≤ w.heap.size) :
    Calls Tryz.prog 3 #[.string (bs d)] w fun e w' => e = .returned (.bool true) ∧ Below w.heap.size w w' := by
  have haw := awake_any w hlow h12
  have hsz := bs_size d
  by_cases hm : 3000 < d.length ∧ d.length ≤ 65536
  · have hgt : (3000 : Int) < ((bs d).size : Int) := by omega
    have hle : ((bs d).size : Int) ≤ 65536 := by omega
    clear hlow
    go_enter Tryz.func3, Tryz.ntmps3
    go_wp2_with (go_at_call 8; refine haw.mono ?_; rintro e w1 ⟨rfl, hb1⟩)
    go_ret
    exact ⟨rfl, hb1⟩
  · have HLow := Lib.hid hlow
    clear hlow
    have hT : ∀ W, Below w.heap.size w W → Calls Tryz.prog 9 #[.string (bs d)] W (TokRet (K.tokens d) W) := by
      intro W hW
      exact tokens_any d hs W (HLow.out.below hW h12) (by have := hW.size; omega)
    have hR : ∀ W, Calls Tryz.prog 10 #[.string (bs d)] W (TkPost (K.tokens d) W) := fun W => tokens_rf d hs W
    have hlen3 : K.tokens d = .error (2, (1, 1)) ∨ d.length ≤ 3000 := by
      by_cases h : d.length ≤ 3000
      · exact .inr h
      · refine .inl ?_
        rw [tokens_eq, if_pos (by omega)]
    have hgd : ((¬ (3000 : Int) < ((bs d).size : Int)) ∨ ((3000 : Int) < ((bs d).size : Int) ∧ ¬ ((bs d).size : Int) ≤ 65536)) := by omega
    have HT := Lib.hid hT
    have HR := Lib.hid hR
    clear hT hR
    cases hK : K.tokens d with
    | error er =>
      have htl : ∀ fb W, Below w.heap.size w W → FaultAt fb er W → Calls Tryz.prog 11 #[.iface 45 (.pointer (some ⟨fb, 0, none⟩))] W fun e w' => e = .returned (tellVal er.1 er.2) ∧ Below W.heap.size W w' :=
        fun fb W hW hf => tell_fault fb er W hf (HLow.out.below hW h12) (by have := hW.size; omega)
      have hsm : ∀ W, Calls Tryz.prog 12 #[.slice none 0 0, .slice none 0 0, .bool true] W fun e w' => e = .returned (.bool true) ∧ Below W.heap.size W w' :=
        fun W => same_any true [] [] (SameL.refl _ _) _ _ W (.inl ⟨rfl, rfl⟩) (.inl ⟨rfl, rfl⟩)
      have TL := Lib.hid htl
      have SM := Lib.hid hsm
      have HK := Lib.hid hK
      clear htl hsm hK hlen3
      rcases hgd with hg1 | ⟨hg1, hg2⟩
      all_goals
        go_enter Tryz.func3, Tryz.ntmps3
        go_wp2_with (first
          | (go_at_call 8; refine haw.mono ?_; rintro e w1 ⟨rfl, hb1⟩; have HW := Lib.hid hb1; have k0 := HT.out _ hb1; rw [HK.out] at k0; clear hb1)
          | (go_at_call 9; first
            | ((with_reducible refine k0.mono ?_); rintro e w2 ⟨f0, rfl, hf0, hb2⟩; have W2 := Lib.hid (HW.out.trans (hb2.mono HW.out.size)); have F0 := Lib.hid hf0; have k1 := HT.out _ W2.out; rw [HK.out] at k1; clear hf0 hb2)
            | ((with_reducible refine k1.mono ?_); rintro e w3 ⟨f1, rfl, hf1, hb3⟩; have W3 := Lib.hid (W2.out.trans (hb3.mono W2.out.size)); have F0b := Lib.hid (show FaultAt f0 er w3 from Below.keep hb3 F0.out); have k2 := HR.out w3; rw [HK.out] at k2; clear hf1 hb3))
          | (go_at_call 10; refine k2.mono ?_; rintro e w4 ⟨hb4, he1, rfl⟩; have he1 : 1 ≤ er.1 := he1; have her0 : ((er.1 : Int) == 0) = false := (by rw [beq_eq_false_iff_ne]; omega); have hal := (Below.refl w4.heap.size w4).alloc (Nat.le_refl _) (.cells #[.int .i64 (er.2.1 : Int), .int .i64 (er.2.2 : Int)] 29); have W4 := Lib.hid (W3.out.trans ((hb4.trans (hal.mono hb4.size)).mono W3.out.size)); have G4 := Lib.hid (hb4.trans (hal.mono hb4.size)); have A1 := Lib.hid (heap_new w4 (.cells #[.int .i64 (er.2.1 : Int), .int .i64 (er.2.2 : Int)] 29)); have F0c : FaultAt f0 er _ := Below.keep G4.out F0b.out; have k3 := TL.out f0 _ W4.out F0c; clear F0c hb4 hal)
          | (go_at_call 11; (with_reducible refine k3.mono ?_); rintro e w5 ⟨rfl, hb5⟩; have hal := (Below.refl w5.heap.size w5).alloc (Nat.le_refl _) (.cells #[.int .i64 (er.2.1 : Int), .int .i64 (er.2.2 : Int)] 29); have W5 := Lib.hid (W4.out.trans ((hb5.trans (hal.mono hb5.size)).mono W4.out.size)); have G5 := Lib.hid (hb5.trans (hal.mono hb5.size)); have A2 := Lib.hid (heap_new w5 (.cells #[.int .i64 (er.2.1 : Int), .int .i64 (er.2.2 : Int)] 29)); have A1b := Lib.hid (Below.keep G5.out A1.out); have k6 := SM.out (w5.alloc (.cells #[.int .i64 (er.2.1 : Int), .int .i64 (er.2.2 : Int)] 29)); clear hb5 hal)
          | (go_at_call 12; (with_reducible refine k6.mono ?_); rintro e w8 ⟨rfl, hb8⟩; have W8 := Lib.hid (W5.out.trans (hb8.mono W5.out.size)); have a1 := Below.keep hb8 A1b.out; have a2 := Below.keep hb8 A2.out; obtain ⟨x0, x1⟩ := place_cells a1; obtain ⟨y0, y1⟩ := place_cells a2; have k7 := SM.out w8; clear hb8 a1 a2))
        go_loopg [68] 0 (fun g iv wr => iv = .int .i64 0 ∧ wr = w8)
        case atStart => exact ⟨rfl, rfl⟩
        case round =>
          obtain ⟨rfl, rfl⟩ := hrel
          go_wp2_with (go_at_call 12; refine k7.mono ?_; rintro e w9 ⟨rfl, hb9⟩; have W9 := Lib.hid (W8.out.trans (hb9.mono W8.out.size)); clear hb9)
          go_ret
          exact ⟨rfl, W9.out⟩
    | ok toks =>
      have hd3 : d.length ≤ 3000 := by
        rcases hlen3 with h | h
        · rw [hK] at h; cases h
        · exact h
      have hg1 : ¬ (3000 : Int) < ((bs d).size : Int) := by omega
      have HK := Lib.hid hK
      obtain ⟨i0, hi0, hz0, hz1, hz2⟩ := info_parts info40
      have htn := tokens_count hK
      clear hK hgd hlen3
      go_enter Tryz.func3, Tryz.ntmps3
      go_wp2_with (first
        | (go_at_call 8; refine haw.mono ?_; rintro e w1 ⟨rfl, hb1⟩; have HW := Lib.hid hb1; have k0 := HT.out _ hb1; rw [HK.out] at k0; clear hb1)
        | (go_at_call 9; first
          | ((with_reducible refine k0.mono ?_); rintro e w2 ⟨lv0, rfl, hL0, hb2⟩; have W2 := Lib.hid (HW.out.trans (hb2.mono HW.out.size)); have B2 := Lib.hid hb2; obtain ⟨p0, n0, c0, rfl⟩ := hL0.slice; have L0 := Lib.hid hL0; have k1 := HT.out _ W2.out; rw [HK.out] at k1; clear hL0 hb2)
          | ((with_reducible refine k1.mono ?_); rintro e w3 ⟨lv1, rfl, hL1, hb3⟩; have W3 := Lib.hid (W2.out.trans (hb3.mono W2.out.size)); obtain ⟨p1, n1, c1, rfl⟩ := hL1.slice; have L1 := Lib.hid hL1; have L0b := Lib.hid ((list_in L0.out).bel hb3); have B3 := Lib.hid hb3; have k2 := HR.out w3; rw [HK.out] at k2; clear hL1 hb3))
        | (go_at_call 10; refine k2.mono ?_; rintro e w4 ⟨hb4, lv2, rfl, hL2⟩; obtain ⟨p2, n2, c2, rfl⟩ := hL2.slice; have hal := (Below.refl w4.heap.size w4).alloc (Nat.le_refl _) (.cells #[.int .i64 0, .int .i64 0] 29); have W4 := Lib.hid (W3.out.trans ((hb4.trans (hal.mono hb4.size)).mono W3.out.size)); have G4 := Lib.hid (hb4.trans (hal.mono hb4.size)); have A1 := Lib.hid (heap_new w4 (.cells #[.int .i64 0, .int .i64 0] 29)); have L2 := Lib.hid hL2; have L2c := Lib.hid ((list_in hL2).bel hal); have L0c := Lib.hid (L0b.out.bel G4.out); have k3 := tell_nil (w4.alloc (.cells #[.int .i64 0, .int .i64 0] 29)); have B4 := Lib.hid hb4; clear hb4 hal hL2)
        | (go_at_call 11; (with_reducible refine k3.mono ?_); rintro e w5 ⟨rfl, hb5⟩; have hal := (Below.refl w5.heap.size w5).alloc (Nat.le_refl _) (.cells #[.int .i64 0, .int .i64 0] 29); have W5 := Lib.hid (W4.out.trans ((hb5.trans (hal.mono hb5.size)).mono W4.out.size)); have G5 := Lib.hid (hb5.trans (hal.mono hb5.size)); have A2 := Lib.hid (heap_new w5 (.cells #[.int .i64 0, .int .i64 0] 29)); have A1b := Lib.hid (Below.keep G5.out A1.out); have k6 := same_any true toks toks (SameL.refl _ _) _ _ (w5.alloc (.cells #[.int .i64 0, .int .i64 0] 29)) (L0c.out.bel G5.out) (L2c.out.bel G5.out); clear hb5 hal)
        | (go_at_call 12; (with_reducible refine k6.mono ?_); rintro e w8 ⟨rfl, hb8⟩; have W8 := Lib.hid (W5.out.trans (hb8.mono W5.out.size)); have a1 := Below.keep hb8 A1b.out; have a2 := Below.keep hb8 A2.out; obtain ⟨x0, x1⟩ := place_cells a1; obtain ⟨y0, y1⟩ := place_cells a2; have B8 := Lib.hid hb8; clear hb8 a1 a2))
      have hal4 := (Below.refl w4.heap.size w4).alloc (Nat.le_refl _) (.cells #[.int .i64 0, .int .i64 0] 29)
      have hb48 : Below w4.heap.size w4 w8 := (hal4.trans (G5.out.mono hal4.size)).trans (B8.out.mono (Nat.le_trans hal4.size G5.out.size))
      have hb38 : Below w3.heap.size w3 w8 := B4.out.trans (hb48.mono B4.out.size)
      have hb28 : Below w2.heap.size w2 w8 := B3.out.trans (hb38.mono B3.out.size)
      have k7 : ∀ W, Mut w1.heap.size w2.heap.size w8 W → Calls Tryz.prog 12 #[.slice p1 n1 c1, .slice p2 n2 c2, .bool true] W fun e w' => e = .returned (.bool true) ∧ Below W.heap.size W w' := by
        intro W hW
        refine same_any true toks toks (SameL.refl _ _) _ _ W (list_in (list_high (L1.out.bel hb38) hW (Nat.le_refl _))) (list_in (list_high (L2.out.bel hb48) hW (by have := B3.out.size; omega)))
      have hfin : ∀ W W', Mut w1.heap.size w2.heap.size w8 W → Below W.heap.size W W' → Below w.heap.size w W' := by
        intro W W' h1 h2
        exact (Mut.belowN W8.out h1 HW.out.size).trans (h2.mono (by have := W8.out.size; have := h1.size; omega))
      have hlw := L0.out
      have HFin := Lib.hid hfin
      have K7 := Lib.hid k7
      have HB28 := Lib.hid hb28
      clear hal4 hb48 hb38 hb28 k7 hfin k6 k3 k2 k1 k0
      cases p0 with
      | none =>
        obtain ⟨rfl, ht0, rfl⟩ := list_nil hlw
        clear hlw
        go_loopg [68] 0 (fun g iv wr => iv = .int .i64 0 ∧ wr = w8)
        case atStart => exact ⟨rfl, rfl⟩
        case round =>
          obtain ⟨rfl, rfl⟩ := hrel
          go_wp2_with (go_at_call 12; refine (K7.out _ (Mut.refl _ _ _)).mono ?_; rintro e w9 ⟨rfl, hb9⟩; have W9 := Lib.hid (HFin.out _ _ (Mut.refl _ _ _) hb9); clear hb9)
          go_ret
          exact ⟨rfl, W9.out⟩
      | some a0 =>
        obtain ⟨gl, rfl⟩ := list_some hlw
        obtain ⟨hlw0, rfl, hnc, hcm⟩ := Lw.start hlw rfl HB28.out
        have HL0 := Lib.hid hlw0
        have hmx : toks.length ≤ 9223372036854775807 := by unfold maxLen at hcm; omega
        clear hlw hlw0
        go_loopg [68] toks.length (fun g iv wr => OutRel w1.heap.size w2.heap.size w8 toks gl c0 g iv wr)
        case atStart => exact ⟨0, rfl, rfl, Nat.zero_le _, HL0.out⟩
        case round =>
          obtain ⟨i, rfl, hg, hi, hL⟩ := hrel
          by_cases hlt : i < toks.length
          · obtain ⟨t, ht⟩ : ∃ t, toks[i]? = some t := ⟨_, List.getElem?_eq_getElem hlt⟩
            obtain ⟨av, v1, y2, y1', f2, f1, hav⟩ := hL.at hnc ht
            obtain ⟨pa, ca, rfl⟩ := hav.own
            have hlti : (i : Int) < (toks.length : Int) := by omega
            have htl := htn i t ht
            obtain ⟨n, hn⟩ : ∃ n, t.attrs.length = n := ⟨_, rfl⟩
            rw [hn] at hav htl y2
            have HL := Lib.hid hL
            have HAV := Lib.hid hav
            have HTk := Lib.hid ht
            clear hL hav ht
            go_wp2
            go_loopg [77] n (fun g kv wr2 => InRel w1.heap.size w2.heap.size w8 toks gl c0 i n (.slice pa n ca) g kv wr2)
            case atStart => exact ⟨0, rfl, rfl, Nat.zero_le _, HL.out, y2, HAV.out⟩
            case round =>
              obtain ⟨k, rfl, hgk, hk, hLk, hck, havk⟩ := hrel
              by_cases hkn : k < n
              · have hkni : (k : Int) < (n : Int) := by omega
                rcases havk with ⟨_, h0⟩ | ⟨g, cap, c, e1, g1, g2, nc, cm, hg, hcs⟩
                · omega
                · injection e1 with e1 e2 e3
                  subst e1 e3
                  obtain ⟨v0, z0, fz0⟩ := AvOk.cells (N1 := 0) (N2 := 0) hg (show k < ca by omega) hcs 0 (by decide)
                  rw [Nat.add_zero] at z0 fz0
                  have HLK := Lib.hid (hLk.attr hg g1 g2 (k * 4) (.string ⟨#[33]⟩))
                  have hgl : g ≠ gl := by
                    rintro rfl
                    obtain ⟨cur, hcur, _⟩ := hLk.lst
                    rw [hg] at hcur
                    cases hcur
                  have hck2 : (wr.setCell ⟨g, k * 4, none⟩ (.string ⟨#[33]⟩)).cell? ⟨gl, i * 7 + 2, none⟩ = some (.slice (some ⟨g, 0, none⟩) n ca) := (World.cell?_setCell_other _ _ _ _ (by first | (simp [hgl]; done) | (simp [Ne.symm hgl]; done) | (intro h; injection h with h1; first | exact hgl h1 | exact hgl h1.symm))).trans hck
                  have HCK := Lib.hid hck2
                  have HAVK := Lib.hid (AvOk.shp (N1 := w1.heap.size) (N2 := w2.heap.size) (.inr ⟨g, ca, c, rfl, g1, g2, nc, cm, hg, hcs⟩) (Shp.set wr g (k * 4) (.string ⟨#[33]⟩)))
                  clear hLk hg hck2
                  go_wp2
                  go_roundg (n - (k + 1))
                  case measure => omega
                  case rel => exact ⟨k + 1, by go_num, rfl, by omega, HLK.out, HCK.out, HAVK.out⟩
              · have hkni : ¬ (k : Int) < (n : Int) := by omega
                clear y2 y1' f2 f1
                have hN1w : w1.heap.size ≤ wr.heap.size := by have := HW.out.size; have := B2.out.size; have := hLk.mu.size; have := HB28.out.size; omega
                have hal : Below wr.heap.size wr (wr.alloc (.cells #[.string ⟨#[63]⟩, .string ⟨#[]⟩, .int .i64 0, .int .i64 0] 40)) := (Below.refl _ _).alloc (Nat.le_refl _) _
                have HLK := Lib.hid (hLk.below hal)
                rcases havk with ⟨e1, h0⟩ | ⟨g, cap, c, e1, g1, g2, nc, cm, hg, hcs⟩
                · injection e1 with e1 e2 e3
                  subst e1 e3 h0
                  have hkk : k = 0 := by omega
                  subst hkk
                  clear hLk hal
                  go_wp2_with (at_builtin; refine wpList_append_lies _ rfl _ _ 36 rfl w1.heap.size 40 i0 _ 4 48 Tryz.underlying36 hi0 hz0 hz1 hz2 rfl (by decide) _ 0 [] rfl ⟨rfl, .inl ⟨rfl, rfl⟩⟩ ⟨wr.heap.size, 0, none⟩ 1 1 [.string ⟨#[63]⟩, .string ⟨#[]⟩, .int .i64 0, .int .i64 0] rfl rfl (World.news_of_block (heap_alloc_new _ _)) (by simp [Value.oneCell']) (by decide) (by decide) (by decide) (by simp; omega) _ rfl ?_; intro ga capa w6 hown6 hgrow6 hat6 hlt6; have HL6 := Lib.hid (HLK.out.grow hgrow6); obtain ⟨av', v1', z2, z1, q2, q1, _⟩ := HL6.out.at hnc HTk.out; clear hown6 hgrow6 hat6 hlt6)
                  go_wp2
                  go_roundg (toks.length - (i + 1))
                  case measure => omega
                  case rel => exact ⟨i + 1, by go_num, rfl, by omega, (HL6.out.put (i + 1) (by omega) (i * 7 + 2) (by omega) _).put (i + 1) (Nat.le_refl _) (i * 7 + 1) (by omega) _⟩
                · injection e1 with e1 e2 e3
                  subst e1 e3
                  obtain ⟨olds, ho1, ho2⟩ := av_olds hg nc hcs
                  have hol := ho2 _ hal
                  have hsp := av_spare (Below.keep hal hg) hcs (n := n)
                  have HG := Lib.hid (Below.keep hal hg)
                  clear hLk hal ho2 hg
                  go_wp2_with (at_builtin; refine wpList_append_arg _ rfl _ _ 36 rfl 40 i0 _ 4 48 Tryz.underlying36 hi0 hz0 hz1 hz2 rfl (by decide) g 0 n ca olds rfl ho1 hol ⟨wr.heap.size, 0, none⟩ 1 1 [.string ⟨#[63]⟩, .string ⟨#[]⟩, .int .i64 0, .int .i64 0] rfl rfl (World.news_of_block (heap_alloc_new _ _)) (by simp [Value.oneCell']) hsp (by unfold maxLen; omega) (by omega) ?_ ?_)
                  · intro hroom
                    have HL6 := Lib.hid (HLK.out.room g1 g2 [.string ⟨#[63]⟩, .string ⟨#[]⟩, .int .i64 0, .int .i64 0] (0 + n * 4) HG.out)
                    have hl6 := HL6.out
                    clear HL6
                    rw [Nat.zero_add] at hl6
                    generalize (wr.alloc (.cells #[.string ⟨#[63]⟩, .string ⟨#[]⟩, .int .i64 0, .int .i64 0] 40)).setCells g (n * 4) [.string ⟨#[63]⟩, .string ⟨#[]⟩, .int .i64 0, .int .i64 0] = w6 at hl6 ⊢
                    have HL6 := Lib.hid hl6
                    clear hl6
                    obtain ⟨av', v1', z2, z1, q2, q1, _⟩ := HL6.out.at hnc HTk.out
                    go_wp2
                    go_roundg (toks.length - (i + 1))
                    case measure => omega
                    case rel => exact ⟨i + 1, by go_num, rfl, by omega, (HL6.out.put (i + 1) (by omega) (i * 7 + 2) (by omega) _).put (i + 1) (Nat.le_refl _) (i * 7 + 1) (by omega) _⟩
                  · intro hgr v6 w6 hown6 hgrow6
                    obtain ⟨g6, cap6, rfl, _, _⟩ := hown6.form (by omega)
                    have HL6 := Lib.hid (HLK.out.grow hgrow6)
                    clear hown6 hgrow6
                    obtain ⟨av', v1', z2, z1, q2, q1, _⟩ := HL6.out.at hnc HTk.out
                    go_wp2
                    go_roundg (toks.length - (i + 1))
                    case measure => omega
                    case rel => exact ⟨i + 1, by go_num, rfl, by omega, (HL6.out.put (i + 1) (by omega) (i * 7 + 2) (by omega) _).put (i + 1) (Nat.le_refl _) (i * 7 + 1) (by omega) _⟩
          · have hge : ¬ (i : Int) < (toks.length : Int) := by omega
            have HL := Lib.hid hL.mu
            clear hL
            go_wp2_with (go_at_call 12; refine (K7.out _ HL.out).mono ?_; rintro e w9 ⟨rfl, hb9⟩; have W9 := Lib.hid (HFin.out _ _ HL.out hb9); clear hb9)
            go_ret
            exact ⟨rfl, W9.out⟩
end Go.Proofs.YtdilngjolhmjnaaGreatDoor
