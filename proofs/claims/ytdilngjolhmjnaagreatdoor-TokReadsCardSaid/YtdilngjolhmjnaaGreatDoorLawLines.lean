/- The walk of the law TokLines: for every document it answers true. Conditions: those that the theorem names. -/
import Derived.Test.YtdilngjolhmjnaaGreatDoorSame
import Derived.Test.YtdilngjolhmjnaaGreatDoorB6
namespace Go.Proofs.YtdilngjolhmjnaaGreatDoor
open Go.RowKit Go.Shelf
set_option linter.all false

theorem bs_append (a b : List UInt8) : bs a ++ bs b = bs (a ++ b) := by
  refine ByteArray.ext ?_
  rw [ByteArray.data_append]
  simp [bs]
theorem tokens_tl {q d : List UInt8} (hq : q = [13] ∨ q = [13, 10]) (h13 : ∀ x ∈ d, x ≠ 13) (hl : d.length ≤ 2000) : K.tokens (tl q d) = K.tokens d := by
  have := tl_length q (by rcases hq with rfl | rfl <;> decide) d
  rw [tokens_eq, tokens_eq, if_neg (by omega), if_neg (by omega), CF_tl hq d.length d (Nat.le_refl _) h13]
theorem place_cells {w : World} {k : Nat} {a b : Value} (h : w.heap[k]? = some (.cells #[a, b] 29 (0, 0))) : w.cell? ⟨k, 0, none⟩ = some a ∧ w.cell? ⟨k, 1, none⟩ = some b :=
  ⟨by rw [Lib.cell_of_heap h]; rfl, by rw [Lib.cell_of_heap h]; rfl⟩
theorem ListAt.slice {B : Nat} {l : List K.Tk} {lv : Value} {w : World} (h : ListAt B l lv w) : ∃ p n c, lv = .slice p n c := by
  obtain ⟨xs, ho, _⟩ := h
  exact own_slice ho
/-- What the law's loop has come to. -/
def LnRel (d : List UInt8) (B : Nat) (w : World) (g : Nat) (a b iv : Value) (wr : World) : Prop :=
  ∃ i : Nat, iv = .int .i64 (i : Int) ∧ d.length - i = g ∧ i ≤ d.length ∧ a = .string (bs (tl [13] (d.take i))) ∧ b = .string (bs (tl [13, 10] (d.take i))) ∧ (∀ x ∈ d.take i, x ≠ 13) ∧ Below B w wr

set_option maxHeartbeats 16000000 in
set_option maxRecDepth 100000 in
theorem law_lines (d : List UInt8) (hs : d.length ≤ 140737488355328) (w : World) (hlow : Low w) (h12 : 12 ≤ w.heap.size) :
    Calls Tryz.prog 7 #[.string (bs d)] w fun e w' => e = .returned (.bool true) ∧ Below w.heap.size w w' := by
  have haw := awake_any w hlow h12
  have hsz := bs_size d
  by_cases hl : 2000 < d.length
  · have hgt : (2000 : Int) < ((bs d).size : Int) := by omega
    clear hlow
    go_enter Tryz.func7, Tryz.ntmps7
    go_wp2_with (go_at_call 8; refine haw.mono ?_; rintro e w1 ⟨rfl, hb1⟩)
    go_ret
    exact ⟨rfl, hb1⟩
  · have hle : ((bs d).size : Int) ≤ 2000 := by omega
    have HLow := Lib.hid hlow
    clear hlow
    go_enter Tryz.func7, Tryz.ntmps7
    go_wp2_with (go_at_call 8; refine haw.mono ?_; rintro e w1 ⟨rfl, hb1⟩; have HB1 := Lib.hid hb1; clear hb1)
    go_loopg [3, 4, 5] d.length (fun g a b iv wr => LnRel d w.heap.size w g a b iv wr)
    case atStart => exact ⟨0, rfl, rfl, Nat.zero_le _, rfl, rfl, (fun x hx => by cases hx), HB1.out⟩
    case round =>
      obtain ⟨i, rfl, hg, him, rfl, rfl, h13, hbel⟩ := hrel
      have HBel := Lib.hid hbel
      have H13 := Lib.hid h13
      clear hbel h13
      by_cases hlt : i < d.length
      · have hi2 : i < (bs d).size := by omega
        obtain ⟨b0, hb0⟩ : ∃ b0, d[i] = b0 := ⟨_, rfl⟩
        have hget : (bs d)[i] = b0 := (bs_get d i hi2 hlt).trans hb0
        have htk : d.take (i + 1) = d.take i ++ [b0] := by subst hb0; exact List.take_succ_eq_append_getElem hlt
        have hlts : (i : Int) < ((bs d).size : Int) := by omega
        have hb8 := UInt8.toNat_lt b0
        have HTK := Lib.hid htk
        by_cases h1 : b0 = 13
        · subst h1
          clear htk hb0
          go_wp2
          go_ret
          exact ⟨rfl, HBel.out⟩
        · have hn13 : (((b0.toNat : Int)) == 13) = false := by
            rw [beq_eq_false_iff_ne]
            intro e
            exact h1 (UInt8.toNat_inj.1 (by have : (13 : UInt8).toNat = 13 := rfl; omega))
          have h13' : ∀ x ∈ d.take (i + 1), x ≠ 13 := by
            intro x hx
            rw [htk] at hx
            rcases List.mem_append.1 hx with hx | hx
            · exact H13.out x hx
            · simp only [List.mem_singleton] at hx; rw [hx]; exact h1
          have H13' := Lib.hid h13'
          have hA := tl_length [13] (by decide) (d.take i)
          have hB := tl_length [13, 10] (by decide) (d.take i)
          have hti : (d.take i).length = i := by rw [List.length_take]; omega
          rw [hti] at hA hB
          have hAs := bs_size (tl [13] (d.take i))
          have hBs := bs_size (tl [13, 10] (d.take i))
          by_cases h2 : b0 = 10
          · subst h2
            have eA : bs (tl [13] (d.take i)) ++ ⟨#[13]⟩ = bs (tl [13] (d.take (i + 1))) := by
              rw [htk, tl_append, ← bs_append]; rfl
            have eB : bs (tl [13, 10] (d.take i)) ++ ⟨#[13, 10]⟩ = bs (tl [13, 10] (d.take (i + 1))) := by
              rw [htk, tl_append, ← bs_append]; rfl
            have hcA : ¬ ((bs (tl [13] (d.take i))).size + 1 > 9223372036854775807) := by omega
            have hcB : ¬ ((bs (tl [13, 10] (d.take i))).size + 2 > 9223372036854775807) := by omega
            have EA := Lib.hid eA
            have EB := Lib.hid eB
            clear htk hb0 h13' eA eB
            go_wp2
            go_roundg (d.length - (i + 1))
            case measure => omega
            case rel => exact ⟨i + 1, by go_num, rfl, by omega, by rw [EA.out], by rw [EB.out], H13'.out, HBel.out⟩
          · have hn10 : (((b0.toNat : Int)) == 10) = false := by
              rw [beq_eq_false_iff_ne]
              intro e
              exact h2 (UInt8.toNat_inj.1 (by have : (10 : UInt8).toNat = 10 := rfl; omega))
            have hex : (bs d).extract i (i + 1) = bs [b0] := by
              rw [bs_extract, show i + 1 - i = 1 by omega, List.drop_eq_getElem_cons hlt]
              show bs [d[i]] = bs [b0]
              exact congrArg (fun x => bs [x]) hb0
            have eA : bs (tl [13] (d.take i)) ++ (bs d).extract i (i + 1) = bs (tl [13] (d.take (i + 1))) := by
              rw [hex, htk, tl_append, tl_other _ h2, ← bs_append]; rfl
            have eB : bs (tl [13, 10] (d.take i)) ++ (bs d).extract i (i + 1) = bs (tl [13, 10] (d.take (i + 1))) := by
              rw [hex, htk, tl_append, tl_other _ h2, ← bs_append]; rfl
            have hes : ((bs d).extract i (i + 1)).size = 1 := by rw [hex]; rfl
            have hcA : ¬ ((bs (tl [13] (d.take i))).size + ((bs d).extract i (i + 1)).size > 9223372036854775807) := by omega
            have hcB : ¬ ((bs (tl [13, 10] (d.take i))).size + ((bs d).extract i (i + 1)).size > 9223372036854775807) := by omega
            have EA := Lib.hid eA
            have EB := Lib.hid eB
            clear htk hb0 h13' eA eB hex
            go_wp2
            go_roundg (d.length - (i + 1))
            case measure => omega
            case rel => exact ⟨i + 1, by go_num, rfl, by omega, by rw [EA.out], by rw [EB.out], H13'.out, HBel.out⟩
      · have hie : d.take i = d := List.take_of_length_le (by omega)
        have hge : ((bs d).size : Int) ≤ (i : Int) := by omega
        have h13 := H13.out
        rw [hie] at h13 ⊢
        have hbel := HBel.out
        have hT : ∀ (e : List UInt8), K.tokens e = K.tokens d → e.length ≤ 4000 → ∀ W, Below w.heap.size w W → Calls Tryz.prog 9 #[.string (bs e)] W (TokRet (K.tokens d) W) := by
          intro e he hl W hW
          rw [← he]
          exact tokens_any e (by omega) W (HLow.out.below hW h12) (by have := hW.size; omega)
        have hlA := tl_length [13] (by decide) d
        have hlB := tl_length [13, 10] (by decide) d
        have t0 := hT d rfl (by omega)
        have t1 := hT (tl [13] d) (tokens_tl (.inl rfl) h13 (by omega)) (by omega)
        have t2 := hT (tl [13, 10] d) (tokens_tl (.inr rfl) h13 (by omega)) (by omega)
        clear hT
        cases hK : K.tokens d with
        | error er =>
          rw [hK] at t0 t1 t2
          have htl : ∀ fb W, Below w.heap.size w W → FaultAt fb er W → Calls Tryz.prog 11 #[.iface 45 (.pointer (some ⟨fb, 0, none⟩))] W fun e w' => e = .returned (tellVal er.1 er.2) ∧ Below W.heap.size W w' :=
            fun fb W hW hf => tell_fault fb er W hf (HLow.out.below hW h12) (by have := hW.size; omega)
          have hsm : ∀ W, Calls Tryz.prog 12 #[.slice none 0 0, .slice none 0 0, .bool true] W fun e w' => e = .returned (.bool true) ∧ Below W.heap.size W w' :=
            fun W => same_any true [] [] (SameL.refl _ _) _ _ W (.inl ⟨rfl, rfl⟩) (.inl ⟨rfl, rfl⟩)
          have T0 := Lib.hid t0
          have T1 := Lib.hid t1
          have T2 := Lib.hid t2
          have TL := Lib.hid htl
          have SM := Lib.hid hsm
          have HW := HBel
          have k0 := T0.out _ hbel
          clear t0 t1 t2 htl hsm hbel hK h13
          go_wp2_with (first
            | (go_at_call 9; first
              | ((with_reducible refine k0.mono ?_); rintro e w2 ⟨f0, rfl, hf0, hb2⟩; have W2 := Lib.hid (HW.out.trans (hb2.mono HW.out.size)); have F0 := Lib.hid hf0; have k1 := T1.out _ W2.out; clear hf0 hb2)
              | ((with_reducible refine k1.mono ?_); rintro e w3 ⟨f1, rfl, hf1, hb3⟩; have W3 := Lib.hid (W2.out.trans (hb3.mono W2.out.size)); have F1 := Lib.hid hf1; have F0b := Lib.hid (show FaultAt f0 er w3 from Below.keep hb3 F0.out); have k2 := T2.out _ W3.out; clear hf1 hb3)
              | ((with_reducible refine k2.mono ?_); rintro e w4 ⟨f2, rfl, hf2, hb4⟩; have W4 := Lib.hid (W3.out.trans (hb4.mono W3.out.size)); have F0c := Lib.hid (show FaultAt f0 er w4 from Below.keep hb4 F0b.out); have F1c := Lib.hid (show FaultAt f1 er w4 from Below.keep hb4 F1.out); have F2c := Lib.hid hf2; have k3 := TL.out f0 _ W4.out F0c.out; clear hf2 hb4))
            | (go_at_call 11; first
              | ((with_reducible refine k3.mono ?_); rintro e w5 ⟨rfl, hb5⟩; have hal := (Below.refl w5.heap.size w5).alloc (Nat.le_refl _) (.cells #[.int .i64 (er.2.1 : Int), .int .i64 (er.2.2 : Int)] 29); have W5 := Lib.hid (W4.out.trans ((hb5.trans (hal.mono hb5.size)).mono W4.out.size)); have G5 := Lib.hid (hb5.trans (hal.mono hb5.size)); have A1 := Lib.hid (heap_new w5 (.cells #[.int .i64 (er.2.1 : Int), .int .i64 (er.2.2 : Int)] 29)); have F1d : FaultAt f1 er _ := Below.keep G5.out F1c.out; have F2d := Lib.hid (show FaultAt f2 er _ from Below.keep G5.out F2c.out); have k4 := TL.out f1 _ W5.out F1d; clear F1d; clear hb5 hal)
              | ((with_reducible refine k4.mono ?_); rintro e w6 ⟨rfl, hb6⟩; have hal := (Below.refl w6.heap.size w6).alloc (Nat.le_refl _) (.cells #[.int .i64 (er.2.1 : Int), .int .i64 (er.2.2 : Int)] 29); have W6 := Lib.hid (W5.out.trans ((hb6.trans (hal.mono hb6.size)).mono W5.out.size)); have G6 := Lib.hid (hb6.trans (hal.mono hb6.size)); have A2 := Lib.hid (heap_new w6 (.cells #[.int .i64 (er.2.1 : Int), .int .i64 (er.2.2 : Int)] 29)); have A1b := Lib.hid (Below.keep G6.out A1.out); have F2e : FaultAt f2 er _ := Below.keep G6.out F2d.out; have k5 := TL.out f2 _ W6.out F2e; clear F2e; clear hb6 hal)
              | ((with_reducible refine k5.mono ?_); rintro e w7 ⟨rfl, hb7⟩; have hal := (Below.refl w7.heap.size w7).alloc (Nat.le_refl _) (.cells #[.int .i64 (er.2.1 : Int), .int .i64 (er.2.2 : Int)] 29); have W7 := Lib.hid (W6.out.trans ((hb7.trans (hal.mono hb7.size)).mono W6.out.size)); have G7 := Lib.hid (hb7.trans (hal.mono hb7.size)); have A3 := Lib.hid (heap_new w7 (.cells #[.int .i64 (er.2.1 : Int), .int .i64 (er.2.2 : Int)] 29)); have A1c := Lib.hid (Below.keep G7.out A1b.out); have A2c := Lib.hid (Below.keep G7.out A2.out); have k6 := SM.out (w7.alloc (.cells #[.int .i64 (er.2.1 : Int), .int .i64 (er.2.2 : Int)] 29)); clear hb7 hal))
            | (go_at_call 12; first
              | ((with_reducible refine k6.mono ?_); rintro e w8 ⟨rfl, hb8⟩; have W8 := Lib.hid (W7.out.trans (hb8.mono W7.out.size)); have A1d := Lib.hid (Below.keep hb8 A1c.out); have A2d := Lib.hid (Below.keep hb8 A2c.out); have A3d := Lib.hid (Below.keep hb8 A3.out); have k7 := SM.out w8; clear hb8)
              | ((with_reducible refine k7.mono ?_); rintro e w9 ⟨rfl, hb9⟩; have W9 := Lib.hid (W8.out.trans (hb9.mono W8.out.size)); have a1 := Below.keep hb9 A1d.out; have a2 := Below.keep hb9 A2d.out; have a3 := Below.keep hb9 A3d.out; obtain ⟨x0, x1⟩ := place_cells a1; obtain ⟨y0, y1⟩ := place_cells a2; obtain ⟨z0, z1⟩ := place_cells a3; clear hb9 a1 a2 a3)))
          go_ret
          exact ⟨rfl, W9.out⟩
        | ok toks =>
          rw [hK] at t0 t1 t2
          have T0 := Lib.hid t0
          have T1 := Lib.hid t1
          have T2 := Lib.hid t2
          have HW := HBel
          have k0 := T0.out _ hbel
          clear t0 t1 t2 hbel hK h13
          go_wp2_with (first
            | (go_at_call 9; first
              | ((with_reducible refine k0.mono ?_); rintro e w2 ⟨lv0, rfl, hL0, hb2⟩; have W2 := Lib.hid (HW.out.trans (hb2.mono HW.out.size)); obtain ⟨p0, n0, c0, rfl⟩ := hL0.slice; have L0 := Lib.hid (list_in hL0); have k1 := T1.out _ W2.out; clear hL0 hb2)
              | ((with_reducible refine k1.mono ?_); rintro e w3 ⟨lv1, rfl, hL1, hb3⟩; have W3 := Lib.hid (W2.out.trans (hb3.mono W2.out.size)); obtain ⟨p1, n1, c1, rfl⟩ := hL1.slice; have L1 := Lib.hid (list_in hL1); have L0b := Lib.hid (L0.out.bel hb3); have k2 := T2.out _ W3.out; clear hL1 hb3)
              | ((with_reducible refine k2.mono ?_); rintro e w4 ⟨lv2, rfl, hL2, hb4⟩; have W4 := Lib.hid (W3.out.trans (hb4.mono W3.out.size)); obtain ⟨p2, n2, c2, rfl⟩ := hL2.slice; have L2 := Lib.hid (list_in hL2); have L0c := Lib.hid (L0b.out.bel hb4); have L1c := Lib.hid (L1.out.bel hb4); have k3 := tell_nil w4; clear hL2 hb4))
            | (go_at_call 11; first
              | ((with_reducible refine k3.mono ?_); rintro e w5 ⟨rfl, hb5⟩; have hal := (Below.refl w5.heap.size w5).alloc (Nat.le_refl _) (.cells #[.int .i64 0, .int .i64 0] 29); have W5 := Lib.hid (W4.out.trans ((hb5.trans (hal.mono hb5.size)).mono W4.out.size)); have G5 := Lib.hid (hb5.trans (hal.mono hb5.size)); have A1 := Lib.hid (heap_new w5 (.cells #[.int .i64 0, .int .i64 0] 29)); have L0d := Lib.hid (L0c.out.bel G5.out); have L1d := Lib.hid (L1c.out.bel G5.out); have L2d := Lib.hid (L2.out.bel G5.out); have k4 := tell_nil (w5.alloc (.cells #[.int .i64 0, .int .i64 0] 29)); clear hb5 hal)
              | ((with_reducible refine k4.mono ?_); rintro e w6 ⟨rfl, hb6⟩; have hal := (Below.refl w6.heap.size w6).alloc (Nat.le_refl _) (.cells #[.int .i64 0, .int .i64 0] 29); have W6 := Lib.hid (W5.out.trans ((hb6.trans (hal.mono hb6.size)).mono W5.out.size)); have G6 := Lib.hid (hb6.trans (hal.mono hb6.size)); have A2 := Lib.hid (heap_new w6 (.cells #[.int .i64 0, .int .i64 0] 29)); have A1b := Lib.hid (Below.keep G6.out A1.out); have L0e := Lib.hid (L0d.out.bel G6.out); have L1e := Lib.hid (L1d.out.bel G6.out); have L2e := Lib.hid (L2d.out.bel G6.out); have k5 := tell_nil (w6.alloc (.cells #[.int .i64 0, .int .i64 0] 29)); clear hb6 hal)
              | ((with_reducible refine k5.mono ?_); rintro e w7 ⟨rfl, hb7⟩; have hal := (Below.refl w7.heap.size w7).alloc (Nat.le_refl _) (.cells #[.int .i64 0, .int .i64 0] 29); have W7 := Lib.hid (W6.out.trans ((hb7.trans (hal.mono hb7.size)).mono W6.out.size)); have G7 := Lib.hid (hb7.trans (hal.mono hb7.size)); have A3 := Lib.hid (heap_new w7 (.cells #[.int .i64 0, .int .i64 0] 29)); have A1c := Lib.hid (Below.keep G7.out A1b.out); have A2c := Lib.hid (Below.keep G7.out A2.out); have L0f := Lib.hid (L0e.out.bel G7.out); have L1f := Lib.hid (L1e.out.bel G7.out); have L2f := Lib.hid (L2e.out.bel G7.out); have k6 := same_any true toks toks (SameL.refl _ _) _ _ (w7.alloc (.cells #[.int .i64 0, .int .i64 0] 29)) L0f.out L1f.out; clear hb7 hal))
            | (go_at_call 12; first
              | ((with_reducible refine k6.mono ?_); rintro e w8 ⟨rfl, hb8⟩; have W8 := Lib.hid (W7.out.trans (hb8.mono W7.out.size)); have A1d := Lib.hid (Below.keep hb8 A1c.out); have A2d := Lib.hid (Below.keep hb8 A2c.out); have A3d := Lib.hid (Below.keep hb8 A3.out); have k7 := same_any true toks toks (SameL.refl _ _) _ _ w8 (L0f.out.bel hb8) (L2f.out.bel hb8); clear hb8)
              | ((with_reducible refine k7.mono ?_); rintro e w9 ⟨rfl, hb9⟩; have W9 := Lib.hid (W8.out.trans (hb9.mono W8.out.size)); have a1 := Below.keep hb9 A1d.out; have a2 := Below.keep hb9 A2d.out; have a3 := Below.keep hb9 A3d.out; obtain ⟨x0, x1⟩ := place_cells a1; obtain ⟨y0, y1⟩ := place_cells a2; obtain ⟨z0, z1⟩ := place_cells a3; clear hb9 a1 a2 a3)))
          go_ret
          exact ⟨rfl, W9.out⟩
end Go.Proofs.YtdilngjolhmjnaaGreatDoor
