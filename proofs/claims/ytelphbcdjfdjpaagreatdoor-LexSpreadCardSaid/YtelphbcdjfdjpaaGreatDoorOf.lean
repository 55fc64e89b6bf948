/- The statement LexSpread: blanks and remarks ahead of each lexeme change nothing but places and lines. Conditions: those that each theorem names. -/
import Derived.Test.YtelphbcdjfdjpaaGreatDoorOe
namespace Go.Proofs.YtelphbcdjfdjpaaGreatDoor
open Go.RowKit
set_option linter.all false

theorem pad_len : pad.length = 31 := rfl
theorem padTo_len (s : List UInt8) : ∀ (r : List X.Lx) (p : Nat), Stands s p r → p ≤ s.length → (padTo s p r).length + p ≤ s.length + 31 * r.length
  | [], p, _, hp => by
    show (s.drop p).length + p ≤ _
    rw [List.length_drop]
    simp only [List.length_nil]
    omega
  | x :: r, p, h, hp => by
    have ih := padTo_len s r x.place (stands_mono s r _ _ (by omega) h.2.2.2.2) (Nat.le_of_lt h.2.1)
    have h1 := h.1
    have h2 := h.2.1
    show ((s.drop p).take (x.place - p) ++ (pad ++ padTo s x.place r)).length + p ≤ _
    simp only [List.length_append, List.length_take, List.length_drop, List.length_cons, pad_len]
    omega
set_option maxHeartbeats 4000000 in
theorem law_spread_long (N : Nat) (s : List UInt8) (hs : 1000 < s.length) (hl : s.length ≤ 140737488355328) (w : World) (hw : Low N w) :
    Calls Tryz.prog 5 #[.string (bs s)] w fun e w' => e = .returned (.bool true) ∧ Below w.heap.size w w' := by
  have haw := awake_any N w hw
  have hsz := bs_size s
  have e1 : (1000 : Int) < ((bs s).size : Int) := by omega
  have e2 : (bs s).size ≤ 140737488355328 := by omega
  clear hw hsz hs hl
  generalize bs s = S at *
  go_enter Tryz.func5, Tryz.ntmps5
  go_wp2_with ((with_reducible refine haw.mono ?_); rintro e w1 ⟨rfl, hb1⟩)
  go_ret
  exact ⟨rfl, hb1⟩
set_option maxHeartbeats 4000000 in
theorem law_spread_fault (N : Nat) (s : List UInt8) (hs : s.length ≤ 1000) (p : Nat) (hp : X.lex numAll s = .fault p) (w : World) (hw : Low N w) :
    Calls Tryz.prog 5 #[.string (bs s)] w fun e w' => e = .returned (.bool true) ∧ Below w.heap.size w w' := by
  have haw := awake_any N w hw
  have hsz := bs_size s
  have hpl : p ≤ s.length := by have := fault_le numAll _ _ 0 p hp; omega
  have hA : ∀ W, Low N W → Calls Tryz.prog 10 #[.string (bs s)] W fun e w' => e = .returned (.tuple #[.slice none 0 0, .int .i64 (p : Int), .int .i64 50]) ∧ Below W.heap.size W w' := by
    intro W hW
    have := lex_all N s (by omega) W hW
    rw [hp] at this
    exact this
  have HW := Lib.hid hw
  have e1 : ¬ (1000 : Int) < ((bs s).size : Int) := by omega
  have e2 : (bs s).size ≤ 1000 := by omega
  have e3 : p ≤ (bs s).size := by omega
  have HA := Lib.hid hA
  clear hw hsz hs hA hp hpl
  generalize bs s = S at *
  go_enter Tryz.func5, Tryz.ntmps5
  go_wp2_with (first
    | ((with_reducible refine haw.mono ?_); rintro e w1 ⟨rfl, hb1⟩; have HB1 := Lib.hid hb1; have HL1 := Lib.hid (HW.out.bel hb1); clear hb1)
    | ((with_reducible refine (HA.out _ HL1.out).mono ?_); rintro e w2 ⟨rfl, hb2⟩; have HB2 := Lib.hid (HB1.out.trans (hb2.mono HB1.out.size)); clear hb2)
    | fail)
  go_ret
  exact ⟨rfl, HB2.out⟩
set_option maxHeartbeats 8000000 in
set_option maxRecDepth 100000 in
theorem law_spread_ok (N : Nat) (s : List UInt8) (hs : s.length ≤ 1000) (L : List X.Lx) (hp : X.lex numAll s = .ok L) (w : World) (hw : Low N w) :
    Calls Tryz.prog 5 #[.string (bs s)] w fun e w' => e = .returned (.bool true) ∧ Below w.heap.size w w' := by
  have haw := awake_any N w hw
  have hsz := bs_size s
  have hst := lexF_stands numAll s _ 0 L (show X.lexF numAll (s.length + 1) (s.drop 0) 0 = .ok L from hp)
  have hlex : ∀ (t : List UInt8) (L : List X.Lx), t.length ≤ 8192 → X.lex numAll t = .ok L → ∀ W, Low N W → Calls Tryz.prog 10 #[.string (bs t)] W fun e w' => (∃ p cap, e = .returned (.tuple #[.slice p L.length cap, .int .i64 0, .int .i64 0]) ∧ LxRow L p w') ∧ Below W.heap.size W w' := by
    intro t L ht hp W hW
    have := lex_all N t ht W hW
    rw [hp] at this
    refine this.mono ?_
    rintro e w' ⟨⟨lv, rfl, hls⟩, hb⟩
    obtain ⟨h1, p, cap, rfl, h2⟩ := hls.form
    exact ⟨⟨p, cap, rfl, h2⟩, hb⟩
  have hA := hlex s L (by omega) hp
  have hLn := stands_len s L 0 hst
  have hpd := padTo_len s L 0 hst (Nat.zero_le _)
  have HW := Lib.hid hw
  have HSZ := Lib.hid hsz
  have HST := Lib.hid hst
  have HLEX := Lib.hid hlex
  have HPD := Lib.hid hpd
  have HLN := Lib.hid hLn
  have HP := Lib.hid hp
  have e1 : ¬ (1000 : Int) < ((bs s).size : Int) := by omega
  have e2 : (bs s).size ≤ 1000 := by omega
  have HA := Lib.hid hA
  have HS := Lib.hid hs
  have hstore := store_float
  obtain ⟨S, hS⟩ : ∃ S, S = bs s := ⟨_, rfl⟩
  have HSS := Lib.hid hS
  rw [← hS] at e1 e2 HSZ HA ⊢
  clear hw hsz hs hA hp hst hS hlex hpd hLn
  go_enter Tryz.func5, Tryz.ntmps5
  go_wp2_with (first
    | ((with_reducible refine haw.mono ?_); rintro e w1 ⟨rfl, hb1⟩; have HB1 := Lib.hid hb1; have HL1 := Lib.hid (HW.out.bel hb1); clear hb1)
    | ((with_reducible refine (HA.out _ HL1.out).mono ?_); rintro e w2 ⟨⟨p1, cap1, rfl, hc1⟩, hb2⟩; have HC1 := Lib.hid hc1; have HB2 := Lib.hid (HB1.out.trans (hb2.mono HB1.out.size)); have HL2 := Lib.hid (HL1.out.bel hb2); clear hb2 hc1)
    | fail)
  obtain ⟨n, hn⟩ : ∃ n, n = L.length := ⟨_, rfl⟩
  rw [← hn]
  have HN := Lib.hid hn
  have hnm : n ≤ 1000 := by have := HS.out; have := HLN.out; omega
  clear hn
  go_loopg [6, 7, 9, 39] n (fun g v6 v7 v9 v39 wr => ∃ (k : Nat) (o : List UInt8) (p : Nat), k + g = n ∧ v39 = .int .i64 k ∧ v6 = .string (bs o) ∧ v7 = .int .i64 p ∧ o ++ padTo s p (L.drop k) = padTo s 0 L ∧ p ≤ s.length ∧ Stands s p (L.drop k) ∧ Below w2.heap.size w2 wr)
  case atStart => exact ⟨0, [], 0, by omega, rfl, rfl, rfl, rfl, Nat.zero_le _, HST.out, Below.refl _ _⟩
  case round =>
    obtain ⟨k, o, p, hk, rfl, rfl, rfl, hop, hps, hsd, hbr⟩ := hrel
    have HBR := Lib.hid hbr
    have HSD := Lib.hid hsd
    have HOP := Lib.hid hop
    by_cases hkn : k < n
    · have hkL : k < L.length := by rw [← HN.out]; exact hkn
      have hne : L ≠ [] := by
        intro e
        rw [e] at hkL
        simp at hkL
      obtain ⟨x, hx⟩ : ∃ x, L[k]? = some x := ⟨L[k], List.getElem?_eq_getElem _⟩
      have hdr : L.drop k = x :: L.drop (k + 1) := by
        rw [List.drop_eq_getElem_cons hkL]
        rw [List.getElem?_eq_getElem hkL] at hx
        cases hx
        rfl
      obtain ⟨g1, rfl, hx1⟩ := HC1.out hne
      obtain ⟨a0, a1, a2, a3, a4⟩ := hx1 wr hbr k x hx
      have hob : o.length ≤ 32000 := by
        have h1 := congrArg List.length hop
        rw [List.length_append] at h1
        have := HPD.out; have := HS.out; have := HN.out
        omega
      rw [hdr] at hop hsd
      have hpp : p ≤ x.place := hsd.1
      have hpl : x.place ≤ S.size := by rw [HSZ.out]; exact Nat.le_of_lt hsd.2.1
      have hpz : x.place ≤ s.length := Nat.le_of_lt hsd.2.1
      have hst2 := stands_mono s _ _ _ (Nat.le_trans (Nat.le_of_eq rfl) (Nat.le_add_right _ _)) hsd.2.2.2.2
      have nd1 : decide (x.place < p) = false := decide_eq_false (by omega)
      have nd2 : decide (S.size < x.place) = false := decide_eq_false (by omega)
      obtain ⟨E, hE⟩ : ∃ E, S.extract p x.place = E := ⟨_, rfl⟩
      have hEb : E = bs ((s.drop p).take (x.place - p)) := by rw [← hE, HSS.out, bs_extract]
      have hEs : E.size ≤ 1000 := by rw [hEb, bs_size, List.length_take, List.length_drop]; have := HS.out; omega
      have hOs : (bs o).size ≤ 32000 := by rw [bs_size]; exact hob
      have q1 : ¬ (E.size + 31 > 9223372036854775807) := by omega
      have q2 : ¬ ((bs o).size + (E.size + 31) > 9223372036854775807) := by omega
      have hcat : bs o ++ (E ++ ⟨#[32, 47, 42, 32, 97, 32, 42, 32, 98, 32, 42, 47, 32, 47, 47, 32, 99, 13, 10, 9, 226, 128, 168, 32, 47, 42, 32, 10, 32, 42, 47]⟩) = bs (o ++ ((s.drop p).take (x.place - p) ++ pad)) := by
        rw [hEb]
        show bs o ++ (bs _ ++ bs pad) = _
        rw [bs_app, bs_app]
      have hop2 : (o ++ ((s.drop p).take (x.place - p) ++ pad)) ++ padTo s x.place (L.drop (k + 1)) = padTo s 0 L := by
        rw [← hop]
        show _ = o ++ ((s.drop p).take (x.place - p) ++ (pad ++ padTo s x.place (L.drop (k + 1))))
        simp only [List.append_assoc]
      have HCAT := Lib.hid hcat
      have HOP2 := Lib.hid hop2
      have HST2 := Lib.hid hst2
      have k1 : (k : Int) < (n : Int) := by omega
      have k2 : IntKind.i64.wrap ((k : Int) + 1) = (k : Int) + 1 := IntWalk.i64_in _ (by omega)
      clear hop hop2 hsd hst2 hcat hdr hx hx1 hne hob hEb HOP HSD
      go_wp2
      go_roundg (n - (k + 1))
      case measure => omega
      case rel => exact ⟨k + 1, _, x.place, by omega, by go_num, by rw [HCAT.out], rfl, HOP2.out, hpz, HST2.out, HBR.out.alloc HBR.out.size _⟩
    · have hkk : ¬ (k : Int) < (n : Int) := by omega
      obtain rfl : k = n := by omega
      have hdn : L.drop k = [] := List.drop_eq_nil_of_le (by rw [← HN.out]; exact Nat.le_refl _)
      rw [hdn] at hop
      have hop : o ++ s.drop p = padTo s 0 L := hop
      have hob : o.length ≤ 32000 := by
        have h1 := congrArg List.length hop
        rw [List.length_append] at h1
        have := HPD.out; have := HS.out; have := HN.out
        omega
      have hOs : (bs o).size ≤ 32000 := by rw [bs_size]; exact hob
      have hpS : p ≤ S.size := by rw [HSZ.out]; exact hps
      obtain ⟨M, hM, hsame⟩ := pad_lex numAll s (s.length + 1) 0 L (by simp) HP.out ((padTo s 0 L ++ tailL).length + 1) 0 (Nat.lt_succ_self _)
      obtain ⟨E, hE⟩ : ∃ E, S.extract p S.size = E := ⟨_, rfl⟩
      have hEb : E = bs (s.drop p) := by rw [← hE, HSS.out, bs_drop]
      have hEs : E.size = S.size - p := by rw [hEb, bs_size, List.length_drop, HSZ.out]
      have hcat : (bs o ++ E) ++ ⟨#[10, 47, 47, 32, 101, 110, 100]⟩ = bs (padTo s 0 L ++ tailL) := by
        rw [hEb, bs_app, hop]
        show bs _ ++ bs tailL = _
        rw [bs_app]
      have hlen : (padTo s 0 L ++ tailL).length = (bs o).size + E.size + 7 := by
        rw [← hop, List.length_append, List.length_append, bs_size, hEb, bs_size]
        rfl
      have hB : (bs o).size + E.size + 7 ≤ 8192 → ∀ W, Low N W → Calls Tryz.prog 10 #[.string ((bs o ++ E) ++ ⟨#[10, 47, 47, 32, 101, 110, 100]⟩)] W fun e w' => (∃ p2 cap2, e = .returned (.tuple #[.slice p2 k cap2, .int .i64 0, .int .i64 0]) ∧ LxRow M p2 w') ∧ Below W.heap.size W w' := by
        intro hl W hW
        rw [hcat]
        have hk2 : k = M.length := by rw [HN.out]; exact hsame.count
        rw [hk2]
        exact HLEX.out _ M (by omega) hM W hW
      have hC : ∀ p2 c2 W, LxRow L p1 W → LxRow M p2 W → Calls Tryz.prog 12 #[.slice p1 k cap1, .slice p2 k c2, .bool false] W fun e w' => e = .returned (.bool true) ∧ Below W.heap.size W w' := by
        intro p2 c2 W hr1 hr2
        have h := refSame_any L M hsame (by rw [← HN.out]; omega) p1 p2 cap1 c2 W hr1 hr2
        rw [← hsame.count, ← HN.out] at h
        exact h
      have HB := Lib.hid hB
      have HC := Lib.hid hC
      have HSM := Lib.hid hsame
      have HLR := Lib.hid (HL2.out.bel hbr)
      have HR1 : Hid (LxRow L p1 wr) := Lib.hid fun hne => by
        obtain ⟨g, hg, h⟩ := HC1.out hne
        exact ⟨g, hg, fun w' hw => h w' (hbr.trans (hw.mono hbr.size))⟩
      have q3 : ¬ ((bs o).size + E.size > 9223372036854775807) := by omega
      have q4 : ¬ ((bs o).size + E.size + 7 > 9223372036854775807) := by omega
      have HES := Lib.hid hEs
      clear hop hsd hdn hob hcat hlen hEb hEs hB hC hsame hM HOP HSD HPD hbr
      generalize bs o = O at *
      by_cases hbig : O.size + S.size - p + 7 > 8192
      · have nd1 : (8192 : Int) < (O.size : Int) + (S.size : Int) - (p : Int) + 7 := by omega
        have w1 : IntKind.i64.wrap ((O.size : Int) + (S.size : Int)) = (O.size : Int) + (S.size : Int) := IntWalk.i64_in _ (by omega)
        have w2 : IntKind.i64.wrap ((O.size : Int) + (S.size : Int) - (p : Int)) = (O.size : Int) + (S.size : Int) - (p : Int) := IntWalk.i64_in _ (by omega)
        have w3 : IntKind.i64.wrap ((O.size : Int) + (S.size : Int) - (p : Int) + 7) = (O.size : Int) + (S.size : Int) - (p : Int) + 7 := IntWalk.i64_in _ (by omega)
        clear hbig
        go_wp2
        go_ret
        exact ⟨rfl, HB2.out.trans (HBR.out.mono HB2.out.size)⟩
      · have nd1 : ¬ ((8192 : Int) < (O.size : Int) + (S.size : Int) - (p : Int) + 7) := by omega
        have w1 : IntKind.i64.wrap ((O.size : Int) + (S.size : Int)) = (O.size : Int) + (S.size : Int) := IntWalk.i64_in _ (by omega)
        have w2 : IntKind.i64.wrap ((O.size : Int) + (S.size : Int) - (p : Int)) = (O.size : Int) + (S.size : Int) - (p : Int) := IntWalk.i64_in _ (by omega)
        have w3 : IntKind.i64.wrap ((O.size : Int) + (S.size : Int) - (p : Int) + 7) = (O.size : Int) + (S.size : Int) - (p : Int) + 7 := IntWalk.i64_in _ (by omega)
        have hsm : O.size + E.size + 7 ≤ 8192 := by rw [HES.out]; omega
        have HB' := Lib.hid (HB.out hsm)
        clear hbig HB
        go_wp2_with (first
          | ((with_reducible refine (HB'.out _ HLR.out).mono ?_); rintro e w4 ⟨⟨p2, cap2, rfl, hr2⟩, hb4⟩; have HR2 := Lib.hid hr2; have HB4 := Lib.hid (HB2.out.trans ((HBR.out.trans (hb4.mono HBR.out.size)).mono HB2.out.size)); have HR1' := Lib.hid (show LxRow L p1 w4 from fun hne => by
                obtain ⟨g, hg, h⟩ := HR1.out hne
                exact ⟨g, hg, fun w' hw => h w' (hb4.trans (hw.mono hb4.size))⟩); clear hr2 hb4)
          | ((with_reducible refine (HC.out p2 cap2 _ HR1'.out HR2.out).mono ?_); rintro e w5 ⟨rfl, hb5⟩; have HB5 := Lib.hid hb5; clear hb5)
          | fail)
        go_loopg [14, 95] k (fun g v14 v95 wz => ∃ i : Nat, i + g = k ∧ v95 = .int .i64 i ∧ Below w5.heap.size w5 wz)
        case atStart => exact ⟨0, by omega, rfl, Below.refl _ _⟩
        case round =>
          obtain ⟨i, hi, rfl, hbz⟩ := hrel
          have HBZ := Lib.hid hbz
          by_cases hik : i < k
          · obtain ⟨x, hx⟩ : ∃ x, L[i]? = some x := ⟨L[i]'(by rw [← HN.out]; exact hik), List.getElem?_eq_getElem _⟩
            obtain ⟨y, hy, -, -, -, hyl⟩ := HSM.out.at i x hx
            have hne : M ≠ [] := by
              intro e
              rw [e] at hy
              simp at hy
            obtain ⟨g2, rfl, h2⟩ := HR2.out hne
            obtain ⟨a0, a1, a2, a3, a4⟩ := h2 _ (HB5.out.trans (hbz.mono HB5.out.size)) i y hy
            rw [hyl] at a4
            have i1 : (i : Int) < (k : Int) := by omega
            have i2 : IntKind.i64.wrap ((i : Int) + 1) = (i : Int) + 1 := IntWalk.i64_in _ (by omega)
            clear hx hy hyl hne h2 hbz
            go_wp2
            go_roundg (k - (i + 1))
            case measure => omega
            case rel => exact ⟨i + 1, by omega, by go_num, HBZ.out.alloc HBZ.out.size _⟩
          · have hii : ¬ (i : Int) < (k : Int) := by omega
            go_wp2
            go_ret
            exact ⟨rfl, HB4.out.trans ((HB5.out.trans (HBZ.out.mono HB5.out.size)).mono HB4.out.size)⟩
theorem law_spread (N : Nat) (s : List UInt8) (hl : s.length ≤ 140737488355328) (w : World) (hw : Low N w) :
    Calls Tryz.prog 5 #[.string (bs s)] w fun e w' => e = .returned (.bool true) ∧ Below w.heap.size w w' := by
  by_cases h : s.length ≤ 1000
  · cases hO : X.lex numAll s with
    | unknown => exact absurd hO (lexF_known numAll_total _ _ _ (by omega))
    | fault p => exact law_spread_fault N s h p hO w hw
    | ok L => exact law_spread_ok N s h L hO w hw
  · exact law_spread_long N s (by omega) hl w hw
end Go.Proofs.YtelphbcdjfdjpaaGreatDoor
