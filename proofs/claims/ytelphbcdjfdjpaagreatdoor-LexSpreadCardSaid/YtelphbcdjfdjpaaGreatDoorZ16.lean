/- What stands ahead of a lexeme: the reader's gap. Conditions: those that each theorem names. How many bytes a lexeme has: one at least, and no more than there are. No program. -/
import Derived.Test.YtelphbcdjfdjpaaGreatDoorZ15
import Derived.Test.YtelphbcdjfdjpaaGreatDoorZ14
namespace Go.Proofs.YtelphbcdjfdjpaaGreatDoor
open Go.RowKit Go.Shelf
set_option linter.all false

theorem gap_step (f : Nat) (l : List UInt8) (ln : Bool) : X.gapF (f + 1) l ln =
    if [47, 47].isPrefixOf l then (if (X.short l).2 then ((X.short l).1 + (X.gapF f (l.drop (X.short l).1) ln).1, (X.gapF f (l.drop (X.short l).1) ln).2) else ((X.short l).1, ln, false))
    else if [47, 42].isPrefixOf l then (match X.long l with
      | none => (0, ln, false)
      | some (n, b) => (n + (X.gapF f (l.drop n) (ln || b)).1, (X.gapF f (l.drop n) (ln || b)).2))
    else if (U.dec l).2 ≠ 0 ∧ (X.blank (U.dec l).1 = true ∨ X.ends (U.dec l).1 = true) then ((U.dec l).2 + (X.gapF f (l.drop (U.dec l).2) (ln || X.ends (U.dec l).1)).1, (X.gapF f (l.drop (U.dec l).2) (ln || X.ends (U.dec l).1)).2)
    else (0, ln, true) := rfl
theorem shortF_le : ∀ (f : Nat) (l : List UInt8), (X.shortF f l).1 ≤ l.length
  | 0, _ => Nat.zero_le _
  | f + 1, l => by
    have hle := U.dec_le l
    have ih := shortF_le f (l.drop (U.dec l).2)
    rw [List.length_drop] at ih
    rw [short_step]
    split
    · exact Nat.zero_le _
    · split
      · exact Nat.zero_le _
      · split
        · exact Nat.zero_le _
        · simp only; omega
theorem short_pos (l : List UInt8) (h : [47, 47].isPrefixOf l = true) : 1 ≤ (X.short l).1 := by
  obtain ⟨t, rfl⟩ := List.isPrefixOf_iff_prefix.1 h
  have hd : U.dec ([47, 47] ++ t) = (47, 1) := U.dec_ascii ([47, 47] ++ t) (by simp) (show (47 : UInt8).toNat < 128 by decide)
  have hl : ([47, 47] ++ t).length = t.length + 1 + 1 := by simp
  have he : X.ends 47 = false := rfl
  unfold X.short
  rw [hl, short_step, if_neg (by simp), hd, if_neg (by decide), he]
  simp only [Bool.false_eq_true, if_false]
  omega
theorem long_some {l : List UInt8} {n : Nat} {bl : Bool} (h : X.long l = some (n, bl)) : 4 ≤ n ∧ n ≤ l.length := by
  unfold X.long at h
  have hr := fun k => index_room (l.drop 2) [42, 47] k
  cases hi : Lib.index (l.drop 2) [42, 47] with
  | negSucc k => rw [hi] at h; cases h
  | ofNat k =>
    rw [hi] at h
    have h2 : k + 2 ≤ (l.drop 2).length := hr k hi
    rw [List.length_drop] at h2
    simp only at h
    cases hl : X.linesF k k (l.drop 2) with
    | none => rw [hl] at h; cases h
    | some b =>
      rw [hl] at h
      simp only [Option.map_some, Option.some.injEq, Prod.mk.injEq] at h
      omega

/-- What gap leaves. -/
def GapRet (N b : Nat) (s : List UInt8) (p : Nat) (lv : Value) (w : World) (r : Nat × Bool × Bool) (e : Ending) (w' : World) : Prop :=
  e = .returned (.bool r.2.2) ∧ Kept N b w w' ∧ p + r.1 ≤ s.length ∧ ∃ ln', (r.2.2 = true → ln' = r.2.1) ∧ Rdr b s (p + r.1) ln' lv w'

set_option maxHeartbeats 16000000 in
theorem gap_any (N b : Nat) (s : List UInt8) (hs : s.length ≤ 8192) (p : Nat) (hp : p ≤ s.length) (ln : Bool) (lv : Value) (w : World) (h : Rdr b s p ln lv w) (hl : Low N w) (hN : N ≤ b) :
    Calls Tryz.prog 19 #[.pointer (some ⟨b, 0, none⟩)] w (GapRet N b s p lv w (X.gap (s.drop p))) := by
  have hr : X.gap (s.drop p) = X.gapF ((s.drop p).length + 1) (s.drop p) false := rfl
  have hnx := fun i W (hW : Low N W) => nxt_any N (s.drop i) (by rw [List.length_drop]; omega) 0 (by omega) W hW
  have hpre : ∀ i (t : List UInt8) W, Calls Tryz.prog 38 #[.string (bs (s.drop i)), .string (bs t)] W fun e w' => e = .returned (.bool (t.isPrefixOf (s.drop i))) ∧ W = w' := by
    intro i t W
    refine (Tryz.strings_HasPrefix _ _ _).mono ?_
    rintro e w' ⟨rfl, rfl⟩
    exact ⟨rfl, rfl⟩
  have hsh := fun i (hi : i ≤ s.length) ln W hW hL => short_any N b s hs i hi ln lv W hW hL hN
  have hlo := fun i (hi : i + 2 ≤ s.length) ln W hW hL => long_any N b s hs i hi ln lv W hW hL hN
  have hlen : (s.drop p).length = s.length - p := List.length_drop
  obtain ⟨c0, c1, c2, c3⟩ := h.cells
  have f2 := h.free 2
  have Hst : Hid (Rdr b s (p + 0) false lv (w.setCell ⟨b, 2, none⟩ (.bool false)) ∧ Kept N b w (w.setCell ⟨b, 2, none⟩ (.bool false))) := ⟨h.setLine false, (show Kept N b w w from ⟨Bar.refl _ _, hl⟩).set hN 2 _⟩
  have HR := Lib.hid hr
  have HNX := Lib.hid hnx
  have HPRE := Lib.hid hpre
  have HSH := Lib.hid hsh
  have HLO := Lib.hid hlo
  have HLEN := Lib.hid hlen
  have HSZ := Lib.hid (bs_size s)
  clear hr hnx hpre hsh hlo hlen h hl
  go_enter Tryz.func19, Tryz.ntmps19
  go_wp2
  go_loopg [6] (s.length - p) (fun g _ wr => ∃ (j f : Nat) (lj : Bool), p + j + g = s.length ∧ Rdr b s (p + j) lj lv wr ∧ Kept N b w wr ∧ g + 1 ≤ f ∧
    Hid (X.gapF ((s.drop p).length + 1) (s.drop p) false = (j + (X.gapF f (s.drop (p + j)) lj).1, (X.gapF f (s.drop (p + j)) lj).2)))
  case atStart =>
    refine ⟨0, (s.drop p).length + 1, false, by omega, Hst.out.1, Hst.out.2, by rw [HLEN.out]; exact Nat.le_refl _, ?_⟩
    show _ = _
    simp
  case round =>
    obtain ⟨j, f, lj, hjg, hrd, hkp, hf, hh⟩ := hrel
    obtain ⟨q, hq⟩ : ∃ q, p + j = q := ⟨_, rfl⟩
    rw [hq] at hrd hh hjg
    obtain ⟨c0, c1, c2, c3⟩ := hrd.cells
    have hqS : (q : Int) ≤ ((bs s).size : Int) := by rw [HSZ.out]; omega
    have hqz : q ≤ 8192 := by omega
    have hex : (bs s).extract q (bs s).size = bs (s.drop q) := bs_drop s q
    have HRD := Lib.hid hrd
    have HKP := Lib.hid hkp
    have HQ := Lib.hid hq
    clear hrd hkp hq
    go_wp2
    go_quiet (fail)
    generalize hWW : wr.drewN _ = W1
    have hb0 : Below wr.heap.size wr W1 := by rw [← hWW]; exact below_drewN (Below.refl _ _) _
    have hrd1 := HRD.out.bel hb0
    have hkp1 := HKP.out.bel hb0
    clear hWW hb0 c0 c1 c2 c3 HRD HKP
    have hnx := HNX.out q W1 hkp1.low
    rw [List.drop_zero] at hnx
    have hp1 := HPRE.out q [47, 47]
    have hp2 := HPRE.out q [47, 42]
    have HRD := Lib.hid hrd1
    have HKP := Lib.hid hkp1
    clear hrd1 hkp1
    have hbl := isBlank_any (U.dec (s.drop q)).1 (dec_lt _)
    have hed := isLineEnd_any (U.dec (s.drop q)).1 (dec_lt _)
    have hle := U.dec_le (s.drop q)
    rw [List.length_drop] at hle
    have hsh := HSH.out q (by omega) lj
    have hlo := fun h2 => HLO.out q h2 lj
    have hsp := short_pos (s.drop q)
    have hsle := shortF_le (s.drop q).length (s.drop q)
    have hsle : (X.short (s.drop q)).1 ≤ s.length - q := by rw [← List.length_drop]; exact hsle
    have hlsome := fun n bl => @long_some (s.drop q) n bl
    rw [List.length_drop] at hlsome
    have hl2 : List.isPrefixOf [47, 42] (s.drop q) = true → q + 2 ≤ s.length := by
      intro h
      have := (List.isPrefixOf_iff_prefix.1 h).length_le
      rw [List.length_drop] at this
      simp only [List.length_cons, List.length_nil] at this
      omega
    obtain ⟨f, rfl⟩ : ∃ f', f = f' + 1 := ⟨f - 1, by omega⟩
    have hh2 := hh.out
    rw [gap_step f (s.drop q) lj] at hh2
    simp only [List.drop_drop] at hh2
    have HH := Lib.hid hh2
    clear hh2 hh hex
    generalize X.short (s.drop q) = sh at hsh hsp hsle HH
    generalize X.long (s.drop q) = lo at hlo hlsome HH
    generalize List.isPrefixOf [47, 47] (s.drop q) = pp1 at hp1 hsp HH
    generalize List.isPrefixOf [47, 42] (s.drop q) = pp2 at hp2 hl2 HH
    generalize X.blank (U.dec (s.drop q)).1 = bl at hbl HH
    generalize X.ends (U.dec (s.drop q)).1 = en at hed HH
    generalize U.dec (s.drop q) = d at hnx hbl hed hle HH
    obtain ⟨c, n⟩ := d
    simp only at hnx hbl hed hle
    generalize bs (s.drop q) = L at hnx hp1 hp2 ⊢
    have hnx : Calls Tryz.prog 37 #[.string L, .int .i64 0] W1 fun e w' => e = .returned (.tuple #[.int .i64 (c : Int), .int .i64 (n : Int), .bool (decide (n ≠ 0))]) ∧ Below W1.heap.size W1 w' := hnx
    generalize hnz : decide (n ≠ 0) = nz at hnx
    have HNZ := Lib.hid hnz
    clear hnz
    have hp1 : ∀ W, Calls Tryz.prog 38 #[.string L, .string ⟨#[47, 47]⟩] W fun e w' => e = .returned (.bool pp1) ∧ W = w' := hp1
    have hp2 : ∀ W, Calls Tryz.prog 38 #[.string L, .string ⟨#[47, 42]⟩] W fun e w' => e = .returned (.bool pp2) ∧ W = w' := hp2
    cases pp1 with
    | true =>
      have hsp := hsp rfl
      have hsh := fun W hW hL => hsh W hW hL
      obtain ⟨sn, sok⟩ := sh
      simp only at hsh hsp hsle
      clear hbl hed hlo hlsome hp2 hl2
      cases sok with
      | true =>
        go_wp2_with (first
          | (go_at_call 37; refine hnx.mono ?_; rintro e w1 ⟨rfl, hb1⟩; have hrd1 := HRD.out.bel hb1; have hkp1 := HKP.out.bel hb1; have HRD1 := Lib.hid hrd1; have HKP1 := Lib.hid hkp1; clear hb1 hrd1 hkp1)
          | (go_at_call 38; first | ((with_reducible refine (hp1 _).mono ?_); rintro e w' ⟨rfl, rfl⟩) | ((with_reducible refine (hp2 _).mono ?_); rintro e w' ⟨rfl, rfl⟩))
          | (go_at_call 39; refine (hsh _ HRD1.out HKP1.out.low).mono ?_; rintro e w2 ⟨rfl, hrd2, hkp2⟩; have HRD2 := Lib.hid hrd2; have HKP2 := Lib.hid hkp2; clear hrd2 hkp2))
        go_roundg (s.length - (q + sn))
        case measure => omega
        case rel =>
          refine ⟨j + sn, f, lj, by have := HQ.out; omega, by rw [← Nat.add_assoc, HQ.out]; exact HRD2.out, ⟨HKP1.out.bar.trans HKP2.out.bar, HKP2.out.low⟩, by omega, ?_⟩
          show _ = _
          rw [HH.out]
          simp only [if_true]
          rw [← Nat.add_assoc p, HQ.out, Nat.add_assoc]
      | false =>
        go_wp2_with (first
          | (go_at_call 37; refine hnx.mono ?_; rintro e w1 ⟨rfl, hb1⟩; have hrd1 := HRD.out.bel hb1; have hkp1 := HKP.out.bel hb1; have HRD1 := Lib.hid hrd1; have HKP1 := Lib.hid hkp1; clear hb1 hrd1 hkp1)
          | (go_at_call 38; first | ((with_reducible refine (hp1 _).mono ?_); rintro e w' ⟨rfl, rfl⟩) | ((with_reducible refine (hp2 _).mono ?_); rintro e w' ⟨rfl, rfl⟩))
          | (go_at_call 39; refine (hsh _ HRD1.out HKP1.out.low).mono ?_; rintro e w2 ⟨rfl, hrd2, hkp2⟩; have HRD2 := Lib.hid hrd2; have HKP2 := Lib.hid hkp2; clear hrd2 hkp2))
        go_ret
        have e : X.gap (s.drop p) = (j + sn, lj, false) := by rw [HR.out, HH.out]; simp
        rw [e]
        exact ⟨rfl, ⟨HKP1.out.bar.trans HKP2.out.bar, HKP2.out.low⟩, by have := HQ.out; simp only; omega, lj, (fun h => by cases h), by simp only; rw [← Nat.add_assoc, HQ.out]; exact HRD2.out⟩
    | false =>
      clear hsh hsp hsle
      cases pp2 with
      | true =>
        have hlo := hlo (hl2 rfl)
        clear hbl hed hl2
        cases lo with
        | none =>
          go_wp2_with (first
            | (go_at_call 37; refine hnx.mono ?_; rintro e w1 ⟨rfl, hb1⟩; have hrd1 := HRD.out.bel hb1; have hkp1 := HKP.out.bel hb1; have HRD1 := Lib.hid hrd1; have HKP1 := Lib.hid hkp1; clear hb1 hrd1 hkp1)
            | (go_at_call 38; first | ((with_reducible refine (hp1 _).mono ?_); rintro e w' ⟨rfl, rfl⟩) | ((with_reducible refine (hp2 _).mono ?_); rintro e w' ⟨rfl, rfl⟩))
            | (go_at_call 40; refine (hlo _ HRD1.out HKP1.out.low).mono ?_; rintro e w2 ⟨hkp2, rfl, ln2, hrd2⟩; have HRD2 := Lib.hid hrd2; have HKP2 := Lib.hid hkp2; clear hrd2 hkp2))
          go_ret
          have e : X.gap (s.drop p) = (j + 0, lj, false) := by rw [HR.out, HH.out]; simp
          rw [e]
          exact ⟨rfl, ⟨HKP1.out.bar.trans HKP2.out.bar, HKP2.out.low⟩, by have := HQ.out; simp only; omega, ln2, (fun h => by cases h), by simp only; rw [Nat.add_zero, HQ.out]; exact HRD2.out⟩
        | some r =>
          obtain ⟨rn, rb⟩ := r
          obtain ⟨r1, r2⟩ := hlsome rn rb rfl
          clear hlsome
          go_wp2_with (first
            | (go_at_call 37; refine hnx.mono ?_; rintro e w1 ⟨rfl, hb1⟩; have hrd1 := HRD.out.bel hb1; have hkp1 := HKP.out.bel hb1; have HRD1 := Lib.hid hrd1; have HKP1 := Lib.hid hkp1; clear hb1 hrd1 hkp1)
            | (go_at_call 38; first | ((with_reducible refine (hp1 _).mono ?_); rintro e w' ⟨rfl, rfl⟩) | ((with_reducible refine (hp2 _).mono ?_); rintro e w' ⟨rfl, rfl⟩))
            | (go_at_call 40; refine (hlo _ HRD1.out HKP1.out.low).mono ?_; rintro e w2 ⟨hkp2, rfl, hrd2⟩; have HRD2 := Lib.hid hrd2; have HKP2 := Lib.hid hkp2; clear hrd2 hkp2))
          go_roundg (s.length - (q + rn))
          case measure => omega
          case rel =>
            refine ⟨j + rn, f, lj || rb, by have := HQ.out; omega, by rw [← Nat.add_assoc, HQ.out]; exact HRD2.out, ⟨HKP1.out.bar.trans HKP2.out.bar, HKP2.out.low⟩, by omega, ?_⟩
            show _ = _
            rw [HH.out]
            simp only [Bool.false_eq_true, if_false, if_true]
            rw [← Nat.add_assoc p, HQ.out, Nat.add_assoc]
      | false =>
        clear hlo hlsome hl2
        by_cases hcont : n ≠ 0 ∧ (bl = true ∨ en = true)
        · obtain ⟨hn0, hbe⟩ := hcont
          have hnz : nz = true := by rw [← HNZ.out]; exact decide_eq_true hn0
          subst hnz
          have HC : Hid (n ≠ 0 ∧ (bl = true ∨ en = true)) := ⟨hn0, hbe⟩
          have hn64 : n ≤ 8192 := by omega
          have hfin : ∀ W, Rdr b s (q + n) (lj || en) lv W → Kept N b w W → (∃ (j f : Nat) (lj : Bool), p + j + (s.length - (q + n)) = s.length ∧ Rdr b s (p + j) lj lv W ∧ Kept N b w W ∧ (s.length - (q + n)) + 1 ≤ f ∧
              Hid (X.gapF ((s.drop p).length + 1) (s.drop p) false = (j + (X.gapF f (s.drop (p + j)) lj).1, (X.gapF f (s.drop (p + j)) lj).2))) := by
            intro W hW hK
            refine ⟨j + n, f, lj || en, by have := HQ.out; omega, by rw [← Nat.add_assoc, HQ.out]; exact hW, hK, by omega, ?_⟩
            show _ = _
            rw [HH.out]
            simp only [Bool.false_eq_true, if_false]
            rw [if_pos HC.out, ← Nat.add_assoc p, HQ.out, Nat.add_assoc]
          have HFIN := Lib.hid hfin
          have hno : ¬ (bl = false ∧ en = false) := by rintro ⟨rfl, rfl⟩; simp at hbe
          clear hbe hfin HC
          cases lj <;> cases bl <;> cases en
          all_goals first
            | (exact absurd ⟨rfl, rfl⟩ hno)
            | (
              go_wp2_with (first
                | (go_at_call 37; refine hnx.mono ?_; rintro e w1 ⟨rfl, hb1⟩; have hrd1 := HRD.out.bel hb1; have hkp1 := HKP.out.bel hb1; obtain ⟨d0, d1, d2, d3⟩ := hrd1.cells; have g1 := hrd1.free 1; have g2 := hrd1.free 2; have HRD1 := Lib.hid hrd1; have HKP1 := Lib.hid hkp1; clear hb1 hrd1 hkp1)
                | (go_at_call 38; first | ((with_reducible refine (hp1 _).mono ?_); rintro e w' ⟨rfl, rfl⟩) | ((with_reducible refine (hp2 _).mono ?_); rintro e w' ⟨rfl, rfl⟩))
                | (go_at_call 41; refine (hbl _).mono ?_; rintro e w' ⟨rfl, rfl⟩)
                | (go_at_call 42; refine (hed _).mono ?_; rintro e w' ⟨rfl, rfl⟩))
              go_roundg (s.length - (q + n))
              case measure => omega
              case rel => exact HFIN.out _ ((HRD1.out.setLine _).setAt _ _ (by omega)) ((HKP1.out.set hN 2 _).set hN 1 _))
        · have hdef : Hid (¬ (n ≠ 0 ∧ (bl = true ∨ en = true))) := hcont
          by_cases hn0 : n = 0
          · have hnz : nz = false := by rw [← HNZ.out]; simp [hn0]
            subst hnz
            clear hbl hed hcont
            go_wp2_with (first
              | (go_at_call 37; refine hnx.mono ?_; rintro e w1 ⟨rfl, hb1⟩; have hrd1 := HRD.out.bel hb1; have hkp1 := HKP.out.bel hb1; have HRD1 := Lib.hid hrd1; have HKP1 := Lib.hid hkp1; clear hb1 hrd1 hkp1)
              | (go_at_call 38; first | ((with_reducible refine (hp1 _).mono ?_); rintro e w' ⟨rfl, rfl⟩) | ((with_reducible refine (hp2 _).mono ?_); rintro e w' ⟨rfl, rfl⟩))
              | fail)
            go_ret
            have e : X.gap (s.drop p) = (j + 0, lj, true) := by rw [HR.out, HH.out]; simp only [Bool.false_eq_true, if_false]; rw [if_neg hdef.out]
            rw [e]
            exact ⟨rfl, HKP1.out, by have := HQ.out; simp only; omega, lj, (fun _ => rfl), by simp only; rw [Nat.add_zero, HQ.out]; exact HRD1.out⟩
          · have hnz : nz = true := by rw [← HNZ.out]; exact decide_eq_true hn0
            have hb0 : bl = false := by cases bl with
              | false => rfl
              | true => exact absurd ⟨hn0, .inl rfl⟩ hcont
            have he0 : en = false := by cases en with
              | false => rfl
              | true => exact absurd ⟨hn0, .inr rfl⟩ hcont
            subst hnz hb0 he0
            clear hcont
            go_wp2_with (first
              | (go_at_call 37; refine hnx.mono ?_; rintro e w1 ⟨rfl, hb1⟩; have hrd1 := HRD.out.bel hb1; have hkp1 := HKP.out.bel hb1; have HRD1 := Lib.hid hrd1; have HKP1 := Lib.hid hkp1; clear hb1 hrd1 hkp1)
              | (go_at_call 38; first | ((with_reducible refine (hp1 _).mono ?_); rintro e w' ⟨rfl, rfl⟩) | ((with_reducible refine (hp2 _).mono ?_); rintro e w' ⟨rfl, rfl⟩))
              | (go_at_call 41; refine (hbl _).mono ?_; rintro e w' ⟨rfl, rfl⟩)
              | (go_at_call 42; refine (hed _).mono ?_; rintro e w' ⟨rfl, rfl⟩))
            go_ret
            have e : X.gap (s.drop p) = (j + 0, lj, true) := by rw [HR.out, HH.out]; simp
            rw [e]
            exact ⟨rfl, HKP1.out, by have := HQ.out; simp only; omega, lj, (fun _ => rfl), by simp only; rw [Nat.add_zero, HQ.out]; exact HRD1.out⟩
end Go.Proofs.YtelphbcdjfdjpaaGreatDoor
namespace Go.Proofs.YtelphbcdjfdjpaaGreatDoor
set_option linter.all false

theorem past_pos {p : Nat → Bool} {l : List UInt8} (h0 : 0 < l.length) (h : p (U.g l 0) = true) : 1 ≤ X.past p l := by
  cases l with
  | nil => simp at h0
  | cons b r =>
    have hb : p b.toNat = true := h
    unfold X.past
    rw [List.takeWhile_cons, if_pos hb]
    simp
theorem textF_le : ∀ (f q : Nat) (l : List UInt8) (u : List UInt8) (n : Nat), q ≠ 0 → X.textF f q l = some (u, n) → n ≤ l.length
  | 0, _, _, _, _, _, h => by cases h
  | f + 1, q, l, u, n, hq, h => by
    rw [text_step] at h
    split at h
    · rename_i hg
      simp only [Option.some.injEq, Prod.mk.injEq] at h
      have := g_pos (l := l) (i := 0) (by omega)
      omega
    · cases hs : X.said l with
      | none => rw [hs] at h; cases h
      | some r =>
        obtain ⟨u1, n1⟩ := r
        rw [hs] at h
        obtain ⟨_, h2, _⟩ := said_some hs
        simp only at h2
        cases ht : X.textF f q (l.drop n1) with
        | none => simp only [ht] at h; cases h
        | some r2 =>
          obtain ⟨u2, n2⟩ := r2
          simp only [ht, Option.map_some, Option.some.injEq, Prod.mk.injEq] at h
          have := textF_le f q (l.drop n1) u2 n2 hq ht
          rw [List.length_drop] at this
          omega
theorem longest_pre (l : List UInt8) : ∀ (ms : List (List UInt8)) (b : List UInt8), b.isPrefixOf l = true → (X.longest l ms b).isPrefixOf l = true
  | [], b, h => h
  | m :: r, b, h => by
    rw [longest_cons]
    refine longest_pre l r _ ?_
    split
    · rename_i hc; exact hc.2
    · exact h
theorem number_pos (l : List UInt8) (h0 : 0 < l.length) (h : U.g l 0 = 46 ∨ X.digit (U.g l 0) = true) : 1 ≤ X.numberSize l := by
  have hw : X.wholeSize l ≤ X.pointSize l := by
    unfold X.pointSize
    split
    · omega
    · exact Nat.le_refl _
  have hp : 1 ≤ X.pointSize l := by
    rcases h with h | h
    · have hz : X.wholeSize l = 0 := by
        unfold X.wholeSize
        rw [if_neg (by omega)]
        unfold X.past
        cases l with
        | nil => rfl
        | cons b r =>
          have hb : b.toNat = 46 := h
          rw [List.takeWhile_cons, if_neg (by rw [hb]; decide)]
          rfl
      unfold X.pointSize
      rw [hz, if_pos h]
      omega
    · have : 1 ≤ X.wholeSize l := by
        unfold X.wholeSize
        split
        · exact Nat.le_refl _
        · exact past_pos h0 h
      omega
  unfold X.numberSize
  split
  · omega
  · omega
theorem first_some {num : List UInt8 → Option Nat} {l : List UInt8} {k : Nat} {t : List UInt8} {v n : Nat} (h0 : 0 < l.length) (h : X.first num l = .yes k t v n) : 1 ≤ n ∧ n ≤ l.length := by
  have hmark : ∀ {k t v n}, X.mark l = .yes k t v n → 1 ≤ n ∧ n ≤ l.length := by
    intro k t v n h
    unfold X.mark at h
    split at h
    · cases h
    · rename_i hne
      simp only [X.Ans.yes.injEq] at h
      obtain ⟨_, _, _, rfl⟩ := h
      have := (List.isPrefixOf_iff_prefix.1 (longest_pre l X.marks [] (by simp))).length_le
      exact ⟨List.length_pos_iff.2 hne, this⟩
  unfold X.first at h
  split at h
  · rename_i ho
    unfold X.nameAns at h
    simp only [X.Ans.yes.injEq] at h
    obtain ⟨_, _, _, rfl⟩ := h
    exact ⟨past_pos h0 (by unfold X.goes; rw [ho]; rfl), past_le _ _⟩
  split at h
  · rename_i hq
    unfold X.text at h
    cases ht : X.textF l.length (U.g l 0) (l.drop 1) with
    | none => rw [ht] at h; cases h
    | some r =>
      obtain ⟨u, m⟩ := r
      rw [ht] at h
      simp only [X.Ans.yes.injEq] at h
      have := textF_le _ _ _ _ _ (by omega) ht
      rw [List.length_drop] at this
      omega
  split at h
  · exact hmark h
  split at h
  · rename_i hd
    unfold X.number at h
    split at h
    · cases h
    · split at h
      · cases h
      · simp only [X.Ans.yes.injEq] at h
        obtain ⟨_, _, _, rfl⟩ := h
        exact ⟨number_pos l h0 hd, number_le l h0⟩
  · exact hmark h
end Go.Proofs.YtelphbcdjfdjpaaGreatDoor
