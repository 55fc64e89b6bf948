/- eslex.Lex: a script's lexemes, or the place of its first fault. Conditions: those that each theorem names. -/
import Derived.Test.YthakjbmheoojeaaGreatDoorLi
namespace Go.Proofs.YthakjbmheoojeaaGreatDoor
open Go.RowKit Go.Shelf
set_option linter.all false

def prepend (d : List X.Lx) : X.Out → X.Out
  | .ok r => .ok (d ++ r)
  | o => o
theorem lexF_step (num : List UInt8 → Option Nat) (f : Nat) (l : List UInt8) (p : Nat) : X.lexF num (f + 1) l p =
    if (X.gap l).2.2 = false then .fault (p + (X.gap l).1)
    else if l.drop (X.gap l).1 = [] then .ok []
    else match X.first num (l.drop (X.gap l).1) with
      | .unknown => .unknown
      | .no => .fault (p + (X.gap l).1)
      | .yes k t v n => match X.lexF num f (l.drop ((X.gap l).1 + n)) (p + (X.gap l).1 + n) with
        | .ok r => .ok (⟨k, t, v, p + (X.gap l).1, (X.gap l).2.1⟩ :: r)
        | o => o := rfl

/-- What Lex leaves. -/
def LexOut (B : Nat) (w : World) (o : X.Out) (e : Ending) (w' : World) : Prop :=
  (match o with
    | .ok l => ∃ lv, e = .returned (.tuple #[lv, .int .i64 0, .int .i64 0]) ∧ Lst B l lv w'
    | .fault p => e = .returned (.tuple #[.slice none 0 0, .int .i64 (p : Int), .int .i64 50])
    | .unknown => True) ∧ Below B w w'

theorem Lst.bar {B : Nat} {l : List X.Lx} {lv : Value} {w w' : World} {s : List UInt8} {p : Nat} {ln : Bool} {v : Value} (h : Lst B l lv w) (k : Bar B w w') (hr : Rdr B s p ln v w) : Lst B l lv w' := by
  refine ⟨h.1, ?_⟩
  rcases h.2 with hn | ⟨g, cap, cur, hv, hg, hh, rest⟩
  · exact .inl hn
  · refine .inr ⟨g, cap, cur, hv, hg, k.keep ?_ hh, rest⟩
    intro e
    subst e
    rw [hr] at hh
    cases hh
theorem lex_long (s : List UInt8) (hs : 8192 < s.length) (hz : s.length ≤ 140737488355328) (w : World) :
    Calls Tryz.prog 10 #[.string (bs s)] w fun e w' => e = .returned (.tuple #[.slice none 0 0, .int .i64 0, .int .i64 2]) ∧ w = w' := by
  have hsz := bs_size s
  have h1 : (8192 : Int) < ((bs s).size : Int) := by omega
  have h2 : (bs s).size ≤ 140737488355328 := by omega
  clear hs hz hsz
  generalize bs s = S at h1 h2 ⊢
  go_enter Tryz.func10, Tryz.ntmps10
  go_wp2
  go_ret3
  exact ⟨rfl, rfl⟩

set_option maxHeartbeats 8000000 in
theorem lex_any (num : List UInt8 → Option Nat) (N : Nat) (hn : NumOk num N) (s : List UInt8) (hs : s.length ≤ 8192) (hk : X.lex num s ≠ .unknown) (w : World) (hl : Low N w) :
    Calls Tryz.prog 10 #[.string (bs s)] w (LexOut w.heap.size w (X.lex num s)) := by
  have hsz := bs_size s
  obtain ⟨B, hB⟩ : ∃ B, w.heap.size = B := ⟨_, rfl⟩
  have hNB : N ≤ B := by rw [← hB]; exact hl.size
  rw [hB]
  have hr : X.lex num s = X.lexF num (s.length + 1) s 0 := rfl
  have hlow : ∀ W, Below B w W → Low N W := fun W hW => hl.bel (by rw [hB]; exact hW)
  have hnew : (w.alloc (.cells #[.string (bs s), .int .i64 0, .bool false, .slice none 0 0] 38)).heap[B]? = some (.cells #[.string (bs s), .int .i64 0, .bool false, .slice none 0 0] 38 (0, 0)) := by
    rw [← hB]; exact heap_new w _
  have hst0 : Below B w (w.alloc (.cells #[.string (bs s), .int .i64 0, .bool false, .slice none 0 0] 38)) := (Below.refl _ _).alloc (by omega) _
  have hgap := fun p (hp : p ≤ s.length) ln lv W hW hLW => gap_any N B s hs p hp ln lv W hW hLW hNB
  have hlex := fun p (hp : p < s.length) ln l lv W hW hLW ho hk hm => lexeme_any num N B B hn s hs p hp ln l lv W hW hLW hNB (Nat.le_refl _) ho hk hm
  have HB := Lib.hid hB
  have HR := Lib.hid hr
  have HLOW := Lib.hid hlow
  have HNEW := Lib.hid hnew
  have HST0 := Lib.hid hst0
  have HGAP := Lib.hid hgap
  have HLEX := Lib.hid hlex
  have HSZ := Lib.hid hsz
  have HK := Lib.hid hk
  have hS1 : ¬ (8192 : Int) < ((bs s).size : Int) := by omega
  have hS2 : (bs s).size ≤ 8192 := by omega
  clear hr hlow hnew hst0 hgap hlex hl hsz hk hB
  generalize X.lex num s = O at HR HK ⊢
  go_enter Tryz.func10, Tryz.ntmps10
  go_wp2
  rw [HB.out]
  go_loopg [11] (s.length) (fun g _ wr => ∃ (p f : Nat) (d : List X.Lx) (ln : Bool) (lv : Value), p + g = s.length ∧ Rdr B s p ln lv wr ∧ Below B w wr ∧ Lst B d lv wr ∧ d.length ≤ p ∧ g + 1 ≤ f ∧ Hid (O = prepend d (X.lexF num f (s.drop p) p)))
  case atStart =>
    refine ⟨0, s.length + 1, [], false, .slice none 0 0, by omega, HNEW.out, HST0.out, ⟨rfl, .inl ⟨rfl, rfl⟩⟩, Nat.le_refl _, Nat.le_refl _, ?_⟩
    show _ = _
    rw [HR.out, List.drop_zero]
    cases X.lexF num (s.length + 1) s 0 <;> rfl
  case round =>
    obtain ⟨p, f, d, ln, lv, hpg, hrd, hbel, hls, hd, hf, hh⟩ := hrel
    have hlw := HLOW.out wr hbel
    have hgap := HGAP.out p (by omega) ln lv wr hrd hlw
    obtain ⟨f, rfl⟩ : ∃ f', f = f' + 1 := ⟨f - 1, by omega⟩
    have hh2 := hh.out
    rw [lexF_step] at hh2
    have hBs : B < wr.heap.size := lt_of_heap hrd
    have HH := Lib.hid hh2
    have HLS := Lib.hid hls
    have HRD := Lib.hid hrd
    have HBEL := Lib.hid hbel
    clear hh2 hh hls hbel hrd hlw
    generalize hG : X.gap (s.drop p) = gp at hgap HH
    clear hG
    obtain ⟨gn, gl, gok⟩ := gp
    unfold GapRet at hgap
    simp only at hgap
    cases gok with
    | false =>
      have hO : O = .fault (p + gn) := by rw [HH.out]; rfl
      have HO := Lib.hid hO
      clear hO
      obtain ⟨q, hq⟩ : ∃ q, p + gn = q := ⟨_, rfl⟩
      rw [hq] at hgap HO
      go_wp2_with (go_at_call 19; refine hgap.mono ?_; rintro e w1 ⟨rfl, hkp, hle, ln1, hl1, hrd1⟩; obtain ⟨c0, c1, c2, c3⟩ := hrd1.cells; have HKP := Lib.hid hkp; clear hkp)
      go_region_law (fail)
      all_goals
        go_wp2
        go_ret3
        refine ⟨?_, (HBEL.out.trans (HKP.out.bar.below (Nat.le_refl _) (by omega))).drew⟩
        rw [show O = .fault q from HO]
        rfl
    | true =>
      obtain ⟨q, hq⟩ : ∃ q, p + gn = q := ⟨_, rfl⟩
      rw [hq] at hgap HH
      have hq2 : (s.drop p).drop gn = s.drop q := by rw [List.drop_drop, hq]
      by_cases hend : q = s.length
      · have hO : O = .ok d := by
          rw [HH.out, hq2, List.drop_eq_nil_of_le (by omega)]
          simp [prepend]
        have HO := Lib.hid hO
        have hqe : ((q : Int) == ((bs s).size : Int)) = true := by rw [HSZ.out]; simp [hend]
        clear hO hend
        go_wp2_with (first | (go_at_call 19; refine hgap.mono ?_; rintro e w1 ⟨rfl, hkp, hle, ln1, hl1, hrd1⟩; obtain ⟨c0, c1, c2, c3⟩ := hrd1.cells; have HKP := Lib.hid hkp; clear hkp) | fail)
        go_ret3
        refine ⟨?_, HBEL.out.trans (HKP.out.bar.below (Nat.le_refl _) (by omega))⟩
        rw [show O = .ok d from HO]
        exact ⟨lv, rfl, HLS.out.bar HKP.out.bar HRD.out⟩
      · have hqe : ((q : Int) == ((bs s).size : Int)) = false := by rw [HSZ.out]; exact beq_eq_false_iff_ne.2 (by omega)
        go_wp2_with (first | (go_at_call 19; refine hgap.mono ?_; rintro e w1 ⟨rfl, hkp, hle, ln1, hl1, hrd1⟩; obtain ⟨c0, c1, c2, c3⟩ := hrd1.cells; have HKP := Lib.hid hkp; clear hkp) | fail)
        have hln : ln1 = gl := hl1 trivial
        subst hln
        have hqlt : q < s.length := by omega
        have hne : ¬ s.drop q = [] := by
          intro e
          have := congrArg List.length e
          rw [List.length_drop] at this
          simp at this
          omega
        have hh3 := HH.out
        rw [hq2, if_neg (by decide), if_neg hne] at hh3
        have hb1 : Below B w w1 := HBEL.out.trans (HKP.out.bar.below (Nat.le_refl _) (by omega))
        have hls1 := HLS.out.bar HKP.out.bar HRD.out
        have hfk : X.first num (s.drop q) ≠ .unknown := by
          intro e
          rw [e] at hh3
          exact HK.out hh3
        have hx := HLEX.out q hqlt ln1 d lv w1 hrd1 HKP.out.low hls1 hfk (by omega)
        unfold LexRet at hx
        have HB1 := Lib.hid hb1
        have HQ := Lib.hid hq
        have HQ2 := Lib.hid hq2
        clear hh3 hb1 hls1 hgap hq hq2 hl1
        cases hfx : X.first num (s.drop q) with
        | unknown => exact absurd hfx hfk
        | no =>
          rw [hfx] at hx
          have hO : O = .fault q := by
            rw [HH.out, HQ2.out, if_neg (by decide), if_neg hne, hfx]
            rfl
          have HO := Lib.hid hO
          clear hO hfk
          have hx : Calls Tryz.prog 20 #[.pointer (some ⟨B, 0, none⟩)] w1 fun e w' => (e = .returned (.bool false) ∧ Rdr B s q ln1 lv w') ∧ Below B w1 w' := hx
          refine hx.mono ?_
          rintro e w2 ⟨⟨rfl, hrd2⟩, hb2⟩
          clear c0 c1 c2 c3
          obtain ⟨d0, d1, d2, d3⟩ := hrd2.cells
          go_wp2
          go_region_law (fail)
          all_goals
            go_wp2
            go_ret3
            refine ⟨?_, (HB1.out.trans hb2).drew⟩
            rw [show O = .fault q from HO]
            rfl
        | yes k t v n =>
          rw [hfx] at hx
          obtain ⟨fs1, fs2⟩ := first_some (by rw [List.length_drop]; omega) hfx
          rw [List.length_drop] at fs2
          have hO : O = prepend (d ++ [⟨k, t, v, q, ln1⟩]) (X.lexF num f (s.drop (q + n)) (q + n)) := by
            rw [HH.out, HQ2.out, if_neg (by decide), if_neg hne, hfx]
            simp only [List.drop_drop]
            rw [← Nat.add_assoc, HQ.out]
            cases X.lexF num f (s.drop (q + n)) (q + n) with
            | unknown => rfl
            | fault p => rfl
            | ok r => simp [prepend]
          have HO := Lib.hid hO
          clear hO hfk hfx
          have hx : Calls Tryz.prog 20 #[.pointer (some ⟨B, 0, none⟩)] w1 fun e w' => (e = .returned (.bool true) ∧ ∃ lv', Rdr B s (q + n) ln1 lv' w' ∧ Lst B (d ++ [⟨k, t, v, q, ln1⟩]) lv' w') ∧ Below B w1 w' := hx
          refine hx.mono ?_
          rintro e w2 ⟨⟨rfl, lv2, hrd2, hls2⟩, hb2⟩
          clear c0 c1 c2 c3
          have hqp : p ≤ q := by have := HQ.out; omega
          go_wp2
          go_roundg (s.length - (q + n))
          case measure => omega
          case rel =>
            exact ⟨q + n, f, d ++ [⟨k, t, v, q, ln1⟩], ln1, lv2, by omega, hrd2, HB1.out.trans hb2, hls2, by rw [List.length_append]; simp only [List.length_cons, List.length_nil]; omega, by omega, HO⟩
end Go.Proofs.YthakjbmheoojeaaGreatDoor
