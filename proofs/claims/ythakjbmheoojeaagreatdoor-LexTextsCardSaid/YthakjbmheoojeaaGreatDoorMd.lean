/- The statement LexTexts: a text of numbered units is told as it is. Conditions: those that each theorem names. -/
import Derived.Test.YthakjbmheoojeaaGreatDoorMc
import Derived.Test.YthakjbmheoojeaaGreatDoorLr
namespace Go.Proofs.YthakjbmheoojeaaGreatDoor
open Go.RowKit
set_option linter.all false

set_option maxHeartbeats 4000000 in
theorem law_texts_odd (N : Nat) (l : List UInt8) (hl : l.length ≤ 140737488355328) (one : Bool) (ho : l.length % 2 = 1 ∨ 2000 < l.length) (w : World) (hw : Low N w) :
    Calls Tryz.prog 6 #[.string (bs l), .bool one] w fun e w' => e = .returned (.bool true) ∧ Below w.heap.size w w' := by
  have haw := awake_any N w hw
  have hsz := bs_size l
  clear hw
  generalize bs l = S at *
  by_cases h1 : l.length % 2 = 1
  · have e1 : ((l.length : Int) % 2) = 1 := by omega
    go_enter Tryz.func6, Tryz.ntmps6
    go_wp2_with ((with_reducible refine haw.mono ?_); rintro e w1 ⟨rfl, hb1⟩)
    go_ret
    exact ⟨rfl, hb1⟩
  · have h2 : 2000 < l.length := by omega
    have e1 : ((l.length : Int) % 2) = 0 := by omega
    have e2 : (2000 : Int) < (l.length : Int) := by omega
    go_enter Tryz.func6, Tryz.ntmps6
    go_wp2_with ((with_reducible refine haw.mono ?_); rintro e w1 ⟨rfl, hb1⟩)
    go_ret
    exact ⟨rfl, hb1⟩

set_option maxHeartbeats 4000000 in
set_option maxRecDepth 100000 in
theorem law_texts_even (N : Nat) (l : List UInt8) (hl : l.length ≤ 2000) (hev : l.length % 2 = 0) (one : Bool) (w : World) (hw : Low N w) :
    Calls Tryz.prog 6 #[.string (bs l), .bool one] w fun e w' => e = .returned (.bool true) ∧ Below w.heap.size w w' := by
  have haw := awake_any N w hw
  have hsz := bs_size l
  have hget := Lib.hid (same_bs l)
  have hhex := hex_any
  obtain ⟨q, hq⟩ : ∃ q : UInt8, q = if one then 39 else 34 := ⟨_, rfl⟩
  have hc : q.toNat = 34 ∨ q.toNat = 39 := by cases one <;> subst hq <;> decide
  have hlex := Lib.hid (fun W (hW : Low N W) => lex_texts N l hl hev q hc W hW)
  have hstep := Lib.hid (code_step l q)
  have hend := Lib.hid (code_end l q)
  have hstart := Lib.hid (show bs [q] = bs (q :: X.codeOf (l.take (2 * 0))) from rfl)
  have HW := Lib.hid hw
  have hNw := hw.size
  have hR : (bs l).size ≤ 2000 := by rw [bs_size]; exact hl
  have e1 : ((l.length : Int) % 2) = 0 := by omega
  have e2 : ¬ (2000 : Int) < (l.length : Int) := by omega
  clear hw
  obtain ⟨S, hS⟩ : ∃ S, bs l = S := ⟨_, rfl⟩
  rw [hS] at hsz hget hR ⊢
  have HS := Lib.hid hS
  clear hS
  cases one
  · obtain rfl : q = 34 := hq
    go_enter Tryz.func6, Tryz.ntmps6
    go_wp2_with ((with_reducible refine haw.mono ?_); rintro e w1 ⟨rfl, hb1⟩; have HB1 := Lib.hid hb1; clear hb1)
    go_loopg [6, 7] l.length (fun g vs vi wr => ∃ (k j : Nat) (T : ByteArray), j + g = l.length ∧ vs = .string T ∧ Hid (T = bs (34 :: X.codeOf (l.take (2 * k)))) ∧ Hid (j = 2 * k) ∧ vi = .int .i64 (j : Int) ∧ Below w1.heap.size w1 wr)
    case atStart => exact ⟨0, 0, _, by omega, rfl, hstart, Lib.hid rfl, rfl, Below.refl _ _⟩
    case round =>
      obtain ⟨k, j, T, hg, rfl, hT, hj, rfl, hb2⟩ := hrel
      have HB2 := Lib.hid hb2
      clear hb2
      by_cases hk : j < l.length
      · have hjo : j + 1 < l.length := by have := hj.out; omega
        have l1 : 0 ≤ (j : Int) := by omega
        have l2 : (j : Int) < l.length := by omega
        have l3 : (j : Int) + 1 < l.length := by omega
        have l4 : 0 ≤ (j : Int) + 1 := by omega
        have w2 : IntKind.i64.wrap ((j : Int) + 1) = (j : Int) + 1 := IntWalk.i64_in _ (by omega)
        have w3 : IntKind.i64.wrap ((j : Int) + 2) = (j : Int) + 2 := IntWalk.i64_in _ (by omega)
        have q1 : j < S.size := by omega
        have q2 : j + 1 < S.size := by omega
        have q3 : j < l.length := by omega
        have q4 : j + 1 < l.length := hjo
        obtain ⟨x, hx⟩ : ∃ x, S[j] = x := ⟨_, rfl⟩
        obtain ⟨y, hy⟩ : ∃ y, S[j + 1] = y := ⟨_, rfl⟩
        have hx2 := hget.out _ q1 q3
        have hy2 := hget.out _ q2 q4
        rw [hx] at hx2
        rw [hy] at hy2
        have HX := Lib.hid hx2
        have HY := Lib.hid hy2
        clear hx2 hy2
        have hxx := hhex x.toNat (UInt8.toNat_lt _)
        have hyy := hhex y.toNat (UInt8.toNat_lt _)
        have hvx : x.toNat < 256 := UInt8.toNat_lt _
        have hvy : y.toNat < 256 := UInt8.toNat_lt _
        obtain ⟨P, hP⟩ : ∃ P, bs [X.hd (x.toNat / 16), X.hd (x.toNat % 16)] = P := ⟨_, rfl⟩
        obtain ⟨Q, hQ⟩ : ∃ Q, bs [X.hd (y.toNat / 16), X.hd (y.toNat % 16)] = Q := ⟨_, rfl⟩
        have hPs : P.size = 2 := by rw [← hP, bs_size]; rfl
        have hQs : Q.size = 2 := by rw [← hQ, bs_size]; rfl
        have hTs : T.size ≤ 6001 := by
          rw [show T = _ from hT.out, bs_size, List.length_cons, codeOf_length _ (by rw [List.length_take]; have := hj.out; omega), List.length_take]
          omega
        rw [hP] at hxx
        rw [hQ] at hyy
        have HP := Lib.hid hP
        have HQ := Lib.hid hQ
        clear hP hQ hhex
        go_wp2
        go_quiet (first | with_reducible exact Calls.quiet_of (hxx _) | with_reducible exact Calls.quiet_of (hyy _))
        go_wp2
        have hjk := hj.out
        have hTn : Hid (T ++ (⟨#[92, 117]⟩ ++ P ++ Q) = bs (34 :: X.codeOf (l.take (2 * (k + 1))))) := Lib.hid (by
          have h0 : l[2 * k]? = some x := by rw [← hjk, List.getElem?_eq_getElem q3, ← show x = l[j] from HX.out]
          have h1 : l[2 * k + 1]? = some y := by rw [← hjk, List.getElem?_eq_getElem q4, ← show y = l[j + 1] from HY.out]
          have h := hstep.out k (by omega) x y h0 h1
          rw [← h, ← show _ = P from HP.out, ← show _ = Q from HQ.out, show T = _ from hT.out])
        have hbn := belN HB2.out nq
        clear hjk
        go_roundg (l.length - (j + 2))
        case measure => omega
        case rel => exact ⟨k + 1, j + 2, _, by omega, rfl, hTn, Lib.hid (by have := hj.out; omega), by go_num, hbn⟩
      · have hjl : j = l.length := by omega
        have hji : ¬ (j : Int) < (l.length : Int) := by omega
        have hTs : T.size ≤ 6001 := by
          rw [show T = _ from hT.out, bs_size, List.length_cons, codeOf_length _ (by rw [List.length_take]; have := hj.out; omega), List.length_take]
          omega
        have hms : (⟨#[34]⟩ : ByteArray).size = 1 := rfl
        have hlx : ∀ W, Low N W → Calls Tryz.prog 10 #[.string (T ++ ⟨#[34]⟩)] W (TextsOk l W) := fun W hW => by
          have h := hlex.out W hW
          rw [← show bs (34 :: X.codeOf (l.take (2 * k))) ++ bs [34] = _ from hend.out k (by have := hj.out; omega), ← show T = _ from hT.out] at h
          exact h
        have HLX := Lib.hid hlx
        have HL2 := Lib.hid ((HW.out.bel HB1.out).bel HB2.out)
        clear hlx
        go_wp2_with ((with_reducible refine (HLX.out _ HL2.out).mono ?_); rintro e w2 ⟨⟨g, cap, rfl, c0, c1, c2⟩, hb3⟩; have HB3 := Lib.hid hb3; rw [show bs l = S from HS.out] at c1; clear hb3)
        go_ret
        exact ⟨rfl, HB1.out.trans ((HB2.out.mono HB1.out.size).trans (HB3.out.mono (Nat.le_trans HB1.out.size HB2.out.size)))⟩
  · obtain rfl : q = 39 := hq
    go_enter Tryz.func6, Tryz.ntmps6
    go_wp2_with ((with_reducible refine haw.mono ?_); rintro e w1 ⟨rfl, hb1⟩; have HB1 := Lib.hid hb1; clear hb1)
    go_loopg [6, 7] l.length (fun g vs vi wr => ∃ (k j : Nat) (T : ByteArray), j + g = l.length ∧ vs = .string T ∧ Hid (T = bs (39 :: X.codeOf (l.take (2 * k)))) ∧ Hid (j = 2 * k) ∧ vi = .int .i64 (j : Int) ∧ Below w1.heap.size w1 wr)
    case atStart => exact ⟨0, 0, _, by omega, rfl, hstart, Lib.hid rfl, rfl, Below.refl _ _⟩
    case round =>
      obtain ⟨k, j, T, hg, rfl, hT, hj, rfl, hb2⟩ := hrel
      have HB2 := Lib.hid hb2
      clear hb2
      by_cases hk : j < l.length
      · have hjo : j + 1 < l.length := by have := hj.out; omega
        have l1 : 0 ≤ (j : Int) := by omega
        have l2 : (j : Int) < l.length := by omega
        have l3 : (j : Int) + 1 < l.length := by omega
        have l4 : 0 ≤ (j : Int) + 1 := by omega
        have w2 : IntKind.i64.wrap ((j : Int) + 1) = (j : Int) + 1 := IntWalk.i64_in _ (by omega)
        have w3 : IntKind.i64.wrap ((j : Int) + 2) = (j : Int) + 2 := IntWalk.i64_in _ (by omega)
        have q1 : j < S.size := by omega
        have q2 : j + 1 < S.size := by omega
        have q3 : j < l.length := by omega
        have q4 : j + 1 < l.length := hjo
        obtain ⟨x, hx⟩ : ∃ x, S[j] = x := ⟨_, rfl⟩
        obtain ⟨y, hy⟩ : ∃ y, S[j + 1] = y := ⟨_, rfl⟩
        have hx2 := hget.out _ q1 q3
        have hy2 := hget.out _ q2 q4
        rw [hx] at hx2
        rw [hy] at hy2
        have HX := Lib.hid hx2
        have HY := Lib.hid hy2
        clear hx2 hy2
        have hxx := hhex x.toNat (UInt8.toNat_lt _)
        have hyy := hhex y.toNat (UInt8.toNat_lt _)
        have hvx : x.toNat < 256 := UInt8.toNat_lt _
        have hvy : y.toNat < 256 := UInt8.toNat_lt _
        obtain ⟨P, hP⟩ : ∃ P, bs [X.hd (x.toNat / 16), X.hd (x.toNat % 16)] = P := ⟨_, rfl⟩
        obtain ⟨Q, hQ⟩ : ∃ Q, bs [X.hd (y.toNat / 16), X.hd (y.toNat % 16)] = Q := ⟨_, rfl⟩
        have hPs : P.size = 2 := by rw [← hP, bs_size]; rfl
        have hQs : Q.size = 2 := by rw [← hQ, bs_size]; rfl
        have hTs : T.size ≤ 6001 := by
          rw [show T = _ from hT.out, bs_size, List.length_cons, codeOf_length _ (by rw [List.length_take]; have := hj.out; omega), List.length_take]
          omega
        rw [hP] at hxx
        rw [hQ] at hyy
        have HP := Lib.hid hP
        have HQ := Lib.hid hQ
        clear hP hQ hhex
        go_wp2
        go_quiet (first | with_reducible exact Calls.quiet_of (hxx _) | with_reducible exact Calls.quiet_of (hyy _))
        go_wp2
        have hjk := hj.out
        have hTn : Hid (T ++ (⟨#[92, 117]⟩ ++ P ++ Q) = bs (39 :: X.codeOf (l.take (2 * (k + 1))))) := Lib.hid (by
          have h0 : l[2 * k]? = some x := by rw [← hjk, List.getElem?_eq_getElem q3, ← show x = l[j] from HX.out]
          have h1 : l[2 * k + 1]? = some y := by rw [← hjk, List.getElem?_eq_getElem q4, ← show y = l[j + 1] from HY.out]
          have h := hstep.out k (by omega) x y h0 h1
          rw [← h, ← show _ = P from HP.out, ← show _ = Q from HQ.out, show T = _ from hT.out])
        have hbn := belN HB2.out nq
        clear hjk
        go_roundg (l.length - (j + 2))
        case measure => omega
        case rel => exact ⟨k + 1, j + 2, _, by omega, rfl, hTn, Lib.hid (by have := hj.out; omega), by go_num, hbn⟩
      · have hjl : j = l.length := by omega
        have hji : ¬ (j : Int) < (l.length : Int) := by omega
        have hTs : T.size ≤ 6001 := by
          rw [show T = _ from hT.out, bs_size, List.length_cons, codeOf_length _ (by rw [List.length_take]; have := hj.out; omega), List.length_take]
          omega
        have hms : (⟨#[39]⟩ : ByteArray).size = 1 := rfl
        have hlx : ∀ W, Low N W → Calls Tryz.prog 10 #[.string (T ++ ⟨#[39]⟩)] W (TextsOk l W) := fun W hW => by
          have h := hlex.out W hW
          rw [← show bs (39 :: X.codeOf (l.take (2 * k))) ++ bs [39] = _ from hend.out k (by have := hj.out; omega), ← show T = _ from hT.out] at h
          exact h
        have HLX := Lib.hid hlx
        have HL2 := Lib.hid ((HW.out.bel HB1.out).bel HB2.out)
        clear hlx
        go_wp2_with ((with_reducible refine (HLX.out _ HL2.out).mono ?_); rintro e w2 ⟨⟨g, cap, rfl, c0, c1, c2⟩, hb3⟩; have HB3 := Lib.hid hb3; rw [show bs l = S from HS.out] at c1; clear hb3)
        go_ret
        exact ⟨rfl, HB1.out.trans ((HB2.out.mono HB1.out.size).trans (HB3.out.mono (Nat.le_trans HB1.out.size HB2.out.size)))⟩

theorem law_texts (N : Nat) (l : List UInt8) (hl : l.length ≤ 140737488355328) (one : Bool) (w : World) (hw : Low N w) :
    Calls Tryz.prog 6 #[.string (bs l), .bool one] w fun e w' => e = .returned (.bool true) ∧ Below w.heap.size w w' := by
  by_cases h : l.length % 2 = 1 ∨ 2000 < l.length
  · exact law_texts_odd N l hl one h w hw
  · exact law_texts_even N l (by omega) (by omega) one w hw
end Go.Proofs.YthakjbmheoojeaaGreatDoor
