/- The walk of the law TokRemarks: for every document it answers true. Conditions: those that the theorem names. -/
import Derived.Test.YtobndhjcimafgaaGreatDoorRemQ
import Derived.Test.YtobndhjcimafgaaGreatDoorLawLines
namespace Go.Proofs.YtobndhjcimafgaaGreatDoor
open Go.RowKit Go.Shelf
set_option linter.all false

/-- What the law has made of a document's first i bytes. -/
structure Rm (d : List UInt8) (i : Nat) (ins : Bool) (out : List UInt8) : Prop where
  le : i ≤ d.length
  made : out ++ rkB ins (d.drop i) = rkB false d
  asked : ∃ done, ckB false d = done ++ (ckB ins (d.drop i)).map (d.take i ++ ·) ∧ ∀ q ∈ done, ∃ L0, K.tokens q = .ok L0
theorem Rm.start (d : List UInt8) : Rm d 0 false [] := ⟨Nat.zero_le _, rfl, [], by simp, by simp⟩
theorem Rm.size {d : List UInt8} {i : Nat} {ins : Bool} {out : List UInt8} (h : Rm d i ins out) : out.length ≤ 28 * d.length := by
  have h1 := congrArg List.length h.made
  have h2 := rkB_length false d
  rw [List.length_append] at h1
  omega
theorem drop_byte {d : List UInt8} {i : Nat} {b : UInt8} (hi : i < d.length) (hb : d[i] = b) : d.drop i = b :: d.drop (i + 1) ∧ d.take (i + 1) = d.take i ++ [b] := by
  subst hb
  exact ⟨List.drop_eq_getElem_cons hi, List.take_succ_eq_append_getElem hi⟩
theorem map_next {d : List UInt8} {i : Nat} {b : UInt8} (ht : d.take (i + 1) = d.take i ++ [b]) (l : List (List UInt8)) : (l.map (b :: ·)).map (d.take i ++ ·) = l.map (d.take (i + 1) ++ ·) := by
  rw [List.map_map, ht]
  congr 1
  funext x
  simp
theorem Rm.bang {d : List UInt8} {i : Nat} {out : List UInt8} (h : Rm d i false out) (hi : i < d.length) (hb : d[i] = 60) (hg : bangB (d.drop (i + 1))) : Rm d (i + 1) true (out ++ [60]) := by
  obtain ⟨e1, e2⟩ := drop_byte hi hb
  obtain ⟨h1, h2, done, h3, h4⟩ := h
  rw [e1, rkB, if_pos rfl, if_pos hg] at h2
  rw [e1, ckB, if_pos ⟨rfl, hg⟩, map_next e2] at h3
  exact ⟨hi, by rw [← h2]; simp, done, h3, h4⟩
theorem Rm.tag {d : List UInt8} {i : Nat} {out : List UInt8} (h : Rm d i false out) (hi : i < d.length) (hb : d[i] = 60) (hg : ¬ bangB (d.drop (i + 1))) : Rm d (i + 1) false (out ++ remB ++ [60]) := by
  obtain ⟨e1, e2⟩ := drop_byte hi hb
  obtain ⟨h1, h2, done, h3, h4⟩ := h
  rw [e1, rkB, if_pos rfl, if_neg hg] at h2
  rw [e1, ckB, if_neg (fun e => hg e.2), map_next e2] at h3
  exact ⟨hi, by rw [← h2]; simp, done, h3, h4⟩
theorem Rm.other {d : List UInt8} {i : Nat} {out : List UInt8} (h : Rm d i false out) (hi : i < d.length) {b : UInt8} (hb : d[i] = b) (hg : b ≠ 60) : Rm d (i + 1) false (out ++ [b]) := by
  obtain ⟨e1, e2⟩ := drop_byte hi hb
  obtain ⟨h1, h2, done, h3, h4⟩ := h
  rw [e1, rkB, if_neg hg] at h2
  rw [e1, ckB, if_neg (fun e => hg e.1), map_next e2] at h3
  exact ⟨hi, by rw [← h2]; simp, done, h3, h4⟩
theorem Rm.inner {d : List UInt8} {i : Nat} {out : List UInt8} (h : Rm d i true out) (hi : i < d.length) {b : UInt8} (hb : d[i] = b) (hg : b ≠ 62) : Rm d (i + 1) true (out ++ [b]) := by
  obtain ⟨e1, e2⟩ := drop_byte hi hb
  obtain ⟨h1, h2, done, h3, h4⟩ := h
  rw [e1, rkB, decide_eq_true hg] at h2
  rw [e1, ckB, if_neg hg, map_next e2] at h3
  exact ⟨hi, by rw [← h2]; simp, done, h3, h4⟩
theorem Rm.ends {d : List UInt8} {i : Nat} {out : List UInt8} (h : Rm d i true out) (hi : i < d.length) (hb : d[i] = 62) {L0 : List K.Tk} (hL : K.tokens (d.take (i + 1)) = .ok L0) : Rm d (i + 1) false (out ++ [62]) := by
  obtain ⟨e1, e2⟩ := drop_byte hi hb
  obtain ⟨h1, h2, done, h3, h4⟩ := h
  rw [e1, rkB, show decide ((62 : UInt8) ≠ 62) = false by decide] at h2
  rw [e1, ckB, if_pos rfl, List.map_cons, map_next e2, ← e2] at h3
  refine ⟨hi, by rw [← h2]; simp, done ++ [d.take (i + 1)], by rw [h3]; simp, fun q hq => ?_⟩
  rcases List.mem_append.1 hq with hq | hq
  · exact h4 q hq
  · simp only [List.mem_singleton] at hq
    subst hq
    exact ⟨L0, hL⟩
theorem Rm.all {d : List UInt8} {ins : Bool} {i : Nat} {out : List UInt8} (h : Rm d i ins out) (hi : d.length ≤ i) : out = rkB false d ∧ ∀ q ∈ ckB false d, ∃ L0, K.tokens q = .ok L0 := by
  obtain ⟨h1, h2, done, h3, h4⟩ := h
  have hd : d.drop i = [] := List.drop_eq_nil_of_le hi
  rw [hd] at h2 h3
  have e1 : rkB ins [] = [] := by cases ins <;> rfl
  have e2 : ckB ins [] = [] := by cases ins <;> rfl
  rw [e1, List.append_nil] at h2
  rw [e2] at h3
  refine ⟨h2, fun q hq => h4 q ?_⟩
  rw [h3] at hq
  simpa using hq

/-- What the law's loop has come to. -/
def RmRel (d : List UInt8) (N : Nat) (w1 : World) (g : Nat) (a b iv : Value) (wr : World) : Prop :=
  ∃ (i : Nat) (ins : Bool) (out : List UInt8), iv = .int .i64 (i : Int) ∧ d.length - i = g ∧ a = .string (bs out) ∧ b = .bool ins ∧ Rm d i ins out ∧ Below N w1 wr

set_option maxHeartbeats 16000000 in
set_option maxRecDepth 100000 in
theorem law_remarks (d : List UInt8) (hs : d.length ≤ 140737488355328) (w : World) (hlow : Low w) (h12 : 12 ≤ w.heap.size) :
    Calls Tryz.prog 5 #[.string (bs d)] w fun e w' => e = .returned (.bool true) ∧ Below w.heap.size w w' := by
  have haw := awake_any w hlow h12
  have hsz := bs_size d
  by_cases hl : 2000 < d.length
  · have hgt : (2000 : Int) < ((bs d).size : Int) := by omega
    clear hlow
    go_enter Tryz.func5, Tryz.ntmps5
    go_wp2_with (go_at_call 8; refine haw.mono ?_; rintro e w1 ⟨rfl, hb1⟩)
    go_ret
    exact ⟨rfl, hb1⟩
  · have hle : ((bs d).size : Int) ≤ 2000 := by omega
    have hl2 : d.length ≤ 2000 := by omega
    have HLow := Lib.hid hlow
    clear hlow
    have hT : ∀ (q : List UInt8), q.length ≤ 60000 → ∀ W, Below w.heap.size w W → Calls Tryz.prog 9 #[.string (bs q)] W (TokRet (K.tokens q) W) := by
      intro q hq W hW
      exact tokens_any q (by omega) W (HLow.out.below hW h12) (by have := hW.size; omega)
    have HT := Lib.hid hT
    clear hT
    cases hK : K.tokens d with
    | error er =>
      go_enter Tryz.func5, Tryz.ntmps5
      go_wp2_with (first
        | (go_at_call 8; refine haw.mono ?_; rintro e w1 ⟨rfl, hb1⟩; have HB1 := Lib.hid hb1; have k0 := HT.out d (by omega) _ hb1; rw [hK] at k0; clear hb1)
        | (go_at_call 9; refine k0.mono ?_; rintro e w2 ⟨f0, rfl, hf0, hb2⟩))
      go_ret
      exact ⟨rfl, HB1.out.trans (hb2.mono HB1.out.size)⟩
    | ok toks =>
      have HK := Lib.hid hK
      clear hK
      go_enter Tryz.func5, Tryz.ntmps5
      go_wp2_with (first
        | (go_at_call 8; refine haw.mono ?_; rintro e w1 ⟨rfl, hb1⟩; have HB1 := Lib.hid hb1; have k0 := HT.out d (by omega) _ hb1; rw [HK.out] at k0; clear hb1)
        | (go_at_call 9; refine k0.mono ?_; rintro e w2 ⟨lv0, rfl, hL0, hb2⟩; have W2 := Lib.hid (HB1.out.trans (hb2.mono HB1.out.size)); obtain ⟨p0, n0, c0, rfl⟩ := hL0.slice; have L0 := Lib.hid (list_in hL0); clear hL0 hb2))
      go_loopg [5, 6, 7] d.length (fun g a b iv wr => RmRel d w2.heap.size w2 g a b iv wr)
      case atStart => exact ⟨0, false, [], rfl, rfl, rfl, rfl, Rm.start d, Below.refl _ _⟩
      case round =>
        obtain ⟨i, ins, out, rfl, hg, rfl, rfl, hrm, hbel⟩ := hrel
        have HBel := Lib.hid hbel
        have HRm := Lib.hid hrm
        have hos := hrm.size
        have hosz := bs_size out
        clear hbel hrm
        by_cases hlt : i < d.length
        · have hi2 : i < (bs d).size := by omega
          obtain ⟨b0, hb0⟩ : ∃ b0, d[i] = b0 := ⟨_, rfl⟩
          have hget : (bs d)[i] = b0 := (bs_get d i hi2 hlt).trans hb0
          have hlts : (i : Int) < ((bs d).size : Int) := by omega
          have hb8 := UInt8.toNat_lt b0
          have hex : (bs d).extract i (i + 1) = bs [b0] := by
            rw [bs_extract, show i + 1 - i = 1 by omega, List.drop_eq_getElem_cons hlt]
            show bs [d[i]] = bs [b0]
            exact congrArg (fun x => bs [x]) hb0
          have hes : ((bs d).extract i (i + 1)).size = 1 := by rw [hex]; rfl
          have hcA : ¬ ((bs out).size + ((bs d).extract i (i + 1)).size > 9223372036854775807) := by omega
          have eA : bs out ++ (bs d).extract i (i + 1) = bs (out ++ [b0]) := by rw [hex, bs_append]
          have HB0 := Lib.hid hb0
          cases ins with
          | true =>
            by_cases h62 : b0 = 62
            · subst h62
              have hpre : (bs d).extract 0 (i + 1) = bs (d.take (i + 1)) := bs_take d (i + 1)
              have EA := Lib.hid eA
              have HP := Lib.hid hpre
              clear eA hpre hb0 hex
              have k1 := HT.out (d.take (i + 1)) (by rw [List.length_take]; omega) _ (W2.out.trans (HBel.out.mono W2.out.size))
              rw [← HP.out] at k1
              cases hq : K.tokens (d.take (i + 1)) with
              | error er =>
                rw [hq] at k1
                clear hq
                go_wp2_with (go_at_call 9; refine k1.mono ?_; rintro e w4 ⟨f0, rfl, hf0, hb4⟩)
                go_ret
                exact ⟨rfl, (W2.out.trans (HBel.out.mono W2.out.size)).trans (hb4.mono (Nat.le_trans W2.out.size HBel.out.size))⟩
              | ok L1 =>
                rw [hq] at k1
                have HN := Lib.hid (HRm.out.ends hlt HB0.out hq)
                clear hq
                go_wp2_with (go_at_call 9; refine k1.mono ?_; rintro e w4 ⟨lv1, rfl, hL1, hb4⟩; obtain ⟨p1, n1, c1, rfl⟩ := hL1.slice; have W4 := Lib.hid (HBel.out.trans (hb4.mono HBel.out.size)); clear hL1 hb4)
                go_roundg (d.length - (i + 1))
                case measure => omega
                case rel => exact ⟨i + 1, false, out ++ [62], by go_num, rfl, by rw [EA.out], rfl, HN.out, W4.out⟩
            · have hn62 : (((b0.toNat : Int)) == 62) = false := by
                rw [beq_eq_false_iff_ne]
                intro e
                exact h62 (UInt8.toNat_inj.1 (by have : (62 : UInt8).toNat = 62 := rfl; omega))
              have HN := Lib.hid (HRm.out.inner hlt HB0.out h62)
              have EA := Lib.hid eA
              clear eA hb0 hex
              go_wp2
              go_roundg (d.length - (i + 1))
              case measure => omega
              case rel => exact ⟨i + 1, true, out ++ [b0], by go_num, rfl, by rw [EA.out], rfl, HN.out, HBel.out⟩
          | false =>
            by_cases h60 : b0 = 60
            · subst h60
              have hremsz : (bs (out ++ remB)).size = out.length + 27 := by rw [bs_size]; simp [remB]
              have eR : bs out ++ ⟨#[60, 33, 45, 45, 32, 60, 97, 62, 32, 45, 32, 38, 32, 45, 45, 62, 60, 63, 112, 105, 32, 60, 98, 62, 32, 63, 62]⟩ = bs (out ++ remB) := by rw [← bs_append]; rfl
              have eB : bs (out ++ remB) ++ (bs d).extract i (i + 1) = bs (out ++ remB ++ [60]) := by rw [hex, bs_append]
              have hcR : ¬ ((bs out).size + 27 > 9223372036854775807) := by omega
              have hcB : ¬ ((bs (out ++ remB)).size + ((bs d).extract i (i + 1)).size > 9223372036854775807) := by omega
              have EA := Lib.hid eA
              have EB := Lib.hid eB
              clear eA eB hb0 hex
              by_cases hnext : i + 1 < d.length
              · have hi3 : i + 1 < (bs d).size := by omega
                obtain ⟨b1, hb1⟩ : ∃ b1, d[i + 1] = b1 := ⟨_, rfl⟩
                have hget1 : (bs d)[i + 1] = b1 := (bs_get d (i + 1) hi3 hnext).trans hb1
                have hlts1 : (i : Int) + 1 < ((bs d).size : Int) := by omega
                have hb18 := UInt8.toNat_lt b1
                have hdr := (drop_byte hnext hb1).1
                have hbang : bangB (d.drop (i + 1)) ↔ (b1 = 33 ∨ b1 = 63) := by rw [hdr]; unfold bangB; simp
                by_cases h33 : b1 = 33
                · have HN := Lib.hid (HRm.out.bang hlt HB0.out (hbang.2 (.inl h33)))
                  subst h33
                  clear hbang hdr hb1
                  go_wp2
                  go_roundg (d.length - (i + 1))
                  case measure => omega
                  case rel => exact ⟨i + 1, true, out ++ [60], by go_num, rfl, by rw [EA.out], rfl, HN.out, HBel.out⟩
                · have hn33 : (((b1.toNat : Int)) == 33) = false := by
                    rw [beq_eq_false_iff_ne]
                    intro e
                    exact h33 (UInt8.toNat_inj.1 (by have : (33 : UInt8).toNat = 33 := rfl; omega))
                  by_cases h63 : b1 = 63
                  · have HN := Lib.hid (HRm.out.bang hlt HB0.out (hbang.2 (.inr h63)))
                    subst h63
                    clear hbang hdr hb1 hn33 h33
                    go_wp2
                    go_roundg (d.length - (i + 1))
                    case measure => omega
                    case rel => exact ⟨i + 1, true, out ++ [60], by go_num, rfl, by rw [EA.out], rfl, HN.out, HBel.out⟩
                  · have hn63 : (((b1.toNat : Int)) == 63) = false := by
                      rw [beq_eq_false_iff_ne]
                      intro e
                      exact h63 (UInt8.toNat_inj.1 (by have : (63 : UInt8).toNat = 63 := rfl; omega))
                    have HN := Lib.hid (HRm.out.tag hlt HB0.out (fun e => by rcases hbang.1 e with e | e; exact h33 e; exact h63 e))
                    clear hbang hdr hb1
                    go_wp2
                    go_roundg (d.length - (i + 1))
                    case measure => omega
                    case rel => exact ⟨i + 1, false, out ++ remB ++ [60], by go_num, rfl, by rw [EB.out], rfl, HN.out, HBel.out⟩
              · have hge1 : ¬ ((i : Int) + 1 < ((bs d).size : Int)) := by omega
                have hdr : d.drop (i + 1) = [] := List.drop_eq_nil_of_le (by omega)
                have HN := Lib.hid (HRm.out.tag hlt HB0.out (by rw [hdr]; rintro (e | e) <;> cases e))
                clear hdr
                go_wp2
                go_roundg (d.length - (i + 1))
                case measure => omega
                case rel => exact ⟨i + 1, false, out ++ remB ++ [60], by go_num, rfl, by rw [EB.out], rfl, HN.out, HBel.out⟩
            · have hn60 : (((b0.toNat : Int)) == 60) = false := by
                rw [beq_eq_false_iff_ne]
                intro e
                exact h60 (UInt8.toNat_inj.1 (by have : (60 : UInt8).toNat = 60 := rfl; omega))
              have HN := Lib.hid (HRm.out.other hlt HB0.out h60)
              have EA := Lib.hid eA
              clear eA hb0 hex
              go_wp2
              go_roundg (d.length - (i + 1))
              case measure => omega
              case rel => exact ⟨i + 1, false, out ++ [b0], by go_num, rfl, by rw [EA.out], rfl, HN.out, HBel.out⟩
        · have hge : ((bs d).size : Int) ≤ (i : Int) := by omega
          obtain ⟨ho, hall⟩ := HRm.out.all (by omega)
          obtain ⟨L', hL', hsame⟩ := tokens_rk hl2 HK.out hall
          have hrl := rkB_length false d
          subst ho
          have k1 := HT.out (rkB false d) (by omega) _ (W2.out.trans (HBel.out.mono W2.out.size))
          rw [hL'] at k1
          have HS := Lib.hid hsame
          have L0b := Lib.hid (L0.out.bel HBel.out)
          clear hall hL' hsame hrl
          go_wp2_with (first
            | (go_at_call 9; refine k1.mono ?_; rintro e w4 ⟨lv1, rfl, hL1, hb4⟩; obtain ⟨p1, n1, c1, rfl⟩ := hL1.slice; have W4 := Lib.hid ((W2.out.trans (HBel.out.mono W2.out.size)).trans (hb4.mono (Nat.le_trans W2.out.size HBel.out.size))); have k2 := same_any false toks L' HS.out _ _ w4 (L0b.out.bel hb4) (list_in hL1); clear hL1 hb4)
            | (go_at_call 12; refine k2.mono ?_; rintro e w5 ⟨rfl, hb5⟩))
          go_ret
          exact ⟨rfl, W4.out.trans (hb5.mono W4.out.size)⟩
end Go.Proofs.YtobndhjcimafgaaGreatDoor
