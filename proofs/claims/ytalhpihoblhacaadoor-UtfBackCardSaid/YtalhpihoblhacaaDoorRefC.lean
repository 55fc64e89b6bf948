/- What pennantref01.Narrow answers of every wide text of at most 1000000 bytes: the same plain function of its bytes as utf.Narrow. -/
import Derived.Test.YtalhpihoblhacaaDoorRefB
namespace Go.Proofs.YtalhpihoblhacaaDoor
open Go.RowKit Go.Shelf
set_option linter.unusedVariables false

def RNarRel (s : ByteArray) (B : Nat) (w : World) (xv iv : Value) (wr : World) : Prop :=
  ∃ (k : Nat) (cs : List Nat) (X : ByteArray), k ≤ s.size / 2 ∧ iv = .int .i64 (k : Int) ∧ xv = .string X ∧ Hid (ls X = U.n8 cs) ∧ Below B w wr ∧ B ≤ wr.heap.size ∧ X.size ≤ 4 * k ∧
    Hid (U.chars (U.us (ls s)) = cs ++ U.chars ((U.us (ls s)).drop k))
theorem bytesS_eq (c : Nat) (hc : c ≤ 1114111) (z : Int) (hz : (c : Int) = z) (R : ByteArray) (h : ls R = U.enc c) (w : World) :
    Calls Tryd.prog 33 #[.int .i64 z] w fun e w' => e = .returned (.string R) ∧ Below w.heap.size w w' := by
  have e : (⟨(U.enc c).toArray⟩ : ByteArray) = R := str_ext h.symm
  rw [← e, ← hz]
  exact bytesS c hc w
theorem below_of_drewN {w w1 : World} {n m : Nat} (h : Below ((w.drewN (n + m))).heap.size (w.drewN (n + m)) w1) : Below w.heap.size w w1 := (below_of_drew (n + m)).trans h
theorem rnar_rel {s X R : ByteArray} {B k m c : Nat} {w wr w1 : World} {cs : List Nat} {z : Int} (hz : z = ((k + m : Nat) : Int)) (hk : 2 * k + 1 < s.size) (HX : Hid (ls X = U.n8 cs)) (hbel : Below B w wr) (hlt : B ≤ wr.heap.size) (hlen : X.size ≤ 4 * k)
    (HS : Hid (U.chars (U.us (ls s)) = cs ++ U.chars ((U.us (ls s)).drop k))) (hd : U.headU ((U.us (ls s)).drop k) = (c, m)) (hR : ls R = U.enc c) (hb : Below wr.heap.size wr w1) : RNarRel s B w (.string (X ++ R)) (.int .i64 z) w1 := by
  obtain ⟨h1, h2, h3, h4, h5⟩ := nar_next s k c m cs hk HS.out hd
  subst hz
  refine ⟨k + m, cs ++ [c], X ++ R, h3, rfl, rfl, ?_, hbel.trans (hb.mono hlt), Nat.le_trans hlt hb.size, ?_, h5⟩
  · show _ = _
    rw [ls_append, HX.out, hR, U.n8_append]
    simp [U.n8]
  · have := enc_len4 c
    rw [← ls_length, ls_append, List.length_append, ls_length, hR]
    omega

theorem refAt_any (s : ByteArray) (hs : s.size ≤ 140737488355328) (i : Int) (r : Int) (h : (∃ k : Nat, i = k ∧ 2 * k + 1 < s.size ∧ r = (U.unitAt (ls s) k : Nat)) ∨ ((i < 0 ∨ (s.size : Int) / 2 ≤ i) ∧ r = -1)) (w : World) :
    Calls Tryd.prog 17 #[.string s, .int .i64 i] w fun e w' => e = .returned (.int .i64 r) ∧ ∃ n, w' = w.drewN n := by
  rcases h with ⟨k, rfl, hk, rfl⟩ | ⟨h, rfl⟩
  · exact refAt_in s hs k hk w
  · exact refAt_out s hs i h w

set_option maxHeartbeats 4000000 in
theorem rnarrow_odd (s : ByteArray) (hs : s.size ≤ 1000000) (ho : s.size % 2 = 1) (w : World) :
    Calls Tryd.prog 15 #[.string s] w fun e w' => e = .returned (.tuple #[.string ⟨(narrowL (ls s)).toArray⟩, .int .i64 (narrowErr (ls s) : Int)]) ∧ Below w.heap.size w w' := by
  have hz : (s.size : Int) % 2 = 1 := by omega
  have H1 : Hid (narrowL (ls s) = []) := if_pos (by rw [ls_length]; exact ho)
  have H2 : Hid (narrowErr (ls s) = 11) := if_pos (by rw [ls_length]; exact ho)
  go_enter Tryd.func15, Tryd.ntmps15
  go_wp2
  go_ret2
  exact ⟨ret_si (by rw [H1.out]) (by rw [H2.out]; rfl), Below.refl _ _⟩

set_option maxRecDepth 100000 in
set_option maxHeartbeats 8000000 in
theorem rnarrow_even (s : ByteArray) (hs : s.size ≤ 1000000) (ho : s.size % 2 = 0) (w : World) :
    Calls Tryd.prog 15 #[.string s] w fun e w' => e = .returned (.tuple #[.string ⟨(narrowL (ls s)).toArray⟩, .int .i64 (narrowErr (ls s) : Int)]) ∧ Below w.heap.size w w' := by
  have hz : (s.size : Int) % 2 = 0 := by omega
  have H1 : Hid (narrowL (ls s) = U.n8 (U.chars (U.us (ls s)))) := if_neg (by rw [ls_length]; omega)
  have H2 : Hid (narrowErr (ls s) = 0) := if_neg (by rw [ls_length]; omega)
  have Hst : RNarRel s w.heap.size w (.string ⟨#[]⟩) (.int .i64 0) w :=
    ⟨0, [], ⟨#[]⟩, Nat.zero_le _, rfl, rfl, rfl, Below.refl _ _, Nat.le_refl _, Nat.zero_le _, by show _ = _; simp⟩
  obtain ⟨B, hB⟩ : ∃ B, w.heap.size = B := ⟨_, rfl⟩
  rw [hB] at Hst
  have HB := Lib.hid hB
  have HE := Lib.hid ho
  clear ho hB
  go_enter Tryd.func15, Tryd.ntmps15
  go_wp2
  clear hz
  go_loopw [4, 5] (fun xv iv wr => RNarRel s B w xv iv wr) (fun _ iv wr => s.size - (intOf iv).toNat)
  case atStart => exact Hst
  case round =>
    obtain ⟨k, cs, X, hk, rfl, rfl, HX, hbel, hlt, hlen, HS⟩ := hrel
    by_cases hks : k < s.size / 2
    · have hkz : (k : Int) < (s.size : Int) / 2 := by omega
      have h2k : 2 * k + 1 < s.size := by omega
      have H2K := Lib.hid h2k
      have cu := refAt_any s (by omega) (k : Int) _ (.inl ⟨k, rfl, h2k, rfl⟩)
      have hl := ls_length s
      have hb := U.unitAt_lt (ls s) k
      have hb2 := U.unitAt_lt (ls s) (k + 1)
      obtain ⟨u, hu⟩ : ∃ u, U.unitAt (ls s) k = u := ⟨_, rfl⟩
      obtain ⟨v, hv⟩ : ∃ v, U.unitAt (ls s) (k + 1) = v := ⟨_, rfl⟩
      have dl : ∃ d : Int, (∀ w : World, Calls Tryd.prog 17 #[.string s, .int .i64 ((k : Int) + 1)] w fun e w' => e = .returned (.int .i64 d) ∧ ∃ n, w' = w.drewN n) ∧ (((s.size / 2 ≤ k + 1) ∧ d = -1) ∨ (k + 1 < s.size / 2 ∧ d = (v : Int))) := by
        by_cases h4 : s.size / 2 ≤ k + 1
        · exact ⟨-1, refAt_any s (by omega) _ _ (.inr ⟨.inr (by omega), rfl⟩), .inl ⟨h4, rfl⟩⟩
        · exact ⟨(v : Int), refAt_any s (by omega) _ _ (.inl ⟨k + 1, by omega, by omega, by rw [hv]⟩), .inr ⟨by omega, rfl⟩⟩
      obtain ⟨d, cv, hdv⟩ := dl
      rw [hu] at cu
      by_cases h1 : u < 55296
      · have z0 : True := trivial
        have HD : Hid (U.headU ((U.us (ls s)).drop k) = (u, 1)) := by
          show _ = _
          have h := U.headU_one (ls s) k (by omega) (by rw [hu]; omega)
          rw [hu] at h
          exact h
        obtain ⟨R, hR⟩ := str_mk (U.enc (u))
        have cb := bytesS_eq (u) (by omega) (u : Int) rfl R hR
        have hRs : R.size ≤ 4 := by have := enc_len4 (u); rw [← hR, ls_length] at this; exact this
        have hns : ¬ (X.size + R.size > 9223372036854775807) := by omega
        have t0 : decide (55296 ≤ (u : Int)) = false := decide_eq_false (by omega)
        have HRR := Lib.hid hR
        have hku : (u : Int) < 65536 := by omega
        clear hR hRs hu hv hdv hl hb hb2 h2k
        go_wp2_with fail
        refine (cu _).mono ?_
        rintro e w1 ⟨rfl, n1, rfl⟩
        go_wp2_with fail
        refine (cv _).mono ?_
        rintro e w1 ⟨rfl, n2, rfl⟩
        go_wp2_with fail
        refine (cb _).mono ?_
        rintro e w1 ⟨rfl, hb1⟩
        go_wp2
        go_roundw
        case rel => exact rnar_rel (m := 1) (by omega) H2K.out HX hbel hlt hlen HS HD.out HRR.out (below_of_drewN hb1)
        case measure => simp [intOf]; omega
      · by_cases h2 : 57343 < u
        · have z0 : True := trivial
          have HD : Hid (U.headU ((U.us (ls s)).drop k) = (u, 1)) := by
            show _ = _
            have h := U.headU_one (ls s) k (by omega) (by rw [hu]; omega)
            rw [hu] at h
            exact h
          obtain ⟨R, hR⟩ := str_mk (U.enc (u))
          have cb := bytesS_eq (u) (by omega) (u : Int) rfl R hR
          have hRs : R.size ≤ 4 := by have := enc_len4 (u); rw [← hR, ls_length] at this; exact this
          have hns : ¬ (X.size + R.size > 9223372036854775807) := by omega
          have t0 : decide (55296 ≤ (u : Int)) = true := decide_eq_true (by omega)
          have t1 : decide ((u : Int) ≤ 56319) = false := decide_eq_false (by omega)
          have t2 : decide ((u : Int) ≤ 57343) = false := decide_eq_false (by omega)
          have HRR := Lib.hid hR
          have hku : (u : Int) < 65536 := by omega
          clear hR hRs hu hv hdv hl hb hb2 h2k
          go_wp2_with fail
          refine (cu _).mono ?_
          rintro e w1 ⟨rfl, n1, rfl⟩
          go_wp2_with fail
          refine (cv _).mono ?_
          rintro e w1 ⟨rfl, n2, rfl⟩
          go_wp2_with fail
          refine (cb _).mono ?_
          rintro e w1 ⟨rfl, hb1⟩
          go_wp2
          go_roundw
          case rel => exact rnar_rel (m := 1) (by omega) H2K.out HX hbel hlt hlen HS HD.out HRR.out (below_of_drewN hb1)
          case measure => simp [intOf]; omega
        · by_cases h3 : 56320 ≤ u
          · have z0 : True := trivial
            have HD : Hid (U.headU ((U.us (ls s)).drop k) = (65533, 1)) := by
              show _ = _
              exact U.headU_low (ls s) k (by omega) (by rw [hu]; omega)
            obtain ⟨R, hR⟩ := str_mk (U.enc (65533))
            have cb := bytesS_eq (65533) (by omega) 65533 rfl R hR
            have hRs : R.size ≤ 4 := by have := enc_len4 (65533); rw [← hR, ls_length] at this; exact this
            have hns : ¬ (X.size + R.size > 9223372036854775807) := by omega
            have t0 : decide (55296 ≤ (u : Int)) = true := decide_eq_true (by omega)
            have t1 : decide ((u : Int) ≤ 56319) = false := decide_eq_false (by omega)
            have t2 : decide ((u : Int) ≤ 57343) = true := decide_eq_true (by omega)
            have HRR := Lib.hid hR
            have hku : (u : Int) < 65536 := by omega
            clear hR hRs hu hv hdv hl hb hb2 h2k
            go_wp2_with fail
            refine (cu _).mono ?_
            rintro e w1 ⟨rfl, n1, rfl⟩
            go_wp2_with fail
            refine (cv _).mono ?_
            rintro e w1 ⟨rfl, n2, rfl⟩
            go_wp2_with fail
            refine (cb _).mono ?_
            rintro e w1 ⟨rfl, hb1⟩
            go_wp2
            go_roundw
            case rel => exact rnar_rel (m := 1) (by omega) H2K.out HX hbel hlt hlen HS HD.out HRR.out (below_of_drewN hb1)
            case measure => simp [intOf]; omega
          · by_cases h4 : s.size / 2 ≤ k + 1
            · obtain rfl : d = -1 := by omega
              have HD : Hid (U.headU ((U.us (ls s)).drop k) = (65533, 1)) := by
                show _ = _
                exact U.headU_end (ls s) k (by omega) (by rw [hu]; omega) (by rw [hl]; exact h4)
              obtain ⟨R, hR⟩ := str_mk (U.enc (65533))
              have cb := bytesS_eq (65533) (by omega) 65533 rfl R hR
              have hRs : R.size ≤ 4 := by have := enc_len4 (65533); rw [← hR, ls_length] at this; exact this
              have hns : ¬ (X.size + R.size > 9223372036854775807) := by omega
              have t0 : decide (55296 ≤ (u : Int)) = true := decide_eq_true (by omega)
              have t1 : decide ((u : Int) ≤ 56319) = true := decide_eq_true (by omega)
              have t2 : decide ((u : Int) ≤ 57343) = true := decide_eq_true (by omega)
              have t3 : decide ((56320 : Int) ≤ -1) = false := decide_eq_false (by omega)
              have HRR := Lib.hid hR
              have hku : (u : Int) < 65536 := by omega
              clear hR hRs hu hv hdv hl hb hb2 h2k
              go_wp2_with fail
              refine (cu _).mono ?_
              rintro e w1 ⟨rfl, n1, rfl⟩
              go_wp2_with fail
              refine (cv _).mono ?_
              rintro e w1 ⟨rfl, n2, rfl⟩
              go_wp2_with fail
              refine (cb _).mono ?_
              rintro e w1 ⟨rfl, hb1⟩
              go_wp2
              go_roundw
              case rel => exact rnar_rel (m := 1) (by omega) H2K.out HX hbel hlt hlen HS HD.out HRR.out (below_of_drewN hb1)
              case measure => simp [intOf]; omega
            · have hdd : d = (v : Int) := by omega
              by_cases h5 : v < 56320
              · have z0 : True := trivial
                have HD : Hid (U.headU ((U.us (ls s)).drop k) = (65533, 1)) := by
                  show _ = _
                  exact U.headU_lone (ls s) k (by omega) (by rw [hu]; omega) (by rw [hv]; omega)
                obtain ⟨R, hR⟩ := str_mk (U.enc (65533))
                have cb := bytesS_eq (65533) (by omega) 65533 rfl R hR
                have hRs : R.size ≤ 4 := by have := enc_len4 (65533); rw [← hR, ls_length] at this; exact this
                have hns : ¬ (X.size + R.size > 9223372036854775807) := by omega
                have t0 : decide (55296 ≤ (u : Int)) = true := decide_eq_true (by omega)
                have t1 : decide ((u : Int) ≤ 56319) = true := decide_eq_true (by omega)
                have t2 : decide ((u : Int) ≤ 57343) = true := decide_eq_true (by omega)
                have t3 : decide (56320 ≤ d) = false := decide_eq_false (by omega)
                have HRR := Lib.hid hR
                have hku : (u : Int) < 65536 := by omega
                clear hR hRs hu hv hdv hl hb hb2 h2k hdd h5
                go_wp2_with fail
                refine (cu _).mono ?_
                rintro e w1 ⟨rfl, n1, rfl⟩
                go_wp2_with fail
                refine (cv _).mono ?_
                rintro e w1 ⟨rfl, n2, rfl⟩
                go_wp2_with fail
                refine (cb _).mono ?_
                rintro e w1 ⟨rfl, hb1⟩
                go_wp2
                go_roundw
                case rel => exact rnar_rel (m := 1) (by omega) H2K.out HX hbel hlt hlen HS HD.out HRR.out (below_of_drewN hb1)
                case measure => simp [intOf]; omega
              · by_cases h6 : 57343 < v
                · have z0 : True := trivial
                  have HD : Hid (U.headU ((U.us (ls s)).drop k) = (65533, 1)) := by
                    show _ = _
                    exact U.headU_lone (ls s) k (by omega) (by rw [hu]; omega) (by rw [hv]; omega)
                  obtain ⟨R, hR⟩ := str_mk (U.enc (65533))
                  have cb := bytesS_eq (65533) (by omega) 65533 rfl R hR
                  have hRs : R.size ≤ 4 := by have := enc_len4 (65533); rw [← hR, ls_length] at this; exact this
                  have hns : ¬ (X.size + R.size > 9223372036854775807) := by omega
                  have t0 : decide (55296 ≤ (u : Int)) = true := decide_eq_true (by omega)
                  have t1 : decide ((u : Int) ≤ 56319) = true := decide_eq_true (by omega)
                  have t2 : decide ((u : Int) ≤ 57343) = true := decide_eq_true (by omega)
                  have t3 : decide (56320 ≤ d) = true := decide_eq_true (by omega)
                  have t4 : decide (d ≤ 57343) = false := decide_eq_false (by omega)
                  have HRR := Lib.hid hR
                  have hku : (u : Int) < 65536 := by omega
                  clear hR hRs hu hv hdv hl hb hb2 h2k hdd h5
                  go_wp2_with fail
                  refine (cu _).mono ?_
                  rintro e w1 ⟨rfl, n1, rfl⟩
                  go_wp2_with fail
                  refine (cv _).mono ?_
                  rintro e w1 ⟨rfl, n2, rfl⟩
                  go_wp2_with fail
                  refine (cb _).mono ?_
                  rintro e w1 ⟨rfl, hb1⟩
                  go_wp2
                  go_roundw
                  case rel => exact rnar_rel (m := 1) (by omega) H2K.out HX hbel hlt hlen HS HD.out HRR.out (below_of_drewN hb1)
                  case measure => simp [intOf]; omega
                · have z0 : True := trivial
                  have HD : Hid (U.headU ((U.us (ls s)).drop k) = (65536 + (u - 55296) * 1024 + (v - 56320), 2)) := by
                    show _ = _
                    have h := U.headU_pair (ls s) k (by omega) (by rw [hu]; omega) (by rw [hv]; omega)
                    rw [hu, hv] at h
                    exact h
                  obtain ⟨R, hR⟩ := str_mk (U.enc (65536 + (u - 55296) * 1024 + (v - 56320)))
                  have cb := bytesS_eq (65536 + (u - 55296) * 1024 + (v - 56320)) (by omega) (65536 + ((u : Int) - 55296) * 1024 + d - 56320) (by omega) R hR
                  have hRs : R.size ≤ 4 := by have := enc_len4 (65536 + (u - 55296) * 1024 + (v - 56320)); rw [← hR, ls_length] at this; exact this
                  have hns : ¬ (X.size + R.size > 9223372036854775807) := by omega
                  have t0 : decide (55296 ≤ (u : Int)) = true := decide_eq_true (by omega)
                  have t1 : decide ((u : Int) ≤ 56319) = true := decide_eq_true (by omega)
                  have t2 : decide (56320 ≤ d) = true := decide_eq_true (by omega)
                  have t3 : decide (d ≤ 57343) = true := decide_eq_true (by omega)
                  have HRR := Lib.hid hR
                  have q1 : 55296 ≤ (u : Int) := by omega
                  have q2 : (u : Int) < 56320 := by omega
                  have q3 : 56320 ≤ d := by omega
                  have q4 : d ≤ 57343 := by omega
                  have hku : (u : Int) < 65536 := by omega
                  clear hR hRs hu hv hdv hl hb hb2 h2k hdd h5
                  go_wp2_with fail
                  refine (cu _).mono ?_
                  rintro e w1 ⟨rfl, n1, rfl⟩
                  go_wp2_with fail
                  refine (cv _).mono ?_
                  rintro e w1 ⟨rfl, n2, rfl⟩
                  go_wp2_with fail
                  refine (cb _).mono ?_
                  rintro e w1 ⟨rfl, hb1⟩
                  go_wp2
                  go_roundw
                  case rel => exact rnar_rel (m := 2) (by omega) H2K.out HX hbel hlt hlen HS HD.out HRR.out (below_of_drewN hb1)
                  case measure => simp [intOf]; omega
    · obtain rfl : k = s.size / 2 := by omega
      have hkz : (s.size : Int) / 2 ≤ ((s.size / 2 : Nat) : Int) := by omega
      have HR : Hid (U.chars (U.us (ls s)) = cs) := by
        have h := HS.out
        rw [List.drop_eq_nil_of_le (by rw [U.us_length _ _ (Nat.le_refl _), ls_length]; exact Nat.le_refl _), U.chars_nil, List.append_nil] at h
        exact h
      have HXX : Hid (X = ⟨(U.n8 cs).toArray⟩) := str_ext HX.out
      go_wp2
      go_ret2
      exact ⟨ret_si (by rw [H1.out, HR.out, HXX.out]) (by rw [H2.out]; rfl), by rw [HB.out]; exact hbel⟩
end Go.Proofs.YtalhpihoblhacaaDoor
