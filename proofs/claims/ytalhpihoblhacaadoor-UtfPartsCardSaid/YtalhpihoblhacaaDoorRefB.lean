/- What pennantref01.Wide and Narrow answer of every text of at most 1000000 bytes: the same plain functions of its bytes as utf.Wide and Narrow. -/
import Derived.Test.YtalhpihoblhacaaDoorRefA
import Derived.Test.YtalhpihoblhacaaDoorNarrowB
import Derived.Test.YtalhpihoblhacaaDoorLawNext
namespace Go.Proofs.YtalhpihoblhacaaDoor
open Go.RowKit Go.Shelf
set_option linter.unusedVariables false

def RWideRel (s : ByteArray) (B : Nat) (w : World) (xv iv : Value) (wr : World) : Prop :=
  ∃ (k : Nat) (cs : List Nat) (X : ByteArray), k ≤ s.size ∧ iv = .int .i64 (k : Int) ∧ xv = .string X ∧ Hid (ls X = U.w8 cs) ∧ Below B w wr ∧ B ≤ wr.heap.size ∧ X.size ≤ 2 * k ∧
    Hid (U.scan (ls s) = (cs ++ (U.scan ((ls s).drop k)).1, k + (U.scan ((ls s).drop k)).2))

theorem unitS_eq (z : Int) (h0 : 0 ≤ z) (h1 : z < 65536) (R : ByteArray) (h : ls R = U.be z.toNat) (w : World) :
    Calls Tryd.prog 30 #[.int .i64 z] w fun e w' => e = .returned (.string R) ∧ Below w.heap.size w w' := by
  have e : (⟨(U.be z.toNat).toArray⟩ : ByteArray) = R := str_ext h.symm
  rw [← e]
  exact unitS z h0 h1 w

set_option maxRecDepth 100000 in
set_option maxHeartbeats 4000000 in
theorem rwide_any (s : ByteArray) (hs : s.size ≤ 1000000) (w : World) :
    Calls Tryd.prog 13 #[.string s] w fun e w' => e = .returned (.tuple #[.string ⟨(wideL (ls s)).toArray⟩, .int .i64 (wideAt (ls s) : Int), .int .i64 (wideErr (ls s) : Int)]) ∧ Below w.heap.size w w' := by
  have Hst : RWideRel s w.heap.size w (.string ⟨#[]⟩) (.int .i64 0) w :=
    ⟨0, [], ⟨#[]⟩, Nat.zero_le _, rfl, rfl, rfl, Below.refl _ _, Nat.le_refl _, Nat.zero_le _, by show _ = _; simp⟩
  obtain ⟨B, hB⟩ : ∃ B, w.heap.size = B := ⟨_, rfl⟩
  rw [hB] at Hst
  have HB := Lib.hid hB
  clear hB
  go_enter Tryd.func13, Tryd.ntmps13
  go_wp2
  go_loopw [5, 6] (fun xv iv wr => RWideRel s B w xv iv wr) (fun _ iv wr => s.size - (intOf iv).toNat)
  case atStart => exact Hst
  case round =>
    obtain ⟨k, cs, X, hk, rfl, rfl, HX, hbel, hlt, hlen, HS⟩ := hrel
    by_cases hks : k < s.size
    · have hkz : (k : Int) < (s.size : Int) := by omega
      obtain ⟨c, m, hd⟩ : ∃ c m, U.dec ((ls s).drop k) = (c, m) := ⟨_, _, rfl⟩
      have cn := char_any s (by omega) (k : Int) c m (by rw [nextAt_in s k hks]; exact hd)
      cases m with
      | zero =>
        have HR := Lib.hid (rel_stop s k c cs hks HS.out hd)
        clear hd
        go_wp2_with fail
        refine (cn _).mono ?_
        rintro e w1 ⟨rfl, rfl⟩
        go_wp2
        go_ret3
        exact ⟨ret_sii (by rw [HR.out.1]) (by rw [HR.out.2.1]) (by rw [HR.out.2.2]; rfl), by rw [HB.out]; exact hbel⟩
      | succ m =>
        have HR := Lib.hid (rel_next s k c m cs hks HS.out hd)
        have HU := Lib.hid (units_len _ c m hd)
        have hkm : (k : Int) + ((m : Int) + 1) ≤ (s.size : Int) := by have := HR.out.1; omega
        have hc : c ≤ 1114111 := by
          obtain ⟨h1, _⟩ := U.enc_dec _ c m hd
          unfold U.scalar at h1
          omega
        clear hd
        by_cases hc1 : c < 65536
        · obtain ⟨R, hR⟩ := str_mk (U.be c)
          have cu := unitS_eq (c : Int) (by omega) (by omega) R (by rw [hR]; rfl)
          have hRs : R.size = 2 := by rw [← ls_length, hR]; rfl
          have hns : ¬ (X.size + R.size > 9223372036854775807) := by omega
          have d1 : decide (65536 ≤ (c : Int)) = false := decide_eq_false (by omega)
          have HRR := Lib.hid hR
          have HRS := Lib.hid hRs
          have HC1 := Lib.hid hc1
          clear hR hRs hc1 hc
          go_wp2_with fail
          refine (cn _).mono ?_
          rintro e w1 ⟨rfl, rfl⟩
          go_wp2_with fail
          refine (cu _).mono ?_
          rintro e w1 ⟨rfl, hb1⟩
          go_wp2
          go_roundw
          case rel =>
            refine ⟨k + (m + 1), cs ++ [c], X ++ R, HR.out.1, by go_num, rfl, ?_, hbel.trans (hb1.mono (by omega)), by have := hb1.size; omega, ?_, HR.out.2⟩
            · show _ = _
              rw [ls_append, HX.out, HRR.out, U.w8_append]
              simp [U.w8, U.units, HC1.out]
            · rw [← ls_length, ls_append, List.length_append, ls_length, ls_length, HRS.out]
              omega
          case measure => have := HR.out.1; simp [intOf]; omega
        · obtain ⟨R1, hR1⟩ := str_mk (U.be (55296 + (c - 65536) / 1024))
          obtain ⟨R2, hR2⟩ := str_mk (U.be (56320 + (c - 65536) % 1024))
          have cu1 := unitS_eq (55296 + ((c : Int) - 65536) / 1024) (by omega) (by omega) R1 (by rw [hR1, show (55296 + ((c : Int) - 65536) / 1024).toNat = 55296 + (c - 65536) / 1024 by omega])
          have cu2 := unitS_eq (56320 + ((c : Int) - 65536) % 1024) (by omega) (by omega) R2 (by rw [hR2, show (56320 + ((c : Int) - 65536) % 1024).toNat = 56320 + (c - 65536) % 1024 by omega])
          have hRs1 : R1.size = 2 := by rw [← ls_length, hR1]; rfl
          have hRs2 : R2.size = 2 := by rw [← ls_length, hR2]; rfl
          have hXs : (X ++ R1).size = X.size + 2 := by rw [← ls_length, ls_append, List.length_append, ls_length, ls_length, hRs1]
          have hns : ¬ (X.size + R1.size > 9223372036854775807) := by omega
          have hns2 : ¬ ((X ++ R1).size + R2.size > 9223372036854775807) := by omega
          have d1 : decide (65536 ≤ (c : Int)) = true := decide_eq_true (by omega)
          have z1 : 65536 ≤ (c : Int) := by omega
          have z2 : (c : Int) ≤ 1114111 := by omega
          have hu2 : 1 ≤ m := by
            have h := HU.out
            unfold U.units at h
            rw [if_neg hc1] at h
            simp [U.be] at h
            omega
          have HRR1 := Lib.hid hR1
          have HRR2 := Lib.hid hR2
          have HRS2 := Lib.hid hRs2
          have HXS := Lib.hid hXs
          have HC1 := Lib.hid hc1
          clear hR1 hR2 hRs1 hRs2 hXs hc1 hc
          go_wp2_with fail
          refine (cn _).mono ?_
          rintro e w1 ⟨rfl, rfl⟩
          go_wp2_with fail
          refine (cu1 _).mono ?_
          rintro e w1 ⟨rfl, hb1⟩
          go_wp2_with fail
          refine (cu2 _).mono ?_
          rintro e w2 ⟨rfl, hb2⟩
          go_wp2
          go_roundw
          case rel =>
            refine ⟨k + (m + 1), cs ++ [c], X ++ R1 ++ R2, HR.out.1, by go_num, rfl, ?_, (hbel.trans (hb1.mono (by omega))).trans (hb2.mono (by have := hb1.size; omega)), by have := hb1.size; have := hb2.size; omega, ?_, HR.out.2⟩
            · show _ = _
              rw [ls_append, ls_append, HX.out, HRR1.out, HRR2.out, U.w8_append]
              simp [U.w8, U.units, HC1.out]
            · rw [← ls_length, ls_append, List.length_append, ls_length, ls_length, HRS2.out, HXS.out]
              omega
          case measure => have := HR.out.1; simp [intOf]; omega
    · obtain rfl : k = s.size := by omega
      have HR := Lib.hid (rel_end s cs HS.out)
      have HXX : Hid (X = ⟨(U.w8 cs).toArray⟩) := str_ext HX.out
      go_wp2
      go_ret3
      exact ⟨ret_sii (by rw [HR.out.1, HXX.out]) (by rw [HR.out.2.1]; rfl) (by rw [HR.out.2.2]; rfl), by rw [HB.out]; exact hbel⟩
end Go.Proofs.YtalhpihoblhacaaDoor
