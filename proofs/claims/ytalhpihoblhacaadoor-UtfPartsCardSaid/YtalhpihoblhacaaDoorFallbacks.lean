/- What utf.fallbacks answers: for each count of first units the most of them, fewer, with which those end. -/
import Derived.Test.YtalhpihoblhacaaDoorGoOn
namespace Go.Proofs.YtalhpihoblhacaaDoor
open Go.RowKit Go.Shelf
set_option linter.unusedVariables false

def Free (R m : Nat) (w : World) : Prop := ∀ j, j ≤ m → (∃ v, w.cell? ⟨R, j, none⟩ = some v) ∧ w.frozen? ⟨R, j, none⟩ = false
def FbRel (P : List Nat) (R m : Nat) (w : World) (hv iv : Value) (wr : World) : Prop :=
  ∃ (i h : Nat) (F : Nat → Nat), iv = .int .i64 (i : Int) ∧ hv = .int .i64 (h : Int) ∧ 1 ≤ i ∧ i ≤ m ∧ Hid (U.Best P (U.mid P i) h) ∧ Hid (Backs P F R i wr) ∧ Hid (Free R m wr) ∧ Below R w wr ∧ R < wr.heap.size
def FbPost (P : List Nat) (R m : Nat) (w : World) (e : Ending) (w' : World) : Prop := ∃ F, e = .returned (.slice (some ⟨R, 0, none⟩) (m + 1) (m + 1)) ∧ Backs P F R m w' ∧ Below R w w' ∧ R < w'.heap.size

theorem backs_set {P : List Nat} {F : Nat → Nat} {R i r : Nat} {w : World} (hB : Backs P F R i w) (hr : U.Best P (U.mid P (i + 1)) r) (hc : ∃ v, w.cell? ⟨R, i + 1, none⟩ = some v) :
    Backs P (fun k => if k = i + 1 then r else F k) R (i + 1) (w.setCell ⟨R, i + 1, none⟩ (.int .i64 (r : Int))) := by
  intro k h1 h2
  by_cases e : k = i + 1
  · subst e
    obtain ⟨v, hv⟩ := hc
    refine ⟨?_, ?_⟩
    · simp only [if_pos]
      exact World.cell?_setCell_same (h := hv) ..
    · simp only [if_pos]
      exact hr
  · obtain ⟨a, b⟩ := hB k h1 (by omega)
    simp only [if_neg e]
    refine ⟨?_, b⟩
    rw [← a]
    have hne : (⟨R, i + 1, none⟩ : Addr) ≠ ⟨R, k, none⟩ := by intro h; injection h with _ h2; omega
    exact World.cell?_setCell_other (h := hne) ..
theorem free_set {R m i : Nat} {w : World} {v : Value} (hF : Free R m w) : Free R m (w.setCell ⟨R, i, none⟩ v) := by
  intro j hj
  obtain ⟨⟨x, hx⟩, hf⟩ := hF j hj
  exact ⟨cell?_setCell_some hx, by rw [World.frozen?_setCell]; exact hf⟩
theorem backs_drew {P : List Nat} {F : Nat → Nat} {R n k : Nat} {w : World} (h : Backs P F R n w) : Backs P F R n (w.drewN k) := h
theorem free_drew {R n k : Nat} {w : World} (h : Free R n w) : Free R n (w.drewN k) := h

set_option maxHeartbeats 4000000 in
theorem fallbacks_any (s : ByteArray) (hs : s.size ≤ 1000000) (P : List Nat) (hP : P = U.us (ls s)) (m : Nat) (hm : P.length = m) (hm1 : 1 ≤ m) (w : World) :
    Calls Tryd.prog 35 #[.string s] w (FbPost P w.heap.size m w) := by
  have hlen : m = s.size / 2 := by rw [← hm, hP, U.us_length _ _ (Nat.le_refl _), ls_length]
  have hat : ∀ i, i < m → P.getD i 0 = U.unitAt (ls s) i := fun i hi => by rw [hP]; exact U.us_at i (ls s) (by rw [ls_length]; omega)
  have cl := length_eq s (by omega) (m : Int) (by omega)
  have hmk := run_make_row' (P := Tryd.prog) 66 3 (.int .i64 0) 8 Tryd.underlying66 (by kernel_rfl) rfl .i64 .i64 (m + 1) (by omega) (by omega)
  have e1 : ((m + 1 : Nat) : Int) = (m : Int) + 1 := by omega
  rw [e1] at hmk
  have Hst : FbRel P w.heap.size m w (.int .i64 0) (.int .i64 1) (w.alloc (.cells (madeCells #[.int .i64 0] (m + 1)) 3)) := by
    have hcell : ∀ j, j ≤ m → (w.alloc (.cells (madeCells #[.int .i64 0] (m + 1)) 3)).cell? ⟨w.heap.size, j, none⟩ = some (.int .i64 0) := by
      intro j hj
      rw [World.cell?_alloc_mark]
      unfold madeCells
      simp [show j < m + 1 by omega, Nat.mod_one]
    refine ⟨1, 0, fun _ => 0, rfl, rfl, Nat.le_refl _, hm1, ?_, ?_, ?_, (Below.refl _ _).alloc (Nat.le_refl _) _, by simp⟩
    · show U.Best _ _ _
      rw [U.mid_one]
      exact U.best_nil P
    · intro k h1 h2
      obtain rfl : k = 1 := by omega
      refine ⟨hcell 1 hm1, ?_⟩
      rw [U.mid_one]
      exact U.best_nil P
    · intro j hj
      refine ⟨⟨_, hcell j hj⟩, ?_⟩
      rw [World.frozen?_alloc_mark]
      simp
  obtain ⟨R, hR⟩ : ∃ R, w.heap.size = R := ⟨_, rfl⟩
  rw [hR] at Hst
  have hR2 := hR
  have hm6 : (m : Int) ≤ 1000000 := by omega
  have HR := Lib.hid hR2
  have HM := Lib.hid hm
  have HL := Lib.hid hlen
  have HA := Lib.hid hat
  have HP := Lib.hid hP
  rw [hR]
  clear hm hlen hat hP hR2 e1
  go_enter Tryd.func35, Tryd.ntmps35
  go_wp2_with fail
  refine (cl _).mono ?_
  rintro e w6 ⟨rfl, rfl⟩
  go_wp2
  clear hR
  go_loopw [4, 5] (fun hv iv wr => FbRel P R m w hv iv wr) (fun _ iv wr => m - (intOf iv).toNat)
  case atStart => exact Hst
  case round =>
    obtain ⟨i, h, F, rfl, rfl, hi1, him, HBst, HBk, HFr, hbel, hlt⟩ := hrel
    by_cases hks : i < m
    · have hkz : (i : Int) < (m : Int) := by omega
      have hin : 2 * i + 1 < s.size := by have := HL.out; omega
      have hbl := U.best_le HBst.out
      have hml := U.mid_length P i (by have := HM.out; omega)
      have cu := unit_any s (by omega) i hin
      obtain ⟨u, hu⟩ : ∃ u, U.unitAt (ls s) i = u := ⟨_, rfl⟩
      have HU : Hid (P.getD i 0 = u) := by show _ = _; rw [HA.out i hks, hu]
      rw [hu] at cu
      have cg := fun (W : World) (hB : Backs P F R h W) => goOn_any s (by omega) P (U.mid P i) HP.out u h R (m + 1) (m + 1) F W HBst.out (by have := HM.out; omega) (by omega) hB
      have HBh : Hid (Backs P F R h wr) := fun k h1 h2 => HBk.out k h1 (by omega)
      have HMS : Hid (U.mid P (i + 1) = U.mid P i ++ [u]) := by show _ = _; rw [U.mid_succ P i hi1 (by have := HM.out; omega), HU.out]
      obtain ⟨⟨v, hv⟩, hfz⟩ := HFr.out (i + 1) (by omega)
      clear hu hbl hml hin
      go_wp2_with fail
      refine (cl _).mono ?_
      rintro e w6 ⟨rfl, rfl⟩
      go_wp2_with fail
      refine (cu _).mono ?_
      rintro e w6 ⟨rfl, n1, rfl⟩
      go_wp2_with fail
      refine (cg _ (backs_drew HBh.out)).mono ?_
      rintro e w6 ⟨r, rfl, hr, n2, rfl⟩
      have Hr := Lib.hid hr
      clear hr
      go_wp2
      go_roundw
      case rel =>
        have hr2 : U.Best P (U.mid P (i + 1)) r := by rw [HMS.out]; exact Hr.out
        refine ⟨i + 1, r, fun k => if k = i + 1 then r else F k, by go_num, rfl, by omega, by omega, hr2, backs_set (backs_drew HBk.out) hr2 ⟨v, hv⟩, free_set (free_drew HFr.out), (below_drewN hbel _).setCell (p := ⟨R, i + 1, none⟩) (Nat.le_refl _) _, by simpa [World.setCell] using hlt⟩
      case measure => simp [intOf]; omega
    · obtain rfl : i = m := by omega
      go_wp2_with fail
      refine (cl _).mono ?_
      rintro e w6 ⟨rfl, rfl⟩
      go_wp2
      go_ret
      exact ⟨F, rfl, HBk.out, hbel, hlt⟩
end Go.Proofs.YtalhpihoblhacaaDoor
