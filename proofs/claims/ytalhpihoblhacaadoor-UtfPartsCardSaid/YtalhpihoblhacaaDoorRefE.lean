/- What pennantref01.Find answers: the least place of a part, from or above; -1, if there is none. -/
import Derived.Test.YtalhpihoblhacaaDoorRefD
namespace Go.Proofs.YtalhpihoblhacaaDoor
open Go.RowKit Go.Shelf
set_option linter.unusedVariables false

theorem rcut_q (s : ByteArray) (hs : s.size ≤ 4000) (f t : Int) (hf : f ≤ 9223372036854775807) (R : ByteArray) (h : cutL (ls s) f t = ls R) (w : World) :
    Calls Tryd.prog 22 #[.string s, .int .i64 f, .int .i64 t] w fun e w' => e = .returned (.string R) ∧ w' = w := by
  have e : (⟨(cutL (ls s) f t).toArray⟩ : ByteArray) = R := str_ext h
  rw [← e]
  exact (rcut_any s hs f t hf w).mono fun _ _ ⟨h1, h2⟩ => ⟨h1, h2.symm⟩

set_option maxHeartbeats 8000000 in
theorem rfind_any (s p : ByteArray) (hs : s.size ≤ 4000) (hp : p.size ≤ 4000) (z : Int) (hz1 : z ≤ 9223372036854775807) (r : Int) (hr : FindSpec (U.us (ls s)) (U.us (ls p)) z.toNat r) (w : World) :
    Calls Tryd.prog 20 #[.string s, .string p, .int .i64 z] w fun e w' => e = .returned (.int .i64 r) ∧ Below w.heap.size w w' := by
  obtain ⟨n, hn⟩ : ∃ n, s.size / 2 = n := ⟨_, rfl⟩
  obtain ⟨m, hm⟩ : ∃ m, p.size / 2 = m := ⟨_, rfl⟩
  have hWl : (U.us (ls s)).length = n := by rw [U.us_length _ _ (Nat.le_refl _), ls_length, hn]
  have hPl : (U.us (ls p)).length = m := by rw [U.us_length _ _ (Nat.le_refl _), ls_length, hm]
  have c1 := rlength_eq p (by omega) (m : Int) (by omega)
  have c2 := rlength_eq s (by omega) (n : Int) (by omega)
  obtain ⟨T, hT⟩ := str_mk ((ls p).take (2 * m))
  have hTl : (ls T).length = 2 * m := by rw [hT, List.length_take, ls_length]; omega
  have hTu : U.us (ls T) = U.us (ls p) := by rw [hT, U.us_take, List.take_of_length_le (by omega)]
  have HSt : Hid (∀ i, i + m ≤ n → (U.StandsAt (U.us (ls s)) (U.us (ls p)) i ↔ cutL (ls s) (i : Int) ((i : Int) + (m : Int)) = ls T)) := fun i hi => by
    rw [← hTu]
    exact stands_iff (ls s) (ls T) i m hTl (by rw [ls_length]; omega)
  have hsl : ∀ wx : World, (Instr.slice 9 (.string p) none (some (.int .i64 (2 * (m : Int)))) none).run Tryd.prog wx = .ok (.string T) wx := by
    intro wx
    rw [run_slice_string_h wx 9 p Tryd.underlying9 .i64 (2 * (m : Int)) (by omega) (by omega)]
    have q1 : (2 * (m : Int)).toNat = 2 * m := by omega
    rw [q1]
    have e : p.extract 0 (2 * m) = T := str_ext (by
      rw [hT]
      show (p.extract 0 (2 * m)).data.toList = _
      rw [Lib.extract_data]
      simp)
    rw [e]
  obtain ⟨a, ha⟩ : ∃ a : Nat, z.toNat = a := ⟨_, rfl⟩
  have hmx : max z 0 = (a : Int) := by omega
  have ha9 : (a : Int) ≤ 9223372036854775807 := by omega
  rw [ha] at hr
  have HR := Lib.hid hr
  have HWl := Lib.hid hWl
  have HPl := Lib.hid hPl
  have hn4 : (n : Int) ≤ 2000 := by omega
  have hm4 : (m : Int) ≤ 2000 := by omega
  clear hr hWl hPl hT hTl hTu ha hn hm
  go_enter Tryd.func20, Tryd.ntmps20
  go_wp2_with fail
  refine (c1 _).mono ?_
  rintro e w6 ⟨rfl, rfl⟩
  go_wp2
  go_loopw [8] (fun iv wr => ∃ i : Nat, iv = .int .i64 (i : Int) ∧ a ≤ i ∧ Hid (∀ j, a ≤ j → j < i → ¬ U.StandsAt (U.us (ls s)) (U.us (ls p)) j) ∧ Below w.heap.size w wr) (fun iv wr => n + 1 - (intOf iv).toNat)
  case atStart => exact ⟨a, rfl, Nat.le_refl _, fun j h1 h2 => by omega, Below.refl _ _⟩
  case round =>
    obtain ⟨i, rfl, hai, HNo, hbel⟩ := hrel
    by_cases hin : i + m ≤ n
    · have hiz : (i : Int) ≤ (n : Int) - (m : Int) := by omega
      have hi4 : (i : Int) ≤ 2000 := by omega
      have e1 : IntKind.i64.wrap ((i : Int) + (m : Int)) = (i : Int) + (m : Int) := IntWalk.i64_in _ (by omega)
      have e2 : IntKind.i64.wrap (2 * (m : Int)) = 2 * (m : Int) := IntWalk.i64_in _ (by omega)
      by_cases hst : U.StandsAt (U.us (ls s)) (U.us (ls p)) i
      · have cc := rcut_q s hs (i : Int) ((i : Int) + (m : Int)) (by omega) T ((HSt.out i hin).1 hst)
        have HF : Hid ((i : Int) = r) := find_unique (.inr ⟨i, rfl, hai, hst, HNo.out⟩) HR.out
        clear hst hin hai
        go_wp2_with fail
        refine (c2 _).mono ?_
        rintro e w6 ⟨rfl, rfl⟩
        go_wp2_with fail
        go_quiet ((go_at_call 22; exact Calls.quiet_of_same (cc _)))
        go_wp2
        go_ret
        exact ⟨ret_int HF.out, below_drewN hbel _⟩
      · obtain ⟨A, hA⟩ := str_mk (cutL (ls s) (i : Int) ((i : Int) + (m : Int)))
        have cc := rcut_q s hs (i : Int) ((i : Int) + (m : Int)) (by omega) A hA.symm
        have hAp : (A.toList == T.toList) = false := by
          rw [Lib.toList_data, Lib.toList_data]
          simp only [beq_eq_false_iff_ne, ne_eq]
          intro h
          exact hst ((HSt.out i hin).2 (by rw [← hA]; exact h))
        have HST := Lib.hid hst
        have HAI := Lib.hid hai
        have HIN := Lib.hid hin
        clear hst hin hai hA
        go_wp2_with fail
        refine (c2 _).mono ?_
        rintro e w6 ⟨rfl, rfl⟩
        go_wp2_with fail
        go_quiet ((go_at_call 22; exact Calls.quiet_of_same (cc _)))
        go_wp2
        go_roundw
        case rel =>
          refine ⟨i + 1, by go_num, by have := HAI.out; omega, fun j h1 h2 => ?_, below_drewN hbel _⟩
          by_cases e : j = i
          · subst e; exact HST.out
          · exact HNo.out j h1 (by omega)
        case measure => have := HIN.out; simp [intOf]; omega
    · have HF : Hid (-1 = r) := find_unique (.inl ⟨rfl, fun j h1 hst => by
        by_cases hj : j < i
        · exact HNo.out j h1 hj hst
        · have := hst.1
          have := HWl.out
          have := HPl.out
          omega⟩) HR.out
      have hiz : ¬ ((i : Int) ≤ (n : Int) - (m : Int)) := by omega
      clear hin hai
      go_wp2_with fail
      refine (c2 _).mono ?_
      rintro e w6 ⟨rfl, rfl⟩
      go_wp2
      go_ret
      exact ⟨ret_int HF.out, hbel⟩
end Go.Proofs.YtalhpihoblhacaaDoor
