/- What utf.goOn and utf.fallbacks answer: how many first units of a part a text ends with. -/
import Derived.Test.YtalhpihoblhacaaDoorNarrow
import Derived.Test.YtalhpihoblhacaaDoorKmp
import Derived.Deep.OwnRows
namespace Go.Proofs.YtalhpihoblhacaaDoor
open Go.RowKit Go.Shelf
set_option linter.unusedVariables false

/-- The first n places of the list of fallbacks, in block R. -/
def Backs (P : List Nat) (F : Nat → Nat) (R n : Nat) (w : World) : Prop := ∀ k, 1 ≤ k → k ≤ n → w.cell? ⟨R, k, none⟩ = some (.int .i64 (F k : Nat)) ∧ U.Best P (U.mid P k) (F k)
def GoOnPost (P T : List Nat) (u : Nat) (w : World) (e : Ending) (w' : World) : Prop := ∃ r : Nat, e = .returned (.int .i64 (r : Int)) ∧ U.Best P (T ++ [u]) r ∧ ∃ n, w' = w.drewN n
def GoOnRel (P T : List Nat) (u h : Nat) (w : World) (hv : Value) (wr : World) : Prop := ∃ h' n : Nat, hv = .int .i64 (h' : Int) ∧ U.Held P T u h' ∧ h' ≤ h ∧ wr = w.drewN n

set_option maxHeartbeats 4000000 in
theorem goOn_any (s : ByteArray) (hs : s.size ≤ 140737488355328) (P T : List Nat) (hP : P = U.us (ls s)) (u h R n cap : Nat) (F : Nat → Nat) (w : World) (hb : U.Best P T h) (hh : h < P.length) (hn : h < n)
    (hB : Backs P F R h w) :
    Calls Tryd.prog 36 #[.string s, .slice (some ⟨R, 0, none⟩) n cap, .int .i64 (h : Int), .int .i64 (u : Int)] w (GoOnPost P T u w) := by
  have hlen : P.length = s.size / 2 := by rw [hP, U.us_length _ _ (Nat.le_refl _), ls_length]
  have hat : ∀ i, i < P.length → P.getD i 0 = U.unitAt (ls s) i := fun i hi => by rw [hP]; exact U.us_at i (ls s) (by rw [ls_length]; omega)
  have HP := Lib.hid hlen
  have HA := Lib.hid hat
  have HB := Lib.hid hB
  have HH := Lib.hid hh
  have HN := Lib.hid hn
  have Hst : GoOnRel P T u h w (.int .i64 (h : Int)) w := ⟨h, 0, rfl, U.held_best hb, Nat.le_refl _, rfl⟩
  clear hlen hat hB hP hb hh hn
  go_enter Tryd.func36, Tryd.ntmps36
  go_wp2
  go_loopw [2] (fun hv wr => GoOnRel P T u h w hv wr) (fun hv wr => (intOf hv).toNat)
  case atStart => exact Hst
  case round =>
    obtain ⟨h', n1, rfl, hheld, hle, rfl⟩ := hrel
    have HHeld := Lib.hid hheld
    clear hheld
    have hin : 2 * h' + 1 < s.size := by have := HP.out; have := HH.out; omega
    have cu := unit_any s hs h' hin
    obtain ⟨q, hq⟩ : ∃ q, U.unitAt (ls s) h' = q := ⟨_, rfl⟩
    have HQ : Hid (P.getD h' 0 = q) := by show _ = _; rw [HA.out h' (by have := HH.out; omega), hq]
    rw [hq] at cu
    clear hq
    by_cases h0 : h' = 0
    · subst h0
      by_cases hqu : q = u
      · subst hqu
        have HR := Lib.hid (U.held_yes HHeld.out (by have := HH.out; omega) HQ.out)
        go_wp2_with fail
        refine (cu _).mono ?_
        rintro e w6 ⟨rfl, n2, rfl⟩
        go_wp2
        go_ret
        exact ⟨1, rfl, HR.out, by first | exact ⟨_, rfl⟩ | exact ⟨_, World.drewN_drewN⟩⟩
      · have HR := Lib.hid (U.held_no HHeld.out (by rw [HQ.out]; exact hqu))
        have d1 : ((q : Int) == (u : Int)) = false := by simp; omega
        have HU := Lib.hid hqu
        clear hqu
        go_wp2_with fail
        refine (cu _).mono ?_
        rintro e w6 ⟨rfl, n2, rfl⟩
        go_wp2
        go_ret
        exact ⟨0, rfl, HR.out, by first | exact ⟨_, rfl⟩ | exact ⟨_, World.drewN_drewN⟩⟩
    · have hpos : 0 < (h' : Int) := by omega
      by_cases hqu : q = u
      · subst hqu
        have HR := Lib.hid (U.held_yes HHeld.out (by have := HH.out; omega) HQ.out)
        go_wp2_with fail
        refine (cu _).mono ?_
        rintro e w6 ⟨rfl, n2, rfl⟩
        go_wp2_with fail
        refine (cu _).mono ?_
        rintro e w6 ⟨rfl, n3, rfl⟩
        go_wp2
        go_ret
        exact ⟨h' + 1, by first | rfl | exact ret_int (by omega), HR.out, by first | exact ⟨_, rfl⟩ | exact ⟨_, World.drewN_drewN⟩⟩
      · have d1 : ((q : Int) != (u : Int)) = true := by simp; omega
        have hbk := HB.out h' (by omega) hle
        have hcell := hbk.1
        have HD := Lib.hid (U.held_down HHeld.out (by omega) (by rw [HQ.out]; exact hqu) hbk.2)
        obtain ⟨f, hf⟩ : ∃ f, F h' = f := ⟨_, rfl⟩
        rw [hf] at hcell HD
        have hnz : (h' : Int) < (n : Int) := by have := HN.out; omega
        clear hqu hbk hf
        go_wp2_with fail
        refine (cu _).mono ?_
        rintro e w6 ⟨rfl, n2, rfl⟩
        go_wp2
        go_roundw
        case rel => exact ⟨f, _, rfl, HD.out.1, by have := HD.out.2; omega, by first | rfl | exact World.drewN_drewN⟩
        case measure => have := HD.out.2; simp [intOf]; omega
end Go.Proofs.YtalhpihoblhacaaDoor
