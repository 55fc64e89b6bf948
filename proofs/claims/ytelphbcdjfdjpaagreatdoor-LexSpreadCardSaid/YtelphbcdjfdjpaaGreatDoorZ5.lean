/- The long form in memory: what a block holds, and what a store makes of it; what is cut off at its end. Conditions: those that each theorem names. The long form's small looks: is it to be rounded up, do its digits stand ahead of a text. Conditions: those that each theorem names. -/
import Derived.Test.YtelphbcdjfdjpaaGreatDoorZ4
import Derived.Test.YtelphbcdjfdjpaaGreatDoorChecked
import Derived.WalkKit
import Derived.WalkLawsBesides
import Derived.Outline
import Derived.LoopTactic
import Derived.Lib.Builder
import Derived.Lib.Hide
import Derived.Lib.Strings
import Derived.Deep.QuietTactic
import Derived.Deep.LoopGhost
import Derived.BigQuiet
import Derived.IntWalk
import Derived.Below
namespace Go.Proofs.YtelphbcdjfdjpaaGreatDoor
open Go.RowKit
set_option linter.all false

/-- A block that holds such a number. -/
def DecAt (b : Nat) (D : Nat → Nat) (nd dp : Int) (tr : Bool) (w : World) : Prop :=
  ∃ A : Array Value, w.heap[b]? = some (.cells A 186 (0, 0)) ∧ A.size = 804 ∧ (∀ i, i < 800 → A[i]? = some (.int .u8 (D i : Int))) ∧ A[800]? = some (.int .i64 nd) ∧ A[801]? = some (.int .i64 dp) ∧ A[802]? = some (.bool false) ∧ A[803]? = some (.bool tr)
theorem dec_heap {w : World} {b i : Nat} {A : Array Value} {T : TypeId} {f : Nat × Nat} (h : w.heap[b]? = some (.cells A T f)) (x : Value) : (w.setCell ⟨b, i, none⟩ x).heap[b]? = some (.cells (A.setIfInBounds i x) T f) := by
  unfold World.setCell
  simp only [Array.getElem?_modify, if_true]
  rw [h]
  rfl
theorem dec_cell {w : World} {b i : Nat} {A : Array Value} {T : TypeId} {f : Nat × Nat} {v : Value} (h : w.heap[b]? = some (.cells A T f)) (hi : A[i]? = some v) : w.cell? ⟨b, i, none⟩ = some v := by
  rw [Lib.cell_of_heap h]
  exact hi
theorem DecAt.cells {b : Nat} {D : Nat → Nat} {nd dp : Int} {tr : Bool} {w : World} (h : DecAt b D nd dp tr w) :
    w.cell? ⟨b, 800, none⟩ = some (.int .i64 nd) ∧ w.cell? ⟨b, 801, none⟩ = some (.int .i64 dp) ∧ w.cell? ⟨b, 802, none⟩ = some (.bool false) ∧ w.cell? ⟨b, 803, none⟩ = some (.bool tr) ∧ (∀ i, w.frozen? ⟨b, i, none⟩ = false) ∧ (∀ i, i < 800 → w.cell? ⟨b, i, none⟩ = some (.int .u8 (D i : Int))) := by
  obtain ⟨A, hA, hs, hd, h0, h1, h2, h3⟩ := h
  exact ⟨dec_cell hA h0, dec_cell hA h1, dec_cell hA h2, dec_cell hA h3, fun i => Lib.frozen_of_heap hA i, fun i hi => dec_cell hA (hd i hi)⟩
theorem DecAt.drew {b : Nat} {D : Nat → Nat} {nd dp : Int} {tr : Bool} {w : World} (h : DecAt b D nd dp tr w) (n : Nat) : DecAt b D nd dp tr (w.drewN n) := h
theorem DecAt.setNd {b : Nat} {D : Nat → Nat} {nd dp : Int} {tr : Bool} {w : World} (h : DecAt b D nd dp tr w) (x : Int) : DecAt b D x dp tr (w.setCell ⟨b, 800, none⟩ (.int .i64 x)) := by
  obtain ⟨A, hA, hs, hd, h0, h1, h2, h3⟩ := h
  refine ⟨_, dec_heap hA _, by simp [hs], fun i hi => ?_, ?_, ?_, ?_, ?_⟩
  · rw [Array.getElem?_setIfInBounds_ne (by omega)]; exact hd i hi
  · rw [Array.getElem?_setIfInBounds_self_of_lt (by omega)]
  · rw [Array.getElem?_setIfInBounds_ne (by omega)]; exact h1
  · rw [Array.getElem?_setIfInBounds_ne (by omega)]; exact h2
  · rw [Array.getElem?_setIfInBounds_ne (by omega)]; exact h3
theorem DecAt.setDp {b : Nat} {D : Nat → Nat} {nd dp : Int} {tr : Bool} {w : World} (h : DecAt b D nd dp tr w) (x : Int) : DecAt b D nd x tr (w.setCell ⟨b, 801, none⟩ (.int .i64 x)) := by
  obtain ⟨A, hA, hs, hd, h0, h1, h2, h3⟩ := h
  refine ⟨_, dec_heap hA _, by simp [hs], fun i hi => ?_, ?_, ?_, ?_, ?_⟩
  · rw [Array.getElem?_setIfInBounds_ne (by omega)]; exact hd i hi
  · rw [Array.getElem?_setIfInBounds_ne (by omega)]; exact h0
  · rw [Array.getElem?_setIfInBounds_self_of_lt (by omega)]
  · rw [Array.getElem?_setIfInBounds_ne (by omega)]; exact h2
  · rw [Array.getElem?_setIfInBounds_ne (by omega)]; exact h3
theorem DecAt.setTr {b : Nat} {D : Nat → Nat} {nd dp : Int} {tr : Bool} {w : World} (h : DecAt b D nd dp tr w) (x : Bool) : DecAt b D nd dp x (w.setCell ⟨b, 803, none⟩ (.bool x)) := by
  obtain ⟨A, hA, hs, hd, h0, h1, h2, h3⟩ := h
  refine ⟨_, dec_heap hA _, by simp [hs], fun i hi => ?_, ?_, ?_, ?_, ?_⟩
  · rw [Array.getElem?_setIfInBounds_ne (by omega)]; exact hd i hi
  · rw [Array.getElem?_setIfInBounds_ne (by omega)]; exact h0
  · rw [Array.getElem?_setIfInBounds_ne (by omega)]; exact h1
  · rw [Array.getElem?_setIfInBounds_ne (by omega)]; exact h2
  · rw [Array.getElem?_setIfInBounds_self_of_lt (by omega)]
theorem DecAt.setNeg {b : Nat} {D : Nat → Nat} {nd dp : Int} {tr : Bool} {w : World} (h : DecAt b D nd dp tr w) : DecAt b D nd dp tr (w.setCell ⟨b, 802, none⟩ (.bool false)) := by
  obtain ⟨A, hA, hs, hd, h0, h1, h2, h3⟩ := h
  refine ⟨_, dec_heap hA _, by simp [hs], fun i hi => ?_, ?_, ?_, ?_, ?_⟩
  · rw [Array.getElem?_setIfInBounds_ne (by omega)]; exact hd i hi
  · rw [Array.getElem?_setIfInBounds_ne (by omega)]; exact h0
  · rw [Array.getElem?_setIfInBounds_ne (by omega)]; exact h1
  · rw [Array.getElem?_setIfInBounds_self_of_lt (by omega)]
  · rw [Array.getElem?_setIfInBounds_ne (by omega)]; exact h3
theorem DecAt.setD {b : Nat} {D : Nat → Nat} {nd dp : Int} {tr : Bool} {w : World} (h : DecAt b D nd dp tr w) (i x : Nat) (hi : i < 800) : DecAt b (PF.upd D i x) nd dp tr (w.setCell ⟨b, i, none⟩ (.int .u8 (x : Int))) := by
  obtain ⟨A, hA, hs, hd, h0, h1, h2, h3⟩ := h
  refine ⟨_, dec_heap hA _, by simp [hs], fun j hj => ?_, ?_, ?_, ?_, ?_⟩
  · by_cases he : j = i
    · rw [he, PF.upd_at, Array.getElem?_setIfInBounds_self_of_lt (by omega)]
    · rw [PF.upd_ne _ _ _ _ he, Array.getElem?_setIfInBounds_ne (by omega)]; exact hd j hj
  · rw [Array.getElem?_setIfInBounds_ne (by omega)]; exact h0
  · rw [Array.getElem?_setIfInBounds_ne (by omega)]; exact h1
  · rw [Array.getElem?_setIfInBounds_ne (by omega)]; exact h2
  · rw [Array.getElem?_setIfInBounds_ne (by omega)]; exact h3

theorem dec_drewN {B : Nat} {a w : World} (h : Below B a w) (n : Nat) : Below B a (w.drewN n) := ⟨h.os, h.tape, h.output, h.size, h.block⟩
set_option maxHeartbeats 2000000 in
theorem trim_any (B b : Nat) (D : Nat → Nat) (nd0 : Nat) (dp : Int) (tr : Bool) (hB : B ≤ b) (hn : nd0 ≤ 800) (w : World) (h : DecAt b D nd0 dp tr w) :
    Calls Tryz.prog 194 #[.pointer (some ⟨b, 0, none⟩)] w fun e w' => e = .returned (.tuple #[]) ∧ DecAt b D (PF.trimN D nd0 : Nat) (if PF.trimN D nd0 = 0 then 0 else dp) tr w' ∧ Below B w w' := by
  have H := Lib.hid h
  obtain ⟨P, hP⟩ : ∃ P, (if PF.trimN D nd0 = 0 then 0 else dp) = P := ⟨_, rfl⟩
  rw [hP]
  obtain ⟨R, hR⟩ : ∃ R, PF.trimN D nd0 = R := ⟨_, rfl⟩
  rw [hR]
  rw [hR] at hP
  have HR := Lib.hid hR
  have HP := Lib.hid hP
  clear hR h hP
  go_enter Tryz.func194, Tryz.ntmps194
  go_wp2
  go_loopg [] nd0 (fun g wr => ∃ n : Nat, n = g ∧ n ≤ nd0 ∧ Hid (DecAt b D n dp tr wr) ∧ Hid (PF.trimN D n = R) ∧ Hid (Below B w wr))
  case atStart => exact ⟨nd0, rfl, Nat.le_refl _, H, HR, Lib.hid (Below.refl _ _)⟩
  case round =>
    obtain ⟨n, hng, hn2, hd, hr, hb⟩ := hrel
    obtain ⟨c0, c1, c2, c3, fz, cd⟩ := hd.out.cells
    have f0 := fz 800
    have f1 := fz 801
    clear fz
    obtain ⟨z, hz⟩ : ∃ z : Int, (n : Int) = z := ⟨_, rfl⟩
    rw [hz] at c0
    by_cases h0 : n = 0
    · have hg : decide (0 < z) = false := decide_eq_false (by omega)
      have hg2 : (z == 0) = true := beq_iff_eq.2 (by omega)
      have hr0 : Hid (0 = R) := Lib.hid (by rw [← hr.out, h0]; rfl)
      have HZ := Lib.hid hz
      have H0 := Lib.hid h0
      clear hz cd h0
      go_wp2
      go_quiet (fail)
      go_wp2
      go_end0
      refine ⟨rfl, ?_, (dec_drewN hb.out _).setCell (p := ⟨b, 801, none⟩) hB _⟩
      rw [← hr0.out]
      have hP0 : P = 0 := by rw [← HP.out, ← hr0.out]; rfl
      rw [hP0]
      have hd2 := hd.out
      rw [H0.out] at hd2
      exact DecAt.setDp hd2 0
    · have hci := cd (n - 1) (by omega)
      obtain ⟨m, hm⟩ : ∃ m, n = m + 1 := ⟨n - 1, by omega⟩
      obtain ⟨y, hy⟩ : ∃ y : Int, z - 1 = y := ⟨_, rfl⟩
      have hw : IntKind.i64.wrap (z - 1) = y := by rw [IntWalk.i64_in _ (by omega), hy]
      have hl1 : 0 ≤ y := by omega
      have hl2 : y < 800 := by omega
      have hg : decide (0 < z) = true := decide_eq_true (by omega)
      have hmy : (m : Int) = y := by omega
      rw [show n - 1 = y.toNat by omega] at hci
      obtain ⟨x, hx⟩ : ∃ x : Int, (D y.toNat : Int) = x := ⟨_, rfl⟩
      rw [hx] at hci
      have hxm : (D m : Int) = x := by rw [← hx]; congr 2; omega
      have HZ := Lib.hid hz
      have HM := Lib.hid hm
      have HMY := Lib.hid hmy
      have HN := Lib.hid hng
      have HL := Lib.hid hn2
      clear hz cd hy hx hm hmy hng hn2 h0
      by_cases hx48 : x = 48
      · have ht : (x == 48) = true := beq_iff_eq.2 hx48
        have hr2 : Hid (PF.trimN D m = R) := Lib.hid (by
          have h := hr.out
          rw [HM.out] at h
          unfold PF.trimN at h
          rw [if_pos (by omega)] at h
          exact h)
        clear hx48 hxm
        go_wp2
        go_quiet (fail)
        go_wp2
        go_roundg m
        case measure => have := HM.out; have := HN.out; omega
        case rel => exact ⟨m, rfl, by have := HM.out; have := HL.out; omega, Lib.hid (by rw [HMY.out]; exact hd.out.setNd y), hr2, Lib.hid ((dec_drewN hb.out _).setCell (p := ⟨b, 800, none⟩) hB _)⟩
      · have ht : (x == 48) = false := beq_eq_false_iff_ne.2 hx48
        have hr2 : Hid (n = R) := Lib.hid (by
          have h := hr.out
          rw [HM.out] at h
          unfold PF.trimN at h
          rw [if_neg (by omega)] at h
          rw [HM.out]
          exact h)
        have hg2 : (z == 0) = false := beq_eq_false_iff_ne.2 (by have := HZ.out; have := HM.out; omega)
        clear hx48 hxm
        go_wp2
        go_quiet (fail)
        go_wp2
        go_end0
        refine ⟨rfl, ?_, dec_drewN hb.out _⟩
        rw [← hr2.out]
        have hP0 : P = dp := by rw [← HP.out, ← hr2.out, if_neg (by have := HM.out; omega)]
        rw [hP0]
        exact hd.out
end Go.Proofs.YtelphbcdjfdjpaaGreatDoor
namespace Go.Proofs.YtelphbcdjfdjpaaGreatDoor
open Go.RowKit
set_option linter.all false

/-- A text's byte by its place. -/
def sb (S : ByteArray) (i : Nat) : Nat := (S.data.toList.getD i 0).toNat
theorem sb_at (S : ByteArray) (i : Nat) (h : i < S.size) : (S[i]'h).toNat = sb S i := by
  unfold sb
  have h2 : i < S.data.toList.length := h
  rw [List.getD_eq_getElem?_getD, List.getElem?_eq_getElem h2, Option.getD_some, Array.getElem_toList]
  rfl
theorem drew3 (w : World) (a b c : Nat) : ((w.drewN a).drewN b).drewN c = w.drewN (a + b + c) := by rw [World.drewN_drewN, World.drewN_drewN, Nat.add_assoc]
set_option maxHeartbeats 2000000 in
theorem pil_any (b : Nat) (D : Nat → Nat) (nd : Nat) (dp : Int) (tr : Bool) (S : ByteArray) (x0 : Int) (hn : nd ≤ 800) (hS : S.size ≤ 800) (w : World) (h : DecAt b D x0 dp tr w) :
    Calls Tryz.prog 193 #[.slice (some ⟨b, 0, none⟩) nd 800, .string S] w fun e w' => e = .returned (.bool (PF.pil D (sb S) nd S.size 0)) ∧ ∃ n, w' = w.drewN n := by
  obtain ⟨R, hR⟩ : ∃ R, PF.pil D (sb S) nd S.size 0 = R := ⟨_, rfl⟩
  rw [hR]
  have HR := Lib.hid hR
  have H := Lib.hid h
  clear hR h
  go_enter Tryz.func193, Tryz.ntmps193
  go_wp2
  go_loopg [5] S.size (fun g v wr => ∃ F i : Nat, F = g ∧ i + F = S.size ∧ v = .int .i64 (i : Int) ∧ Hid (PF.pil D (sb S) nd F i = R) ∧ ∃ n, wr = w.drewN n)
  case atStart => exact ⟨S.size, 0, rfl, by omega, rfl, HR, 0, rfl⟩
  case round =>
    obtain ⟨F, i, hFg, hig, rfl, hr, m, rfl⟩ := hrel
    obtain ⟨y, hy⟩ : ∃ y : Int, (i : Int) = y := ⟨_, rfl⟩
    rw [hy]
    by_cases hend : i = S.size
    · have ht : ¬ y < (S.size : Int) := by omega
      have hr2 : Hid (R = false) := Lib.hid (by
        rw [← hr.out, show F = 0 by omega]
        rfl)
      clear hy hend
      go_wp2
      go_ret
      exact ⟨by rw [hr2.out]; rfl, _, rfl⟩
    · obtain ⟨f, hf⟩ : ∃ f, F = f + 1 := ⟨F - 1, by omega⟩
      have ht : y < (S.size : Int) := by omega
      have hr2 := hr.out
      rw [hf] at hr2
      unfold PF.pil at hr2
      by_cases h1 : nd ≤ i
      · rw [if_pos h1] at hr2
        have ht2 : (nd : Int) ≤ y := by omega
        have HR2 := Lib.hid hr2
        clear hy hend hr2 h1
        go_wp2
        go_ret
        exact ⟨by rw [← HR2.out]; rfl, _, rfl⟩
      · rw [if_neg h1] at hr2
        have ht2 : ¬ (nd : Int) ≤ y := by omega
        obtain ⟨c0, c1, c2, c3, fz, cd⟩ := H.out.cells
        have hci := cd i (by omega)
        have hSi : i < S.size := by omega
        have hsb := sb_at S i hSi
        have hiy : i = y.toNat := by omega
        obtain ⟨d, hd⟩ : ∃ d, D i = d := ⟨_, rfl⟩
        obtain ⟨s, hs⟩ : ∃ s, sb S i = s := ⟨_, rfl⟩
        rw [hd, hs] at hr2
        rw [hd] at hci
        rw [hs] at hsb
        have hw : IntKind.i64.wrap (y + 1) = y + 1 := IntWalk.i64_in _ (by omega)
        have hl0 : 0 ≤ y := by omega
        have hy2 : y.toNat < S.size := by omega
        obtain ⟨e, he⟩ : ∃ e, S[y.toNat]'hy2 = e := ⟨_, rfl⟩
        have hes : e.toNat = s := by
          rw [← he, ← hsb]
          congr 1
          simp only [hiy]
        rw [hiy] at hci
        have hly : y < 800 := by omega
        have hln : y < (nd : Int) := by omega
        have HR2 := Lib.hid hr2
        have HY := Lib.hid hy
        have HF := Lib.hid hf
        have HG := Lib.hid hFg
        have HI := Lib.hid hig
        clear hr2 hy hf hFg hig fz cd hd hs hsb hiy hend hSi h1
        by_cases hne : d = s
        · have ht3 : ((d : Int) != (e.toNat : Int)) = false := by rw [hes, hne]; simp
          have HR3 := Lib.hid (show PF.pil D (sb S) nd f (i + 1) = R by have h := HR2.out; rw [if_neg (by simpa using hne)] at h; exact h)
          go_wp2
          go_quiet (fail)
          go_wp2
          go_roundg f
          case measure => have := HF.out; have := HG.out; omega
          case rel => exact ⟨f, i + 1, rfl, by have := HF.out; have := HI.out; omega, by have := HY.out; congr 1; omega, HR3, _, rfl⟩
        · have ht3 : ((d : Int) != (e.toNat : Int)) = true := by rw [hes]; exact bne_iff_ne.2 (fun e => hne (Int.ofNat_inj.1 e))
          have HR3 := Lib.hid (show decide (d < s) = R by have h := HR2.out; rw [if_pos hne] at h; exact h)
          go_wp2
          go_quiet (fail)
          go_wp2
          go_quiet (fail)
          go_wp2
          go_ret
          refine ⟨congrArg (fun b => Ending.returned (Value.bool b)) ?_, _, drew3 _ _ _ _⟩
          rw [← HR3.out, ← hes]

/-- Is what is cut off behind p digits to be rounded up. -/
def PF.rup (D : Nat → Nat) (nd : Nat) (tr : Bool) (p : Int) : Bool :=
  if p < 0 then false else if (nd : Int) ≤ p then false else
    if D p.toNat = 53 ∧ p + 1 = nd then (if tr then true else if 0 < p then (D (p.toNat - 1) - 48) % 2 != 0 else false) else decide (53 ≤ D p.toNat)
set_option maxHeartbeats 4000000 in
theorem rup_any (b : Nat) (D : Nat → Nat) (nd : Nat) (dp p : Int) (tr : Bool) (hn : nd ≤ 800) (hD : ∀ i, i < nd → PF.Dg (D i)) (w : World) (h : DecAt b D nd dp tr w) :
    Calls Tryz.prog 192 #[.pointer (some ⟨b, 0, none⟩), .int .i64 p] w fun e w' => e = .returned (.bool (PF.rup D nd tr p)) ∧ w' = w := by
  obtain ⟨c0, c1, c2, c3, fz, cd⟩ := h.cells
  clear fz h c1 c2
  unfold PF.rup
  by_cases h0 : p < 0
  · rw [if_pos h0]
    have hg : decide (p < 0) = true := decide_eq_true h0
    clear h0 cd
    go_enter Tryz.func192, Tryz.ntmps192
    go_wp2
    go_ret
    exact ⟨rfl, rfl⟩
  · rw [if_neg h0]
    have hg : decide (p < 0) = false := decide_eq_false h0
    obtain ⟨z, hz⟩ : ∃ z : Int, (nd : Int) = z := ⟨_, rfl⟩
    rw [hz] at c0 ⊢
    by_cases h1 : z ≤ p
    · rw [if_pos h1]
      clear h0 cd
      go_enter Tryz.func192, Tryz.ntmps192
      go_wp2
      go_ret
      exact ⟨rfl, rfl⟩
    · rw [if_neg h1]
      have hci := cd p.toNat (by omega)
      have hdg := hD p.toNat (by omega)
      obtain ⟨d, hd⟩ : ∃ d, D p.toNat = d := ⟨_, rfl⟩
      rw [hd] at hci hdg ⊢
      have hl0 : 0 ≤ p := by omega
      have hl1 : p < 800 := by omega
      have hw : IntKind.i64.wrap (p + 1) = p + 1 := IntWalk.i64_in _ (by omega)
      obtain ⟨x, hx⟩ : ∃ x : Int, (d : Int) = x := ⟨_, rfl⟩
      rw [hx] at hci
      unfold PF.Dg at hdg
      by_cases h2 : d = 53 ∧ p + 1 = z
      · rw [if_pos h2]
        have hg2 : (x == 53) = true := beq_iff_eq.2 (by omega)
        have hg3 : (p + 1 == z) = true := beq_iff_eq.2 (by omega)
        cases tr with
        | true =>
          clear h2 hz hd hx h0 cd hdg
          go_enter Tryz.func192, Tryz.ntmps192
          go_wp2
          go_ret
          exact ⟨rfl, rfl⟩
        | false =>
          by_cases h3 : 0 < p
          · have hcj := cd (p.toNat - 1) (by omega)
            have hdj := hD (p.toNat - 1) (by omega)
            obtain ⟨q, hq⟩ : ∃ q : Int, p - 1 = q := ⟨_, rfl⟩
            have hw2 : IntKind.i64.wrap (p - 1) = q := by rw [IntWalk.i64_in _ (by omega), hq]
            rw [if_pos h3]
            rw [show p.toNat - 1 = q.toNat by omega] at hcj hdj ⊢
            obtain ⟨e, he⟩ : ∃ e, D q.toNat = e := ⟨_, rfl⟩
            rw [he] at hcj hdj ⊢
            unfold PF.Dg at hdj
            have hl2 : 0 ≤ q := by omega
            have hl3 : q < 800 := by omega
            have hg4 : decide (0 < p) = true := decide_eq_true h3
            have hw3 : IntKind.u8.wrap ((e : Int) - 48) = ((e - 48 : Nat) : Int) := by rw [IntWalk.u8_in _ (by omega)]; omega
            generalize e - 48 = y at hw3 ⊢
            clear h2 hz hd hx h0 cd hdg h3 hq he hdj
            go_enter Tryz.func192, Tryz.ntmps192
            go_wp2
            go_ret
            refine ⟨congrArg (fun b => Ending.returned (Value.bool b)) ?_, rfl⟩
            rw [Bool.eq_iff_iff, bne_iff_ne, beq_iff_eq]
            omega
          · rw [if_neg h3]
            have hg4 : decide (0 < p) = false := decide_eq_false h3
            clear h2 hz hd hx h0 cd hdg h3
            go_enter Tryz.func192, Tryz.ntmps192
            go_wp2
            go_ret
            exact ⟨rfl, rfl⟩
      · rw [if_neg h2]
        by_cases h4 : d = 53
        · have hg2 : (x == 53) = true := beq_iff_eq.2 (by omega)
          have hg3 : (p + 1 == z) = false := beq_eq_false_iff_ne.2 (by omega)
          have hr : decide (53 ≤ d) = true := decide_eq_true (by omega)
          rw [hr]
          have hx5 : 53 ≤ x := by omega
          clear h2 hz hd hx h0 cd hdg h4 hr
          go_enter Tryz.func192, Tryz.ntmps192
          go_wp2
          go_ret
          exact ⟨rfl, rfl⟩
        · have hg2 : (x == 53) = false := beq_eq_false_iff_ne.2 (by omega)
          have hr : decide (53 ≤ d) = decide (53 ≤ x) := by rw [← hx]; congr 1; exact propext ⟨fun h => by omega, fun h => by omega⟩
          rw [hr]
          clear h2 hz hd hx h0 cd hdg h4 hr
          go_enter Tryz.func192, Tryz.ntmps192
          go_wp2
          go_ret
          exact ⟨rfl, rfl⟩
end Go.Proofs.YtelphbcdjfdjpaaGreatDoor
