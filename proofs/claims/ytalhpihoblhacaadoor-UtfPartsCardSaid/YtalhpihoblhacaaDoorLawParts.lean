/- The walk of the law UtfParts: for every two texts and two numbers it answers true. -/
import Derived.Test.YtalhpihoblhacaaDoorRefF
import Derived.Deep.RegionHeld3
namespace Go.Proofs.YtalhpihoblhacaaDoor
open Go.RowKit Go.Shelf
set_option linter.unusedVariables false

theorem ps_next {b N : Nat} {f t : Value} {w X Y : World} (h : X.cell? ⟨b, 0, none⟩ = some f ∧ X.cell? ⟨b, 1, none⟩ = some t ∧ Below N w X ∧ N ≤ X.heap.size) (hb : Below X.heap.size X Y) :
    Y.cell? ⟨b, 0, none⟩ = some f ∧ Y.cell? ⟨b, 1, none⟩ = some t ∧ Below N w Y ∧ N ≤ Y.heap.size := by
  obtain ⟨h1, h2, h3, h4⟩ := h
  have l1 := World.block_lt_of_cell? X _ h1
  have l2 := World.block_lt_of_cell? X _ h2
  exact ⟨(hb.cell l1).trans h1, (hb.cell l2).trans h2, h3.trans (hb.mono h4), Nat.le_trans h4 hb.size⟩

theorem ps_fin {b N : Nat} {f t : Value} {w X : World} (hN : w.heap.size = N) (h : X.cell? ⟨b, 0, none⟩ = some f ∧ X.cell? ⟨b, 1, none⟩ = some t ∧ Below N w X ∧ N ≤ X.heap.size) : Below w.heap.size w X := by
  rw [hN]
  exact h.2.2.1

set_option maxRecDepth 100000 in
set_option maxHeartbeats 4000000 in
theorem parts_long (s p : ByteArray) (hs : s.size ≤ 140737488355328) (hp : p.size ≤ 140737488355328) (f t : Int) (hl : 2000 < s.size ∨ 2000 < p.size) (w : World) (hT : Lib.Utf8Tabs 0 1 w) :
    Calls Tryd.prog 4 #[.string s, .string p, .agg #[.int .i64 f, .int .i64 t]] w fun e w' => e = .returned (.bool true) ∧ Below w.heap.size w w' := by
  have HT := Lib.hid hT
  clear hT
  have HW : Hid (Below w.heap.size w (w.alloc (.cells #[.int .i64 f, .int .i64 t] 34))) := (Below.refl _ _).alloc (Nat.le_refl _) _
  have HT2 : Hid (Lib.Utf8Tabs 0 1 (w.alloc (.cells #[.int .i64 f, .int .i64 t] 34))) := Utf8Tabs_below HT.out HW.out
  by_cases h1 : 2000 < s.size
  · have d1 : decide (2000 < (s.size : Int)) = true := decide_eq_true (by omega)
    clear hl h1
    go_enter Tryd.func4, Tryd.ntmps4
    go_wp2_with fail
    refine (awake_any _ HT2.out).mono ?_
    rintro e w1 ⟨rfl, hb1⟩
    go_wp2
    go_ret
    exact ⟨rfl, HW.out.trans (hb1.mono HW.out.size)⟩
  · have d1 : decide (2000 < (s.size : Int)) = false := decide_eq_false (by omega)
    have d2 : decide (2000 < (p.size : Int)) = true := decide_eq_true (by omega)
    clear hl h1
    go_enter Tryd.func4, Tryd.ntmps4
    go_wp2_with fail
    refine (awake_any _ HT2.out).mono ?_
    rintro e w1 ⟨rfl, hb1⟩
    go_wp2
    go_ret
    exact ⟨rfl, HW.out.trans (hb1.mono HW.out.size)⟩

set_option maxRecDepth 100000 in
set_option maxHeartbeats 8000000 in
theorem parts_short (s p : ByteArray) (hs : s.size ≤ 2000) (hp : p.size ≤ 2000) (f t : Int) (hf : f ≤ 9223372036854775807) (u v : Int) (ok : Bool)
    (hat : ∀ w : World, Calls Tryd.prog 16 #[.string s, .int .i64 f] w fun e w' => e = .returned (.tuple #[.int .i64 u, .bool ok]) ∧ ∃ n, w' = w.drewN n)
    (hrat : ∀ w : World, Calls Tryd.prog 17 #[.string s, .int .i64 f] w fun e w' => e = .returned (.int .i64 v) ∧ ∃ n, w' = w.drewN n)
    (hv : decide (0 ≤ v) = ok) (hmx : max v 0 = u) (w : World) (hT : Lib.Utf8Tabs 0 1 w) :
    Calls Tryd.prog 4 #[.string s, .string p, .agg #[.int .i64 f, .int .i64 t]] w fun e w' => e = .returned (.bool true) ∧ Below w.heap.size w w' := by
  have HT := Lib.hid hT
  clear hT
  have HW : Hid (Below w.heap.size w (w.alloc (.cells #[.int .i64 f, .int .i64 t] 34))) := (Below.refl _ _).alloc (Nat.le_refl _) _
  have HT2 : Hid (Lib.Utf8Tabs 0 1 (w.alloc (.cells #[.int .i64 f, .int .i64 t] 34))) := Utf8Tabs_below HT.out HW.out
  have d1 : decide (2000 < (s.size : Int)) = false := decide_eq_false (by omega)
  have d2 : decide (2000 < (p.size : Int)) = false := decide_eq_false (by omega)
  obtain ⟨r, hr⟩ := find_exists (U.us (ls s)) (U.us (ls p)) f.toNat
  obtain ⟨n, hn⟩ : ∃ n : Int, (s.size : Int) / 2 = n := ⟨_, rfl⟩
  have c18 := length_eq s (by omega) n hn
  have e1 : (s.size : Int).tdiv 2 = n := by rw [← hn]; exact Int.tdiv_eq_ediv_of_nonneg (by omega)
  have e2 : IntKind.i64.wrap n = n := IntWalk.i64_in _ (by omega)
  have e3 : IntKind.i64.wrap ((s.size : Int).tdiv 2) = n := by rw [e1, e2]
  have c19 := find_any s p (by omega) (by omega) f hf r hr
  have c20 := rfind_any s p (by omega) (by omega) f hf r hr
  obtain ⟨C, hC⟩ := str_mk (cutL (ls s) f t)
  have c21 := cut_eq s (by omega) f t C hC.symm
  have c22 := rcut_q s (by omega) f t hf C hC.symm
  obtain ⟨L, hL⟩ : ∃ L : ByteArray, (⟨(U.mv 65 90 97 (ls s)).toArray⟩ : ByteArray) = L := ⟨_, rfl⟩
  obtain ⟨G, hG⟩ : ∃ G : ByteArray, (⟨(U.mv 97 122 65 (ls s)).toArray⟩ : ByteArray) = G := ⟨_, rfl⟩
  have c23 := lower_any s (by omega)
  have c24f := rlower_any s (by omega)
  have c25 := upper_any s (by omega)
  have c24t := rupper_any s (by omega)
  rw [hL] at c23 c24f
  rw [hG] at c25 c24t
  clear hr hC hL hG hs hp hf hn
  obtain ⟨N, hN⟩ : ∃ N, w.heap.size = N := ⟨_, rfl⟩
  go_enter Tryd.func4, Tryd.ntmps4
  go_wp2_with fail
  refine (awake_any _ HT2.out).mono ?_
  rintro e w1 ⟨rfl, hb1⟩
  have HS : Hid (w1.cell? ⟨N, 0, none⟩ = some (.int .i64 f) ∧ w1.cell? ⟨N, 1, none⟩ = some (.int .i64 t) ∧ Below N w w1 ∧ N ≤ w1.heap.size) := by
    refine ps_next (X := w.alloc (.cells #[.int .i64 f, .int .i64 t] 34)) ⟨?_, ?_, ?_, ?_⟩ hb1
    · rw [← hN, World.cell?_alloc_mark]; rfl
    · rw [← hN, World.cell?_alloc_mark]; rfl
    · rw [← hN]; exact HW.out
    · rw [← hN]; exact HW.out.size
  obtain ⟨h1, h2, h3, h4⟩ := HS.out
  clear hb1 h3 h4
  go_wp2_with fail
  refine (hat _).mono ?_
  rintro e w2 ⟨rfl, n1, rfl⟩
  go_wp2_with fail
  refine (hrat _).mono ?_
  rintro e w2 ⟨rfl, n2, rfl⟩
  go_wp2_with fail
  have HS2 : Hid ((w1.drewN (n1 + n2)).cell? ⟨N, 0, none⟩ = some (.int .i64 f) ∧ (w1.drewN (n1 + n2)).cell? ⟨N, 1, none⟩ = some (.int .i64 t) ∧ Below N w (w1.drewN (n1 + n2)) ∧ N ≤ (w1.drewN (n1 + n2)).heap.size) := ps_next HS.out (below_of_drew _)
  obtain ⟨W1, hW1⟩ : ∃ W1, w1.drewN (n1 + n2) = W1 := ⟨_, rfl⟩
  rw [hW1] at HS2 ⊢
  have HS3 := HS2.out
  clear hW1 HS HS2 h1 h2
  go_region_held3 (fun w' => w'.cell? ⟨N, 0, none⟩ = some (.int .i64 f) ∧ w'.cell? ⟨N, 1, none⟩ = some (.int .i64 t) ∧ Below N w w' ∧ N ≤ w'.heap.size)
    (first | (exact ps_next (by assumption) (by assumption)) | (exact ps_next (by assumption) (below_of_drew 1)) | (exact ps_next (Y := World.drew _) (by assumption) ((Below.refl _ _).drew)))
    (first | (go_at_call 18; (with_reducible refine (c18 _).mono ?_); rintro e w' ⟨rfl, rfl⟩) | (go_at_call 19; (with_reducible refine (c19 _).mono ?_); rintro e w' ⟨rfl, hb⟩) | (go_at_call 20; (with_reducible refine (c20 _).mono ?_); rintro e w' ⟨rfl, hb⟩))
  all_goals go_wp2_with fail
  all_goals go_region_held3 (fun w' => w'.cell? ⟨N, 0, none⟩ = some (.int .i64 f) ∧ w'.cell? ⟨N, 1, none⟩ = some (.int .i64 t) ∧ Below N w w' ∧ N ≤ w'.heap.size) (first | assumption | (exact ps_next (by assumption) (by assumption)) | (exact ps_next (by assumption) (below_of_drew 1)) | (exact ps_next (Y := World.drew _) (by assumption) ((Below.refl _ _).drew))) (first | (go_at_call 21; (with_reducible refine (c21 _).mono ?_); rintro e w' ⟨rfl, rfl⟩) | (go_at_call 22; (with_reducible refine (c22 _).mono ?_); rintro e w' ⟨rfl, rfl⟩) | (go_at_call 23; (with_reducible refine (c23 _).mono ?_); rintro e w' ⟨rfl, hb⟩) | (go_at_call 24; (with_reducible refine (c24f _).mono ?_); rintro e w' ⟨rfl, hb⟩) | (go_at_call 25; (with_reducible refine (c25 _).mono ?_); rintro e w' ⟨rfl, hb⟩) | (go_at_call 24; (with_reducible refine (c24t _).mono ?_); rintro e w' ⟨rfl, hb⟩))
  all_goals go_wp2
  all_goals go_ret
  all_goals exact ⟨rfl, ps_fin hN (by assumption)⟩

theorem law_parts (s p : ByteArray) (f t : Int) (hs : s.size ≤ 140737488355328) (hp : p.size ≤ 140737488355328) (hf : f ≤ 9223372036854775807) (w : World) (hT : Lib.Utf8Tabs 0 1 w) :
    Calls Tryd.prog 4 #[.string s, .string p, .agg #[.int .i64 f, .int .i64 t]] w fun e w' => e = .returned (.bool true) ∧ Below w.heap.size w w' := by
  by_cases hl : 2000 < s.size ∨ 2000 < p.size
  · exact parts_long s p hs hp f t hl w hT
  · by_cases ho : f < 0 ∨ (s.size : Int) / 2 ≤ f
    · exact parts_short s p (by omega) (by omega) f t hf 0 (-1) false (at_out s hs f ho) (refAt_out s hs f ho) (by decide) (by decide) w hT
    · obtain ⟨k, rfl⟩ : ∃ k : Nat, f = k := ⟨f.toNat, by omega⟩
      exact parts_short s p (by omega) (by omega) (k : Int) t hf _ _ true (at_in s hs k (by omega)) (refAt_in s hs k (by omega)) (decide_eq_true (by omega)) (by omega) w hT
end Go.Proofs.YtalhpihoblhacaaDoor
