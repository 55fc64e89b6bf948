/- awake: the lexemes of two scripts. Conditions: those that each theorem names. -/
import Derived.Test.YthakjbmheoojeaaGreatDoorLn
import Derived.Test.YthakjbmheoojeaaGreatDoorLp
namespace Go.Proofs.YthakjbmheoojeaaGreatDoor
open Go.RowKit
set_option linter.all false

theorem own_cell {w : World} {g m : Nat} {cur : Array Value} {e : TypeId} {fr : Nat × Nat} {xs : List Value} (h : w.heap[g]? = some (.cells cur e fr)) (ht : cur.toList.take m = xs) (i : Nat) (hi : i < m) (v : Value) (hv : xs[i]? = some v) : w.cell? ⟨g, i, none⟩ = some v := by
  rw [Lib.cell_of_heap h, ← hv, ← ht, List.getElem?_take, if_pos hi, Array.getElem?_toList]

def d1 : List X.Lx := [⟨1, [97, 49], 0, 0, false⟩, ⟨5, [43, 61], 0, 2, false⟩, ⟨3, [], b31, 4, false⟩, ⟨4, [0, 65], 0, 15, true⟩]
def Four (g b : Nat) (w : World) : Prop :=
    w.cell? ⟨g, 1, none⟩ = some (.string ⟨#[97, 49]⟩) ∧ w.cell? ⟨g, 6, none⟩ = some (.string ⟨#[43, 61]⟩) ∧ w.cell? ⟨g, 12, none⟩ = some (.float .f64 b) ∧ w.cell? ⟨g, 19, none⟩ = some (.bool true) ∧ w.cell? ⟨g, 16, none⟩ = some (.string ⟨#[0, 65]⟩)
theorem lst_four {B : Nat} {lv : Value} {w : World} (h : Lst B d1 lv w) : ∃ g cap, lv = .slice (some ⟨g, 0, none⟩) 4 cap ∧ ∀ w', Below w.heap.size w w' → Four g b31 w' := by
  rcases h.2 with hn | ⟨g, cap, cur, hv, hg, hh, rest⟩
  · exact absurd hn.2 (by decide)
  · refine ⟨g, cap, hv, fun w' hb => ?_⟩
    have hh2 := Below.keep hb hh
    refine ⟨?_, ?_, ?_, ?_, ?_⟩ <;> exact own_cell hh2 rest.2.2.2 _ (by decide) _ (by kernel_rfl)

set_option maxHeartbeats 4000000 in
theorem awake_any (N : Nat) (w : World) (hl : Low N w) :
    Calls Tryz.prog 9 #[] w fun e w' => e = .returned (.bool true) ∧ Below w.heap.size w w' := by
  have h1 : ∀ W, Low N W → Calls Tryz.prog 10 #[.string ⟨#[97, 49, 43, 61, 48, 120, 49, 70, 32, 47, 42, 10, 42, 47, 32, 34, 92, 120, 52, 49, 34]⟩] W fun e w' => (∃ g cap, e = .returned (.tuple #[.slice (some ⟨g, 0, none⟩) 4 cap, .int .i64 0, .int .i64 0]) ∧ ∀ w2, Below w'.heap.size w' w2 → Four g b31 w2) ∧ Below W.heap.size W w' := by
    intro W hW
    have h := lex_any X.hexNum N (numOk_hex N) [97, 49, 43, 61, 48, 120, 49, 70, 32, 47, 42, 10, 42, 47, 32, 34, 92, 120, 52, 49, 34] (by decide) (by rw [try1]; intro h; cases h) W hW
    rw [try1] at h
    refine h.mono ?_
    rintro e w' ⟨⟨lv, rfl, hls⟩, hb⟩
    obtain ⟨g, cap, rfl, h4⟩ := lst_four hls
    exact ⟨⟨g, cap, rfl, h4⟩, hb⟩
  have h2 : ∀ W, Low N W → Calls Tryz.prog 10 #[.string ⟨#[120, 32, 48, 49]⟩] W fun e w' => e = .returned (.tuple #[.slice none 0 0, .int .i64 2, .int .i64 50]) ∧ Below W.heap.size W w' := by
    intro W hW
    have h := lex_any X.hexNum N (numOk_hex N) [120, 32, 48, 49] (by decide) (by rw [try2]; intro h; cases h) W hW
    rw [try2] at h
    exact h
  have h3 : ∀ W, Low N W → Calls Tryz.prog 13 #[.string ⟨#[105, 102]⟩] W fun e w' => e = .returned (.bool true) ∧ W = w' := fun W hW => word_any N [105, 102] (by decide) W hW.words
  have h4 : ∀ W, Low N W → Calls Tryz.prog 15 #[.string ⟨#[105, 102]⟩] W fun e w' => e = .returned (.bool false) ∧ W = w' := fun W hW => nameF_any N [105, 102] (by decide) W hW.words
  have hfl : (FloatKind.f64.format.order b31 4629418941960159232 == some Ordering.eq) = true := by kernel_rfl
  have hB := hl.size
  generalize b31 = b at h1 hfl
  have H3 := Lib.hid h3
  have H4 := Lib.hid h4
  have HL := Lib.hid hl
  clear h3 h4 hl
  go_enter Tryz.func9, Tryz.ntmps9
  go_wp2_with (first
    | ((with_reducible refine (h1 _ HL.out).mono ?_); rintro e w1 ⟨⟨g, cap, rfl, hfo⟩, hb1⟩; have HL1 := Lib.hid (HL.out.below hb1 hB); have HF := Lib.hid hfo; have HB1 := Lib.hid hb1; clear hfo hb1)
    | ((with_reducible refine (h2 _ HL1.out).mono ?_); rintro e w2 ⟨rfl, hb2⟩; obtain ⟨c1, c2, c3, c4, c5⟩ := HF.out _ hb2; have HB2 := Lib.hid hb2; have HL2 := Lib.hid (HL1.out.bel hb2); clear hb2)
    | ((with_reducible refine (H3.out _ HL2.out).mono ?_); rintro e w3 ⟨rfl, rfl⟩)
    | ((with_reducible refine (H4.out _ HL2.out).mono ?_); rintro e w3 ⟨rfl, rfl⟩))
  go_ret
  exact ⟨rfl, HB1.out.trans (HB2.out.mono HB1.out.size)⟩
end Go.Proofs.YthakjbmheoojeaaGreatDoor
