/- The statement LexTexts: a text of numbered units is told as it is. Conditions: those that each theorem names. -/
import Derived.Test.YthakjbmheoojeaaGreatDoorMb
namespace Go.Proofs.YthakjbmheoojeaaGreatDoor
open Go.RowKit
set_option linter.all false

theorem codeOf_append : ∀ (a b : List UInt8), a.length % 2 = 0 → X.codeOf (a ++ b) = X.codeOf a ++ X.codeOf b
  | [], b, _ => rfl
  | [_], _, h => by simp at h
  | x :: y :: a, b, h => by
    show 92 :: 117 :: (X.hx x ++ X.hx y ++ X.codeOf (a ++ b)) = 92 :: 117 :: (X.hx x ++ X.hx y ++ X.codeOf a ++ X.codeOf b)
    rw [codeOf_append a b (by simp only [List.length_cons] at h; omega), List.append_assoc (X.hx x ++ X.hx y)]
theorem codeOf_length : ∀ (a : List UInt8), a.length % 2 = 0 → (X.codeOf a).length = 3 * a.length
  | [], _ => rfl
  | [_], h => by simp at h
  | x :: y :: a, h => by
    have ih := codeOf_length a (by simp only [List.length_cons] at h; omega)
    show (X.hx x ++ X.hx y ++ X.codeOf a).length + 1 + 1 = _
    rw [List.length_append, ih]
    show 4 + _ + 1 + 1 = 3 * (a.length + 1 + 1)
    omega
theorem lst_one {B : Nat} {lv : Value} {w : World} {l : List UInt8} (h : Lst B [⟨4, l, 0, 0, false⟩] lv w) : ∃ g cap, lv = .slice (some ⟨g, 0, none⟩) 1 cap ∧ w.cell? ⟨g, 0, none⟩ = some (.int .i64 4) ∧ w.cell? ⟨g, 1, none⟩ = some (.string (bs l)) ∧ w.cell? ⟨g, 3, none⟩ = some (.int .i64 0) := by
  rcases h.2 with hn | ⟨g, cap, cur, hv, hg, hh, rest⟩
  · exact absurd hn.2 Nat.one_ne_zero
  · refine ⟨g, cap, hv, ?_, ?_, ?_⟩ <;> exact own_cell hh rest.2.2.2 _ (by simp) _ rfl

/-- One unit more. -/
theorem code_step (l : List UInt8) (c : UInt8) (k : Nat) (h : 2 * k + 1 < l.length) (b0 b1 : UInt8) (h0 : l[2 * k]? = some b0) (h1 : l[2 * k + 1]? = some b1) :
    bs (c :: X.codeOf (l.take (2 * k))) ++ (⟨#[92, 117]⟩ ++ bs [X.hd (b0.toNat / 16), X.hd (b0.toNat % 16)] ++ bs [X.hd (b1.toNat / 16), X.hd (b1.toNat % 16)]) = bs (c :: X.codeOf (l.take (2 * (k + 1)))) := by
  have e : l.take (2 * (k + 1)) = l.take (2 * k) ++ [b0, b1] := by
    rw [show 2 * (k + 1) = 2 * k + 1 + 1 by omega, List.take_succ, List.take_succ, h0, h1]
    simp
  rw [e, codeOf_append _ _ (by rw [List.length_take]; omega)]
  rw [show (⟨#[92, 117]⟩ : ByteArray) = bs [92, 117] from rfl, bs_app, bs_app, bs_app]
  rfl
theorem code_end (l : List UInt8) (c : UInt8) (k : Nat) (h : l.length = 2 * k) : bs (c :: X.codeOf (l.take (2 * k))) ++ bs [c] = bs (c :: (X.codeOf l ++ [c])) := by
  rw [bs_app, List.take_of_length_le (by omega)]
  rfl

def TextsOk (l : List UInt8) (W : World) (e : Ending) (w' : World) : Prop :=
  (∃ g cap, e = .returned (.tuple #[.slice (some ⟨g, 0, none⟩) 1 cap, .int .i64 0, .int .i64 0]) ∧ w'.cell? ⟨g, 0, none⟩ = some (.int .i64 4) ∧ w'.cell? ⟨g, 1, none⟩ = some (.string (bs l)) ∧ w'.cell? ⟨g, 3, none⟩ = some (.int .i64 0)) ∧ Below W.heap.size W w'
theorem lex_texts (N : Nat) (l : List UInt8) (hl : l.length ≤ 2000) (hev : l.length % 2 = 0) (c : UInt8) (hc : c.toNat = 34 ∨ c.toNat = 39) (W : World) (hW : Low N W) :
    Calls Tryz.prog 10 #[.string (bs (c :: (X.codeOf l ++ [c])))] W (TextsOk l W) := by
  have hx := X.lex_code X.hexNum c hc l hev
  have hlen := codeOf_length l hev
  have h := lex_any X.hexNum N (numOk_hex N) (c :: (X.codeOf l ++ [c])) (by simp only [List.length_cons, List.length_append, List.length_nil]; omega) (by rw [hx]; intro h; cases h) W hW
  rw [hx] at h
  refine h.mono ?_
  rintro e w' ⟨⟨lv, rfl, hls⟩, hb⟩
  obtain ⟨g, cap, rfl, h1, h2, h3⟩ := lst_one hls
  exact ⟨⟨g, cap, rfl, h1, h2, h3⟩, hb⟩
end Go.Proofs.YthakjbmheoojeaaGreatDoor
