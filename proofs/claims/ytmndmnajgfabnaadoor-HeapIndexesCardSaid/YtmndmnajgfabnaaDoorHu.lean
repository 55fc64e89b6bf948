/- Layer 8: Key. Conditions: those that each theorem names. -/
import Derived.Test.YtmndmnajgfabnaaDoorHt
import Derived.Test.YtmndmnajgfabnaaDoorW4
namespace Go.Proofs.YtmndmnajgfabnaaDoor
open Go.RowKit Go.Maps
set_option linter.all false

/-- The tables that are read lie below block N. -/
structure Tb (N : Nat) (w : World) : Prop where
  big : 6 ≤ N
  size : N ≤ w.heap.size
  utf : Lib.Utf8Tabs 1 2 w
  pow : Lib.TabIs Tryd.prog w "internal/strconv.uint64pow10" .u64 Lib.pow10Tab
theorem gn_it : Tryd.prog.globalNamed "internal/strconv.uint64pow10" = some 3 := by kernel_rfl
theorem Tb.below {N B : Nat} {w w' : World} (h : Tb N w) (k : Below B w w') (hB : N ≤ B) : Tb N w' := by
  have h6 := h.big
  have c : ∀ (a : Addr), a.block < 6 → w'.cell? a = w.cell? a := by
    intro a ha
    unfold World.cell?
    rw [k.block a.block (by omega)]
  refine ⟨h.big, Nat.le_trans h.size k.size, ⟨fun x hx => (c _ (by show 1 < 6; decide)).trans (h.utf.1 x hx), fun i hi => ⟨(c _ (by show 2 < 6; decide)).trans (h.utf.2 i hi).1, (c _ (by show 2 < 6; decide)).trans (h.utf.2 i hi).2⟩⟩, ?_⟩
  have h2 := h.pow
  unfold Lib.TabIs World.var? at h2 ⊢
  rw [gn_it] at h2 ⊢
  simp only [Option.bind_some] at h2 ⊢
  rw [k.block _ (by show 3 < B; omega)]
  exact h2
theorem Tb.fr {N : Nat} {O : List Nat} {w w' : World} (h : Tb N w) (k : Fr O w w') (hO : ∀ b ∈ O, N ≤ b) : Tb N w' := h.below (k.below h.size hO) (Nat.le_refl _)
theorem Tb.fr0 {N : Nat} {w w' : World} (h : Tb N w) (k : Fr [] w w') : Tb N w' := h.fr k (fun b hb => by cases hb)
theorem below_growN (w : World) (k : Nat) (os : Array Obj) : Below w.heap.size w (Go.Sort.grow (w.drewN k) os) := by
  refine ⟨rfl, rfl, rfl, ?_, fun i hi => ?_⟩
  · show w.heap.size ≤ (w.heap ++ os).size
    rw [Array.size_append]; omega
  · show (w.heap ++ os)[i]? = _
    rw [Array.getElem?_append_left hi]
/-- A number's digits as a wide text. -/
def keyB (n : Int) : List UInt8 := wideL (Lib.itoa n)
theorem key_any (N : Nat) (n : Int) (h0 : -9223372036854775808 ≤ n) (h1 : n ≤ 9223372036854775807) (hsz : (Lib.itoa n).length ≤ 1000000) (w : World) (h : Tb N w) :
    Calls Tryd.prog 11 #[.int .i64 n] w fun e w' => e = .returned (.string (bs (keyB n))) ∧ Fr [] w w' := by
  have hi : Calls Tryd.prog 35 #[.int .i64 n] w fun e w' => e = .returned (.string (bs (Lib.itoa n))) ∧ Fr [] w w' ∧ Tb N w' := by
    refine (Tryd.strconv_Itoa n h0 h1 w h.pow).mono ?_
    rintro e w' ⟨rfl, k, os, rfl⟩
    have hb := below_growN w k os
    exact ⟨rfl, .of_below hb, h.below hb h.size⟩
  have hw : ∀ W, Tb N W → Calls Tryd.prog 34 #[.string (bs (Lib.itoa n))] W fun e w' => ∃ a c : Nat, e = .returned (.tuple #[.string (bs (keyB n)), .int .i64 (a : Int), .int .i64 (c : Int)]) ∧ Fr [] W w' := by
    intro W hW
    refine (wide_any (bs (Lib.itoa n)) (by rw [bs_size]; exact hsz) W hW.utf).mono ?_
    rintro e w' ⟨rfl, hb⟩
    exact ⟨_, _, rfl, .of_below hb⟩
  clear h hsz h0 h1
  generalize bs (Lib.itoa n) = S1 at *
  generalize bs (keyB n) = S2 at *
  go_enter Tryd.func11, Tryd.ntmps11
  go_wp2_with (first
    | (go_at_call 35; ((with_reducible refine hi.mono ?_); rintro e w1 ⟨rfl, hf1, ht1⟩; have F1 := Lib.hid hf1; have T1 := Lib.hid ht1; clear hf1 ht1))
    | (go_at_call 34; ((with_reducible refine (hw _ T1.out).mono ?_); rintro e w2 ⟨a, c, rfl, hf2⟩; have F2 := Lib.hid (F1.out.trans hf2 (fun _ h => by cases h)); clear hf2))
    | fail)
  go_ret
  exact ⟨rfl, F2.out⟩
end Go.Proofs.YtmndmnajgfabnaaDoor
