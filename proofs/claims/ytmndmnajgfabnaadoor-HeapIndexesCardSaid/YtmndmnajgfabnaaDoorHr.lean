/- Layer 8: New, Plain, Function. Conditions: those that each theorem names. -/
import Derived.Test.YtmndmnajgfabnaaDoorHq
namespace Go.Proofs.YtmndmnajgfabnaaDoor
open Go.RowKit Go.Maps
set_option linter.all false

def Hp.okRef (A : Hp) (p : Int) : Prop := p = -1 ∨ (0 ≤ p ∧ p < (A.objs.length : Int))
instance (A : Hp) (p : Int) : Decidable (A.okRef p) := by unfold Hp.okRef; exact inferInstance
def Hp.make (A : Hp) (p : Int) (o : Ob) : (Int × Int) × Hp :=
  if A.okRef p then
    match A.left with
    | 0 => ((0, 112), A)
    | n + 1 => (((A.objs.length : Int), 0), ⟨A.objs ++ [o], n⟩)
  else ((0, 3), A)
def plainO (p : Int) : Ob := ⟨1, p, 0, 0, 0, [], []⟩
def funcO (a b s : Int) : Ob := ⟨3, -1, a, b, s, [], []⟩
theorem row_nil (w : World) : w.ownsRow 0 31 4 (.slice none 0 0) 0 [] := World.ownsRow_nil w 0 _ 4
theorem Added.step {h : Nat} {A' : Hp} {O : List Nat} {w w' : World} (H : Added h A' O (.slice none 0 0) w w') : Step h A' O w w' := by
  obtain ⟨⟨O', h1, h2⟩, h3⟩ := H
  refine ⟨⟨O', h1, fun b hb => ?_⟩, h3⟩
  rcases h2 b hb with h | h | h
  · exact Or.inl h
  · exact Or.inr h
  · cases h
theorem hasOrNone_heap {h : Nat} {A : Hp} {sv : Value} {gs : List Gx} {w : World} (H : HeapG h A sv gs w) (p : Int) :
    Calls Tryd.prog 42 #[.pointer (some ⟨h, 0, none⟩), .int .i64 p] w fun e w' => e = .returned (.bool (decide (A.okRef p))) ∧ w = w' := by
  obtain ⟨sp, cap, hsv⟩ := row_slice H.row
  have hl := H.len
  have hh := H.hp
  subst hsv
  refine (hasOrNone_any h sp gs.length cap A.left p w hh).mono ?_
  rintro e w' ⟨rfl, rfl⟩
  refine ⟨ret_bool ?_, rfl⟩
  rw [Bool.eq_iff_iff]
  simp only [Bool.or_eq_true, Bool.and_eq_true, decide_eq_true_eq]
  unfold Hp.okRef
  omega
theorem add_any (h : Nat) (A : Hp) (sv : Value) (gs : List Gx) (o : Ob) (w : World) (H : HeapG h A sv gs w) (hl10 : A.left ≤ 10000) (hlen : A.objs.length ≤ 10000) (hpr : o.props = []) (hit : o.items = []) (p : Int) (hp : A.okRef p) :
    Calls Tryd.prog 43 #[.pointer (some ⟨h, 0, none⟩), .agg #[.int .i64 o.kind, .int .i64 o.proto, .map none, .pointer none, .slice none 0 0, .int .i64 o.a, .int .i64 o.b, .int .i64 o.s]] w fun e w' =>
      e = .returned (.tuple #[.int .i64 (A.make p o).1.1, .int .i64 (A.make p o).1.2]) ∧ Step h (A.make p o).2 (allBlocks h sv gs) w w' := by
  unfold Hp.make
  rw [if_pos hp]
  cases hL : A.left with
  | zero =>
    have hh := H.hp
    rw [hL] at hh
    refine (add_full h sv w hh o.kind o.proto (.slice none 0 0) o.a o.b o.s).mono ?_
    rintro e w' ⟨rfl, hf⟩
    exact ⟨rfl, Step.same ⟨sv, gs, H, rfl⟩ hf⟩
  | succ n =>
    refine (add_ok h A sv gs n o (.slice none 0 0) w H hL (by omega) hlen hpr (by rw [hit]; exact row_nil w) (fun x hx => by cases hx)).mono ?_
    rintro e w' ⟨rfl, hA⟩
    exact ⟨rfl, hA.step⟩
set_option maxHeartbeats 1000000 in
theorem plain_any (h : Nat) (A : Hp) (sv : Value) (gs : List Gx) (p : Int) (w : World) (H : HeapG h A sv gs w) (hl10 : A.left ≤ 10000) (hlen : A.objs.length ≤ 10000) :
    Calls Tryd.prog 16 #[.pointer (some ⟨h, 0, none⟩), .int .i64 p] w fun e w' =>
      e = .returned (.tuple #[.int .i64 (A.make p (plainO p)).1.1, .int .i64 (A.make p (plainO p)).1.2]) ∧ Step h (A.make p (plainO p)).2 (allBlocks h sv gs) w w' := by
  have hh := hasOrNone_heap H p
  by_cases hp : A.okRef p
  · have ha := add_any h A sv gs (plainO p) w H hl10 hlen rfl rfl p hp
    rw [decide_eq_true hp] at hh
    generalize A.make p (plainO p) = R at *
    obtain ⟨⟨r1, r2⟩, A'⟩ := R
    have ha : Calls Tryd.prog 43 #[.pointer (some ⟨h, 0, none⟩), .agg #[.int .i64 1, .int .i64 p, .map none, .pointer none, .slice none 0 0, .int .i64 0, .int .i64 0, .int .i64 0]] w fun e w' => e = .returned (.tuple #[.int .i64 r1, .int .i64 r2]) ∧ Step h A' (allBlocks h sv gs) w w' := ha
    show Calls Tryd.prog 16 #[.pointer (some ⟨h, 0, none⟩), .int .i64 p] w fun e w' => e = .returned (.tuple #[.int .i64 r1, .int .i64 r2]) ∧ Step h A' (allBlocks h sv gs) w w'
    clear H hl10 hlen hp
    go_enter Tryd.func16, Tryd.ntmps16
    go_wp2_with (first
      | (go_at_call 42; ((with_reducible refine hh.mono ?_); rintro e w1 ⟨rfl, rfl⟩))
      | (go_at_call 43; ((with_reducible refine ha.mono ?_); rintro e w2 ⟨rfl, hS⟩; have HS := Lib.hid hS; clear hS))
      | fail)
    go_ret2
    exact ⟨rfl, HS.out⟩
  · have hm : A.make p (plainO p) = ((0, 3), A) := by unfold Hp.make; rw [if_neg hp]
    rw [hm]
    rw [decide_eq_false hp] at hh
    have hS : Step h A (allBlocks h sv gs) w w := Step.same ⟨sv, gs, H, rfl⟩ (Fr.refl _ _)
    have HS := Lib.hid hS
    clear hS H hl10 hlen hp hm
    go_enter Tryd.func16, Tryd.ntmps16
    go_wp2_with (first
      | (go_at_call 42; ((with_reducible refine hh.mono ?_); rintro e w1 ⟨rfl, rfl⟩))
      | fail)
    go_ret2
    exact ⟨rfl, HS.out⟩
set_option maxHeartbeats 1000000 in
theorem function_any (h : Nat) (A : Hp) (sv : Value) (gs : List Gx) (a b p : Int) (w : World) (H : HeapG h A sv gs w) (hl10 : A.left ≤ 10000) (hlen : A.objs.length ≤ 10000) :
    Calls Tryd.prog 37 #[.pointer (some ⟨h, 0, none⟩), .int .i64 a, .int .i64 b, .int .i64 p] w fun e w' =>
      e = .returned (.tuple #[.int .i64 (A.make p (funcO a b p)).1.1, .int .i64 (A.make p (funcO a b p)).1.2]) ∧ Step h (A.make p (funcO a b p)).2 (allBlocks h sv gs) w w' := by
  have hh := hasOrNone_heap H p
  by_cases hp : A.okRef p
  · have ha := add_any h A sv gs (funcO a b p) w H hl10 hlen rfl rfl p hp
    rw [decide_eq_true hp] at hh
    generalize A.make p (funcO a b p) = R at *
    obtain ⟨⟨r1, r2⟩, A'⟩ := R
    have ha : Calls Tryd.prog 43 #[.pointer (some ⟨h, 0, none⟩), .agg #[.int .i64 3, .int .i64 (-1), .map none, .pointer none, .slice none 0 0, .int .i64 a, .int .i64 b, .int .i64 p]] w fun e w' => e = .returned (.tuple #[.int .i64 r1, .int .i64 r2]) ∧ Step h A' (allBlocks h sv gs) w w' := ha
    show Calls Tryd.prog 37 #[.pointer (some ⟨h, 0, none⟩), .int .i64 a, .int .i64 b, .int .i64 p] w fun e w' => e = .returned (.tuple #[.int .i64 r1, .int .i64 r2]) ∧ Step h A' (allBlocks h sv gs) w w'
    clear H hl10 hlen hp
    go_enter Tryd.func37, Tryd.ntmps37
    go_wp2_with (first
      | (go_at_call 42; ((with_reducible refine hh.mono ?_); rintro e w1 ⟨rfl, rfl⟩))
      | (go_at_call 43; ((with_reducible refine ha.mono ?_); rintro e w2 ⟨rfl, hS⟩; have HS := Lib.hid hS; clear hS))
      | fail)
    go_ret2
    exact ⟨rfl, HS.out⟩
  · have hm : A.make p (funcO a b p) = ((0, 3), A) := by unfold Hp.make; rw [if_neg hp]
    rw [hm]
    rw [decide_eq_false hp] at hh
    have hS : Step h A (allBlocks h sv gs) w w := Step.same ⟨sv, gs, H, rfl⟩ (Fr.refl _ _)
    have HS := Lib.hid hS
    clear hS H hl10 hlen hp hm
    go_enter Tryd.func37, Tryd.ntmps37
    go_wp2_with (first
      | (go_at_call 42; ((with_reducible refine hh.mono ?_); rintro e w1 ⟨rfl, rfl⟩))
      | fail)
    go_ret2
    exact ⟨rfl, HS.out⟩
theorem new_heap (c : Int) (w : World) :
    Calls Tryd.prog 14 #[.int .i64 c] w fun e w' => e = .returned (.pointer (some ⟨w.heap.size, 0, none⟩)) ∧ HeapG w.heap.size ⟨[], clampC c⟩ (.slice none 0 0) [] w' ∧ Fr [] w w' := by
  refine (new_any c w).mono ?_
  rintro e w' ⟨rfl, rfl⟩
  have hG : HeapG w.heap.size ⟨[], clampC c⟩ (.slice none 0 0) [] (w.alloc (.cells #[.slice none 0 0, .int .i64 (clampC c)] 72 (0, 0))) := by
    refine { hp := heap_new w _, row := World.ownsRow_nil _ 0 _ 1, len := rfl, obs := ?_, apart := ?_, lt := ?_ }
    · intro i o g ho hg
      simp at ho
    · simp [allBlocks, Value.ownBlock]
    · intro b hb
      simp [allBlocks, Value.ownBlock] at hb
      subst hb
      rw [heap_size]
      omega
  exact ⟨rfl, hG, Fr.alloc _ _⟩
end Go.Proofs.YtmndmnajgfabnaaDoor
