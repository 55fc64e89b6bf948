/- Layer 8: awake. Conditions: none. -/
import Derived.Test.YtmndmnajgfabnaaDoorHz
namespace Go.Proofs.YtmndmnajgfabnaaDoor
open Go.RowKit Go.Maps
set_option linter.all false

def protoB : Nat → List Ob → Bool
  | _, [] => true
  | i, o :: l => decide (o.items.length ≤ 10000) && decide (o.props.length ≤ 10000) && (decide (o.proto = -1) || (decide (0 ≤ o.proto) && decide (o.proto < (i : Int)))) && protoB (i + 1) l
def Hp.fewB (A : Hp) : Bool := decide (A.left ≤ 10000) && decide (A.objs.length ≤ 10000) && protoB 0 A.objs
theorem protoB_at : ∀ (l : List Ob) (s : Nat), protoB s l = true → ∀ (i : Nat) (o : Ob), l[i]? = some o → o.items.length ≤ 10000 ∧ o.props.length ≤ 10000 ∧ (o.proto = -1 ∨ (0 ≤ o.proto ∧ o.proto < ((s + i : Nat) : Int)))
  | [], s, _, i, o, h => by cases h
  | q :: l, s, hb, i, o, h => by
    unfold protoB at hb
    simp only [Bool.and_eq_true, Bool.or_eq_true, decide_eq_true_eq] at hb
    cases i with
    | zero =>
      simp only [List.getElem?_cons_zero, Option.some.injEq] at h
      subst h
      exact ⟨hb.1.1.1, hb.1.1.2, hb.1.2⟩
    | succ i =>
      rw [List.getElem?_cons_succ] at h
      have := protoB_at l (s + 1) hb.2 i o h
      rw [show s + 1 + i = s + (i + 1) by omega] at this
      exact this
theorem few_of {A : Hp} (h : A.fewB = true) : A.Few := by
  unfold Hp.fewB at h
  simp only [Bool.and_eq_true, decide_eq_true_eq] at h
  refine ⟨h.1.1, h.1.2, fun i o ho => (protoB_at _ _ h.2 i o ho).1, fun i o ho => (protoB_at _ _ h.2 i o ho).2.1, fun i o ho => ?_⟩
  have := (protoB_at _ _ h.2 i o ho).2.2
  simpa using this
def nv (n : Nat) : V := ⟨3, n, [], 0⟩
def kB : List UInt8 := [0, 107]
theorem ofB_k : ofB [107] = kB := by decide
theorem ofB_len8 : ofB [108, 101, 110, 103, 116, 104] = lenB := by decide
abbrev b1 : Nat := 4607182418800017408
abbrev b2 : Nat := 4611686018427387904
abbrev b5 : Nat := 4617315517961601024
def H0 : Hp := ⟨[], 7⟩
def H1 : Hp := ⟨[plainO (-1)], 6⟩
def H2 : Hp := ⟨[plainO (-1), plainO 0], 5⟩
def H3 : Hp := ⟨[plainO (-1), plainO 0, arrO [nv 4607182418800017408, nv 4611686018427387904]], 2⟩
def H4 : Hp := ⟨[⟨1, -1, 0, 0, 0, [(kB, nv 4617315517961601024)], []⟩, plainO 0, arrO [nv 4607182418800017408, nv 4611686018427387904]], 1⟩
theorem m1 : H0.make (-1) (plainO (-1)) = ((0, 0), H1) := rfl
theorem m2 : H1.make 0 (plainO 0) = ((1, 0), H2) := rfl
theorem rightV_num (m n : Nat) : rightV m (nv n) = true := by
  unfold rightV rightNum rightText rightRef nv
  simp
theorem m3 : H2.array [nv 4607182418800017408, nv 4611686018427387904] = ((2, 0), H3) := by
  unfold Hp.array
  rw [if_pos (by simp [rightV_num]), if_neg (by decide)]
  rfl
theorem m4 : H3.putOwn 0 (plainO (-1)) kB (nv 4617315517961601024) = (0, H4) := rfl
theorem m5 : (H4.find kB 1).map (·.2) = some (nv 4617315517961601024) := rfl
theorem m6 : (arrO [nv 4607182418800017408, nv 4611686018427387904]).own lenB = some (nv 4611686018427387904) := by
  unfold Ob.own
  rw [if_pos ⟨rfl, rfl⟩]
  show some (lenV 2) = _
  unfold lenV nv
  have : FloatKind.f64.nearest ((2 : Nat) : Int) = 4611686018427387904 := by kernel_rfl
  rw [this]
theorem m7 : H4.array [nv 4607182418800017408] = ((0, 112), H4) := by
  unfold Hp.array
  rw [if_pos (by simp [rightV_num]), if_pos (by decide)]
end Go.Proofs.YtmndmnajgfabnaaDoor
