/- The document's own reading of a document's characters: what its walk carries. Conditions: those that each theorem names. A token's row that is written over: what stays. No conditions but those that each fact names. The document's own reading of a document's tokens: what its walk carries. Conditions: those that each theorem names. -/
import Derived.Test.YtdilngjolhmjnaaGreatDoorRg1
import Derived.Test.YtdilngjolhmjnaaGreatDoorPlainL
import Derived.Deep.AppendLies
import Derived.Deep.RegionHeld3
import Derived.Deep.RegionLaw
import Derived.Test.YtdilngjolhmjnaaGreatDoorSame
import Derived.Test.YtdilngjolhmjnaaGreatDoorRisesP
import Derived.ArgAppend
import Derived.Test.YtdilngjolhmjnaaGreatDoorRg5
namespace Go.Proofs.YtdilngjolhmjnaaGreatDoor
open Go.RowKit Go.Shelf
set_option linter.all false

theorem own_growE {w w6 : World} {e : TypeId} {sz B n : Nat} {lv : Value} {xs : List Value} {o : Obj} (hown : w.ownsRow B e sz lv n xs) (hB : B ≤ w.heap.size) (hg : (w.alloc o).grownBy w6 lv.ownBlock) : Below B w w6 ∧ ∀ e', e' ≠ e → KeepT e' w w6 := by
  have hrow := own_block hown
  have hal : Below w.heap.size w (w.alloc o) := (Below.refl _ _).alloc (Nat.le_refl _) _
  refine ⟨(hal.mono hB).grown hg (by have := heap_size w o; omega) (fun k hk => (hrow k hk).1), fun e' he => (KeepT.bel hal).trans (KeepT.grown hg (fun r hr => ?_))⟩
  obtain ⟨_, c, hc⟩ := hrow r hr
  exact ⟨c, e, _, Below.keep hal hc, fun h => he h.symm⟩
/-- What Read leaves. -/
def RdPost (r : Except K.Er (List Nat)) (w : World) (e : Ending) (w' : World) : Prop := Below w.heap.size w w' ∧ ∃ b, w.heap.size ≤ b ∧ e = .returned (.pointer (some ⟨b, 0, none⟩)) ∧ match r with
  | .ok cs => ∃ T C A, Sn b T C A 0 0 (0, 0) w' ∧ Sr b cs T C A w'
  | .error er => 1 ≤ er.1 ∧ er.1 ≤ 100 ∧ ∃ T C A, Sn b T C A 0 er.1 er.2 w'
def txt : List Nat → List Value
  | [] => []
  | c :: l => .string (bs (U.enc c)) :: txt l
def chr : List Nat → List Value
  | [] => []
  | c :: l => .int .i64 (c : Int) :: chr l
def pls (p : K.Pl) : List Nat → List Value
  | [] => []
  | c :: l => .int .i64 (p.1 : Int) :: .int .i64 (p.2 : Int) :: pls (K.adv p c) l
theorem txt_snoc : ∀ (l : List Nat) (c : Nat), txt (l ++ [c]) = txt l ++ [.string (bs (U.enc c))]
  | [], c => rfl
  | x :: l, c => by simp [txt, txt_snoc l c]
theorem chr_snoc : ∀ (l : List Nat) (c : Nat), chr (l ++ [c]) = chr l ++ [.int .i64 (c : Int)]
  | [], c => rfl
  | x :: l, c => by simp [chr, chr_snoc l c]
theorem pls_snoc : ∀ (l : List Nat) (p : K.Pl) (c : Nat), pls p (l ++ [c]) = pls p l ++ [.int .i64 ((K.advs p l).1 : Int), .int .i64 ((K.advs p l).2 : Int)]
  | [], p, c => rfl
  | x :: l, p, c => by
    show _ :: _ :: pls _ (l ++ [c]) = _ :: _ :: (pls _ l ++ _)
    rw [pls_snoc l _ c]
    rfl
theorem txt_at : ∀ (l : List Nat) (k c : Nat), l[k]? = some c → (txt l)[k]? = some (.string (bs (U.enc c)))
  | [], k, c, h => by simp at h
  | x :: l, 0, c, h => by simp at h; subst h; rfl
  | x :: l, k + 1, c, h => by simp at h; exact txt_at l k c h
theorem chr_at : ∀ (l : List Nat) (k c : Nat), l[k]? = some c → (chr l)[k]? = some (.int .i64 (c : Int))
  | [], k, c, h => by simp at h
  | x :: l, 0, c, h => by simp at h; subst h; rfl
  | x :: l, k + 1, c, h => by simp at h; exact chr_at l k c h
theorem pls_length : ∀ (l : List Nat) (p : K.Pl), (pls p l).length = l.length * 2
  | [], p => rfl
  | x :: l, p => by simp [pls, pls_length l]; omega
theorem pls_at : ∀ (l : List Nat) (p : K.Pl) (k : Nat), k < l.length → (pls p l)[k * 2]? = some (.int .i64 ((K.advs p (l.take k)).1 : Int)) ∧ (pls p l)[k * 2 + 1]? = some (.int .i64 ((K.advs p (l.take k)).2 : Int))
  | [], p, k, h => by simp at h
  | x :: l, p, 0, h => ⟨rfl, rfl⟩
  | x :: l, p, k + 1, h => by
    obtain ⟨h1, h2⟩ := pls_at l (K.adv p x) k (by simpa using h)
    have e1 : (k + 1) * 2 = k * 2 + 1 + 1 := by omega
    rw [e1]
    exact ⟨h1, h2⟩
theorem pls_end (l : List Nat) (k : Nat) (h : k ≤ l.length) : (pls (1, 1) l ++ [.int .i64 ((K.advs (1, 1) l).1 : Int), .int .i64 ((K.advs (1, 1) l).2 : Int)])[k * 2]? = some (.int .i64 ((pl l k).1 : Int)) ∧ (pls (1, 1) l ++ [.int .i64 ((K.advs (1, 1) l).1 : Int), .int .i64 ((K.advs (1, 1) l).2 : Int)])[k * 2 + 1]? = some (.int .i64 ((pl l k).2 : Int)) := by
  have hl := pls_length l (1, 1)
  rcases Nat.lt_or_ge k l.length with hk | hk
  · obtain ⟨h1, h2⟩ := pls_at l (1, 1) k hk
    rw [List.getElem?_append_left (by omega), List.getElem?_append_left (by omega)]
    exact ⟨h1, h2⟩
  · obtain rfl : k = l.length := by omega
    rw [List.getElem?_append_right (by omega), List.getElem?_append_right (by omega), hl]
    unfold pl
    rw [List.take_length]
    refine ⟨?_, ?_⟩
    · rw [Nat.sub_self]; rfl
    · rw [show l.length * 2 + 1 - l.length * 2 = 1 by omega]; rfl

/-- The rows so far. -/
structure RdS (N : Nat) (w : World) (p : K.Pl) (T C A : Value) (e : Nat) (q : K.Pl) (nt nc na : Nat) (xt xc xa : List Value) (W : World) : Prop where
  sn : Sn N T C A 0 e q W
  at_ : W.heap[N + 1]? = some (.cells #[.int .i64 (p.1 : Int), .int .i64 (p.2 : Int)] 29 (0, 0))
  bel : Below N w W
  rt : W.ownsRow (N + 2) 9 1 T nt xt
  rc : W.ownsRow (N + 2) 3 1 C nc xc
  ra : W.ownsRow (N + 2) 29 2 A na xa
theorem RdS.size {N : Nat} {w : World} {p : K.Pl} {T C A : Value} {e : Nat} {q : K.Pl} {nt nc na : Nat} {xt xc xa : List Value} {W : World} (h : RdS N w p T C A e q nt nc na xt xc xa W) : N + 2 ≤ W.heap.size := lt_of_heap h.at_
theorem RdS.ats {N : Nat} {w : World} {p : K.Pl} {T C A : Value} {e : Nat} {q : K.Pl} {nt nc na : Nat} {xt xc xa : List Value} {W : World} (h : RdS N w p T C A e q nt nc na xt xc xa W) : W.cell? ⟨N + 1, 0, none⟩ = some (.int .i64 (p.1 : Int)) ∧ W.cell? ⟨N + 1, 1, none⟩ = some (.int .i64 (p.2 : Int)) ∧ W.frozen? ⟨N + 1, 0, none⟩ = false ∧ W.frozen? ⟨N + 1, 1, none⟩ = false := by
  refine ⟨?_, ?_, Lib.frozen_of_heap h.at_ _, Lib.frozen_of_heap h.at_ _⟩ <;> rw [Lib.cell_of_heap h.at_] <;> rfl
theorem RdS.below {N : Nat} {w : World} {p : K.Pl} {T C A : Value} {e : Nat} {q : K.Pl} {nt nc na : Nat} {xt xc xa : List Value} {W W' : World} (h : RdS N w p T C A e q nt nc na xt xc xa W) (k : Below W.heap.size W W') : RdS N w p T C A e q nt nc na xt xc xa W' :=
  ⟨h.sn.keep k, Below.keep k h.at_, h.bel.trans (k.mono (by have := h.size; omega)), (KeepT.bel k).own h.rt, (KeepT.bel k).own h.rc, (KeepT.bel k).own h.ra⟩
/-- Blocks below the rows stay when one grows. -/
theorem RdS.grown {N : Nat} {w : World} {p : K.Pl} {T C A : Value} {e : Nat} {q : K.Pl} {nt nc na : Nat} {xt xc xa : List Value} {W : World} (h : RdS N w p T C A e q nt nc na xt xc xa W) {w6 : World} (hb : Below (N + 2) W w6) : Sn N T C A 0 e q w6 ∧ w6.heap[N + 1]? = some (.cells #[.int .i64 (p.1 : Int), .int .i64 (p.2 : Int)] 29 (0, 0)) ∧ Below N w w6 := by
  refine ⟨?_, (hb.block _ (by omega)).trans h.at_, h.bel.trans (hb.mono (by omega))⟩
  unfold Sn
  rw [hb.block _ (by omega)]
  exact h.sn
theorem sn_free {b : Nat} {T C A : Value} {i e : Nat} {p : K.Pl} {w : World} (h : Sn b T C A i e p w) : w.frozen? ⟨b, 0, none⟩ = false ∧ w.frozen? ⟨b, 1, none⟩ = false ∧ w.frozen? ⟨b, 2, none⟩ = false ∧ w.frozen? ⟨b, 4, none⟩ = false ∧ w.frozen? ⟨b, 5, none⟩ = false ∧ w.frozen? ⟨b, 6, none⟩ = false := ⟨h.free 0, h.free 1, h.free 2, h.free 4, h.free 5, h.free 6⟩
theorem RdS.pushC {N : Nat} {w : World} {p : K.Pl} {T C A : Value} {e : Nat} {q : K.Pl} {nt nc na : Nat} {xt xc xa : List Value} {W : World} (h : RdS N w p T C A e q nt nc na xt xc xa W) {o : Obj} {w6 : World} {v : Value} {n6 : Nat} {x6 : List Value} (hown6 : w6.ownsRow (N + 2) 3 1 v n6 x6) (hg : (W.alloc o).grownBy w6 C.ownBlock) :
    RdS N w p T v A e q nt n6 na xt x6 xa (w6.setCell ⟨N, 1, none⟩ v) := by
  obtain ⟨hb, hk⟩ := own_growE h.rc h.size hg
  obtain ⟨h1, h2, h3⟩ := h.grown hb
  have hs : ∀ e', e' ≠ 64 → KeepT e' w6 (w6.setCell ⟨N, 1, none⟩ v) := fun e' he => KeepT.set h1 he 1 v
  refine ⟨?_, (Below.heap_setCell _ _ _ _ (by simp)).trans h2, h3.setCell (p := ⟨N, 1, none⟩) (Nat.le_refl _) _, (hs 9 (by decide)).own ((hk 9 (by decide)).own h.rt), (hs 3 (by decide)).own hown6, (hs 29 (by decide)).own ((hk 29 (by decide)).own h.ra)⟩
  exact heap_set h1 1 v
theorem RdS.pushT {N : Nat} {w : World} {p : K.Pl} {T C A : Value} {e : Nat} {q : K.Pl} {nt nc na : Nat} {xt xc xa : List Value} {W : World} (h : RdS N w p T C A e q nt nc na xt xc xa W) {o : Obj} {w6 : World} {v : Value} {n6 : Nat} {x6 : List Value} (hown6 : w6.ownsRow (N + 2) 9 1 v n6 x6) (hg : (W.alloc o).grownBy w6 T.ownBlock) :
    RdS N w p v C A e q n6 nc na x6 xc xa (w6.setCell ⟨N, 0, none⟩ v) := by
  obtain ⟨hb, hk⟩ := own_growE h.rt h.size hg
  obtain ⟨h1, h2, h3⟩ := h.grown hb
  have hs : ∀ e', e' ≠ 64 → KeepT e' w6 (w6.setCell ⟨N, 0, none⟩ v) := fun e' he => KeepT.set h1 he 0 v
  refine ⟨?_, (Below.heap_setCell _ _ _ _ (by simp)).trans h2, h3.setCell (p := ⟨N, 0, none⟩) (Nat.le_refl _) _, (hs 9 (by decide)).own hown6, (hs 3 (by decide)).own ((hk 3 (by decide)).own h.rc), (hs 29 (by decide)).own ((hk 29 (by decide)).own h.ra)⟩
  exact heap_set h1 0 v
theorem RdS.pushA {N : Nat} {w : World} {p : K.Pl} {T C A : Value} {e : Nat} {q : K.Pl} {nt nc na : Nat} {xt xc xa : List Value} {W : World} (h : RdS N w p T C A e q nt nc na xt xc xa W) {o : Obj} {w6 : World} {v : Value} {n6 : Nat} {x6 : List Value} (hown6 : w6.ownsRow (N + 2) 29 2 v n6 x6) (hg : (W.alloc o).grownBy w6 A.ownBlock) :
    RdS N w p T C v e q nt nc n6 xt xc x6 (w6.setCell ⟨N, 2, none⟩ v) := by
  obtain ⟨hb, hk⟩ := own_growE h.ra h.size hg
  obtain ⟨h1, h2, h3⟩ := h.grown hb
  have hs : ∀ e', e' ≠ 64 → KeepT e' w6 (w6.setCell ⟨N, 2, none⟩ v) := fun e' he => KeepT.set h1 he 2 v
  refine ⟨?_, (Below.heap_setCell _ _ _ _ (by simp)).trans h2, h3.setCell (p := ⟨N, 2, none⟩) (Nat.le_refl _) _, (hs 9 (by decide)).own ((hk 9 (by decide)).own h.rt), (hs 3 (by decide)).own ((hk 3 (by decide)).own h.rc), (hs 29 (by decide)).own hown6⟩
  exact heap_set h1 2 v
theorem RdS.setP {N : Nat} {w : World} {p : K.Pl} {T C A : Value} {e : Nat} {q : K.Pl} {nt nc na : Nat} {xt xc xa : List Value} {W : World} (h : RdS N w p T C A e q nt nc na xt xc xa W) (i : Nat) (v : Value) (p' : K.Pl) (hp : (#[.int .i64 (p.1 : Int), .int .i64 (p.2 : Int)] : Array Value).setIfInBounds i v = #[.int .i64 (p'.1 : Int), .int .i64 (p'.2 : Int)]) :
    RdS N w p' T C A e q nt nc na xt xc xa (W.setCell ⟨N + 1, i, none⟩ v) := by
  have hb : Bar (N + 1) W (W.setCell ⟨N + 1, i, none⟩ v) := Bar.set W i v
  have own : ∀ {e' : TypeId} {sz n : Nat} {lv : Value} {xs : List Value}, W.ownsRow (N + 2) e' sz lv n xs → (W.setCell ⟨N + 1, i, none⟩ v).ownsRow (N + 2) e' sz lv n xs := by
    intro e' sz n lv xs ho
    refine ⟨ho.1, ?_⟩
    rcases ho.2 with hn | ⟨g, cap, cur, h1, h2, h3, rest⟩
    · exact .inl hn
    · exact .inr ⟨g, cap, cur, h1, h2, (Below.heap_setCell _ _ _ _ (by simp; omega)).trans h3, rest⟩
  refine ⟨?_, ?_, h.bel.setCell (p := ⟨N + 1, i, none⟩) (by simp) _, own h.rt, own h.rc, own h.ra⟩
  · unfold Sn
    rw [Below.heap_setCell _ _ _ _ (by simp)]
    exact h.sn
  · rw [heap_set h.at_ i v, hp]
theorem RdS.fell {N : Nat} {w : World} {p : K.Pl} {T C A : Value} {nt nc na : Nat} {xt xc xa : List Value} {W : World} (h : RdS N w p T C A 0 (0, 0) nt nc na xt xc xa W) (er : K.Er) (h1 : 1 ≤ er.1) (h2 : er.1 ≤ 100) (hN : w.heap.size = N) :
    RdPost (.error er) w (.returned (.pointer (some ⟨N, 0, none⟩))) (((W.setCell ⟨N, 4, none⟩ (.int .i64 (er.1 : Int))).setCell ⟨N, 5, none⟩ (.int .i64 (er.2.1 : Int))).setCell ⟨N, 6, none⟩ (.int .i64 (er.2.2 : Int))) := by
  have hs := h.sn
  subst hN
  refine ⟨((h.bel.setCell (p := ⟨w.heap.size, 4, none⟩) (Nat.le_refl _) _).setCell (p := ⟨w.heap.size, 5, none⟩) (Nat.le_refl _) _).setCell (p := ⟨w.heap.size, 6, none⟩) (Nat.le_refl _) _, w.heap.size, Nat.le_refl _, rfl, h1, h2, T, C, A, ?_⟩
  exact heap_set (heap_set (heap_set hs 4 _) 5 _) 6 _
theorem own_bar {b B : Nat} {w : World} {e : TypeId} {sz n : Nat} {v : Value} {xs : List Value} (h : w.ownsRow B e sz v n xs) (hn : 0 < n) (hb : b < B) : ∃ g cap, v = .slice (some ⟨g, 0, none⟩) n cap ∧ ∀ W, Bar b w W → ∀ j u, j < n * sz → xs[j]? = some u → W.cell? ⟨g, j, none⟩ = some u := by
  rcases h.2 with ⟨_, h0⟩ | ⟨g, cap, cur, hv, hg, hh, hc, _, hsz, ht⟩
  · omega
  · refine ⟨g, cap, hv, fun W hW j u hj hu => ?_⟩
    have hw := hW.keep (by omega) hh
    rw [Lib.cell_of_heap hw]
    rw [← ht, List.getElem?_take_of_lt hj] at hu
    rw [← hu]
    simp
/-- The rows of a document that has been read. -/
theorem own_slice' {w : World} {B : Nat} {e : TypeId} {sz n : Nat} {v : Value} {xs : List Value} (h : w.ownsRow B e sz v n xs) : ∃ p c, v = .slice p n c := by
  rcases h.2 with ⟨h1, h2⟩ | ⟨g, cap, cur, hv, _⟩
  · exact ⟨none, 0, by rw [h1, h2]⟩
  · exact ⟨_, _, hv⟩
/-- The rows of a document that has been read. -/
theorem RdS.done {N : Nat} {w : World} {p : K.Pl} {T C A : Value} {cs : List Nat} {W : World} (h : RdS N w p T C A 0 (0, 0) cs.length cs.length (cs.length + 1) (txt cs) (chr cs) (pls (1, 1) cs ++ [.int .i64 ((K.advs (1, 1) cs).1 : Int), .int .i64 ((K.advs (1, 1) cs).2 : Int)]) W) (hsc : K.Sc cs) (hl : cs.length ≤ 65536) (hN : w.heap.size = N) :
    RdPost (.ok cs) w (.returned (.pointer (some ⟨N, 0, none⟩))) W := by
  subst hN
  refine ⟨h.bel, w.heap.size, Nat.le_refl _, rfl, T, C, A, h.sn, hsc, hl, own_slice' h.rt, own_slice' h.rc, ?_, ?_, ?_⟩
  · intro k c hk
    have hk0 := (List.getElem?_eq_some_iff.1 hk).1
    obtain ⟨g, cap, e1, e2⟩ := own_bar (b := w.heap.size) h.rt (by omega) (by omega)
    exact ⟨g, cap, e1, fun W' hW => e2 W' hW k _ (by omega) (txt_at cs k c hk)⟩
  · intro k c hk
    have hk0 := (List.getElem?_eq_some_iff.1 hk).1
    obtain ⟨g, cap, e1, e2⟩ := own_bar (b := w.heap.size) h.rc (by omega) (by omega)
    exact ⟨g, cap, e1, fun W' hW => e2 W' hW k _ (by omega) (chr_at cs k c hk)⟩
  · obtain ⟨g, cap, e1, e2⟩ := own_bar (b := w.heap.size) h.ra (by omega) (by omega)
    refine ⟨g, cap, e1, fun k hk W' hW => ?_⟩
    obtain ⟨h1, h2⟩ := pls_end cs k hk
    exact ⟨e2 W' hW _ _ (by omega) h1, e2 W' hW _ _ (by omega) h2⟩
end Go.Proofs.YtdilngjolhmjnaaGreatDoor
namespace Go.Proofs.YtdilngjolhmjnaaGreatDoor
open Go.RowKit Go.Shelf
set_option linter.all false

/-- Only blocks from N1 up to N2 have changed. -/
structure Mut (N1 N2 : Nat) (w W : World) : Prop where
  os : W.os = w.os
  tape : W.tape = w.tape
  output : W.output = w.output
  size : w.heap.size ≤ W.heap.size
  low : ∀ k, k < N1 → W.heap[k]? = w.heap[k]?
  high : ∀ k, N2 ≤ k → k < w.heap.size → W.heap[k]? = w.heap[k]?
theorem Mut.refl (N1 N2 : Nat) (w : World) : Mut N1 N2 w w := ⟨rfl, rfl, rfl, Nat.le_refl _, fun _ _ => rfl, fun _ _ _ => rfl⟩
theorem Mut.trans {N1 N2 : Nat} {a b c : World} (h : Mut N1 N2 a b) (k : Mut N1 N2 b c) : Mut N1 N2 a c :=
  ⟨k.os.trans h.os, k.tape.trans h.tape, k.output.trans h.output, Nat.le_trans h.size k.size, fun i hi => (k.low i hi).trans (h.low i hi), fun i h2 hi => (k.high i h2 (Nat.lt_of_lt_of_le hi h.size)).trans (h.high i h2 hi)⟩
theorem Mut.set {N1 N2 : Nat} (w : World) (g i : Nat) (v : Value) (h1 : N1 ≤ g) (h2 : g < N2) : Mut N1 N2 w (w.setCell ⟨g, i, none⟩ v) :=
  ⟨rfl, rfl, rfl, by simp [World.setCell], fun k hk => Below.heap_setCell _ _ _ _ (by simp; omega), fun k hk _ => Below.heap_setCell _ _ _ _ (by simp; omega)⟩
theorem Mut.below {N1 N2 : Nat} {w W : World} (h : Below w.heap.size w W) (h1 : N1 ≤ w.heap.size) : Mut N1 N2 w W := ⟨h.os, h.tape, h.output, h.size, fun k hk => h.block k (by omega), fun k _ hk => h.block k hk⟩
theorem Mut.belowN {N1 N2 B : Nat} {w0 w W : World} (h : Below B w0 w) (k : Mut N1 N2 w W) (hB : B ≤ N1) : Below B w0 W := ⟨k.os.trans h.os, k.tape.trans h.tape, k.output.trans h.output, Nat.le_trans h.size k.size, fun i hi => (k.low i (by omega)).trans (h.block i hi)⟩
theorem own_high {N1 N2 B : Nat} {w W : World} {e : TypeId} {sz n : Nat} {v : Value} {xs : List Value} (h : w.ownsRow B e sz v n xs) (k : Mut N1 N2 w W) (hB : N2 ≤ B) : W.ownsRow B e sz v n xs := by
  refine ⟨h.1, ?_⟩
  rcases h.2 with hn | ⟨g, cap, cur, h1, h2, h3, rest⟩
  · exact .inl hn
  · exact .inr ⟨g, cap, cur, h1, h2, (k.high g (by omega) (lt_of_heap h3)).trans h3, rest⟩
theorem toks_high {N1 N2 B : Nat} {w W : World} (k : Mut N1 N2 w W) (hB : N2 ≤ B) : ∀ {l : List K.Tk} {xs : List Value}, ToksAt B w l xs → ToksAt B W l xs
  | [], _, h => h
  | _ :: _, _, ⟨av, ys, e, ho, hr⟩ => ⟨av, ys, e, own_high ho k hB, toks_high k hB hr⟩
theorem list_high {N1 N2 B : Nat} {w W : World} {toks : List K.Tk} {lv : Value} (h : ListAt B toks lv w) (k : Mut N1 N2 w W) (hB : N2 ≤ B) : ListAt B toks lv W := by
  obtain ⟨xs, ho, ht⟩ := h
  exact ⟨xs, own_high ho k hB, toks_high k hB ht⟩
/-- Blocks of cells keep their kind and their size. -/
def Shp (w W : World) : Prop := ∀ (g : Nat) (c : Array Value) (e : TypeId), w.heap[g]? = some (.cells c e (0, 0)) → ∃ c', W.heap[g]? = some (.cells c' e (0, 0)) ∧ c'.size = c.size
theorem Shp.trans {a b c : World} (h : Shp a b) (k : Shp b c) : Shp a c := fun g x e hx => by
  obtain ⟨y, hy, h1⟩ := h g x e hx
  obtain ⟨z, hz, h2⟩ := k g y e hy
  exact ⟨z, hz, h2.trans h1⟩
theorem Shp.refl (w : World) : Shp w w := fun _ c _ h => ⟨c, h, rfl⟩
theorem Shp.below {w W : World} (h : Below w.heap.size w W) : Shp w W := fun _ c _ hx => ⟨c, Below.keep h hx, rfl⟩
theorem Shp.set (w : World) (g i : Nat) (v : Value) : Shp w (w.setCell ⟨g, i, none⟩ v) := fun k c e hx => by
  by_cases hk : k = g
  · subst hk
    exact ⟨_, heap_set hx i v, by simp⟩
  · exact ⟨c, (Below.heap_setCell _ _ _ _ (by simpa using hk)).trans hx, rfl⟩
/-- A row of n attributes that a token has. -/
def AvOk (N1 N2 : Nat) (W : World) (av : Value) (n : Nat) : Prop :=
  (av = .slice none 0 0 ∧ n = 0) ∨ ∃ g cap c, av = .slice (some ⟨g, 0, none⟩) n cap ∧ N1 ≤ g ∧ g < N2 ∧ n ≤ cap ∧ cap ≤ maxLen ∧ W.heap[g]? = some (.cells c 40 (0, 0)) ∧ c.size = cap * 4
theorem AvOk.shp {N1 N2 : Nat} {w W : World} {av : Value} {n : Nat} (h : AvOk N1 N2 w av n) (k : Shp w W) : AvOk N1 N2 W av n := by
  rcases h with h | ⟨g, cap, c, h1, h2, h3, h4, h5, h6, h7⟩
  · exact .inl h
  · obtain ⟨c', k1, k2⟩ := k g c 40 h6
    exact .inr ⟨g, cap, c', h1, h2, h3, h4, h5, k1, k2.trans h7⟩
/-- From token i on all stands as it was laid; what stands elsewhere has not changed. -/
structure Lw (N1 N2 : Nat) (w : World) (toks : List K.Tk) (gl cap i : Nat) (W : World) : Prop where
  mu : Mut N1 N2 w W
  n2 : N2 ≤ w.heap.size
  g1 : N1 ≤ gl
  g2 : gl < N2
  lst : ∃ cur, W.heap[gl]? = some (.cells cur 38 (0, 0)) ∧ cur.size = cap * 7 ∧ ∀ i' t, i ≤ i' → toks[i']? = some t → ∃ av, cur[i' * 7 + 2]? = some av ∧ AvOk N1 N2 W av t.attrs.length
theorem Lw.keep {N1 N2 : Nat} {w : World} {toks : List K.Tk} {gl cap i : Nat} {W W' : World} (h : Lw N1 N2 w toks gl cap i W) (hm : Mut N1 N2 W W') (hs : Shp W W') (hk : KeepT 38 W W') : Lw N1 N2 w toks gl cap i W' := by
  obtain ⟨cur, h1, h2, h3⟩ := h.lst
  refine ⟨h.mu.trans hm, h.n2, h.g1, h.g2, cur, hk _ _ h1, h2, fun i' t hi ht => ?_⟩
  obtain ⟨av, h4, h5⟩ := h3 i' t hi ht
  exact ⟨av, h4, h5.shp hs⟩
theorem Lw.below {N1 N2 : Nat} {w : World} {toks : List K.Tk} {gl cap i : Nat} {W W' : World} (h : Lw N1 N2 w toks gl cap i W) (hb : Below W.heap.size W W') : Lw N1 N2 w toks gl cap i W' :=
  h.keep (Mut.below hb (by have := h.g1; have := h.g2; have := h.n2; have := h.mu.size; omega)) (Shp.below hb) (KeepT.bel hb)
theorem Lw.attr {N1 N2 : Nat} {w : World} {toks : List K.Tk} {gl cap i : Nat} {W : World} (h : Lw N1 N2 w toks gl cap i W) {g : Nat} {c : Array Value} (hg : W.heap[g]? = some (.cells c 40 (0, 0))) (h1 : N1 ≤ g) (h2 : g < N2) (k : Nat) (v : Value) : Lw N1 N2 w toks gl cap i (W.setCell ⟨g, k, none⟩ v) :=
  h.keep (Mut.set W g k v h1 h2) (Shp.set W g k v) (KeepT.set hg (by decide) k v)
theorem Lw.room {N1 N2 : Nat} {w : World} {toks : List K.Tk} {gl cap i g : Nat} (h1 : N1 ≤ g) (h2 : g < N2) : ∀ (vs : List Value) (o : Nat) {W : World} {c : Array Value}, Lw N1 N2 w toks gl cap i W → W.heap[g]? = some (.cells c 40 (0, 0)) → Lw N1 N2 w toks gl cap i (W.setCells g o vs)
  | [], _, _, _, h, _ => h
  | v :: vs, o, W, c, h, hg => Lw.room h1 h2 vs (o + 1) (h.attr hg h1 h2 o v) (heap_set hg o v)
theorem Lw.grow {N1 N2 : Nat} {w : World} {toks : List K.Tk} {gl cap i : Nat} {W W' : World} (h : Lw N1 N2 w toks gl cap i W) (hg : W.grownBy W' none) : Lw N1 N2 w toks gl cap i W' :=
  h.below ⟨hg.os, hg.tape, hg.output, hg.size, fun k hk => hg.block k hk (by simp)⟩
theorem Lw.put {N1 N2 : Nat} {w : World} {toks : List K.Tk} {gl cap i : Nat} {W : World} (h : Lw N1 N2 w toks gl cap i W) (i2 : Nat) (hi : i ≤ i2) (o : Nat) (ho : o < i2 * 7) (v : Value) : Lw N1 N2 w toks gl cap i2 (W.setCell ⟨gl, o, none⟩ v) := by
  obtain ⟨cur, h1, h2, h3⟩ := h.lst
  refine ⟨h.mu.trans (Mut.set W gl o v h.g1 h.g2), h.n2, h.g1, h.g2, _, heap_set h1 o v, by simpa using h2, fun i' t hi' ht => ?_⟩
  obtain ⟨av, h4, h5⟩ := h3 i' t (by omega) ht
  refine ⟨av, ?_, h5.shp (Shp.set W gl o v)⟩
  rw [Array.getElem?_setIfInBounds_ne (by omega)]
  exact h4
theorem Lw.at {N1 N2 : Nat} {w : World} {toks : List K.Tk} {gl cap i : Nat} {W : World} (h : Lw N1 N2 w toks gl cap i W) (hc : toks.length ≤ cap) {t : K.Tk} (ht : toks[i]? = some t) :
    ∃ av v1, W.cell? ⟨gl, i * 7 + 2, none⟩ = some av ∧ W.cell? ⟨gl, i * 7 + 1, none⟩ = some v1 ∧ W.frozen? ⟨gl, i * 7 + 2, none⟩ = false ∧ W.frozen? ⟨gl, i * 7 + 1, none⟩ = false ∧ AvOk N1 N2 W av t.attrs.length := by
  obtain ⟨cur, h1, h2, h3⟩ := h.lst
  obtain ⟨av, h4, h5⟩ := h3 i t (Nat.le_refl _) ht
  have hi : i < toks.length := (List.getElem?_eq_some_iff.1 ht).1
  have hlt : i * 7 + 1 < cur.size := by rw [h2]; omega
  refine ⟨av, cur[i * 7 + 1], ?_, ?_, Lib.frozen_of_heap h1 _, Lib.frozen_of_heap h1 _, h5⟩
  · rw [Lib.cell_of_heap h1]; exact h4
  · rw [Lib.cell_of_heap h1]; exact Array.getElem?_eq_getElem hlt
theorem AvOk.cells {N1 N2 : Nat} {W : World} {g n cap : Nat} {c : Array Value} (hg : W.heap[g]? = some (.cells c 40 (0, 0))) (hn : n < cap) (hc : c.size = cap * 4) (j : Nat) (hj : j < 4) : ∃ v, W.cell? ⟨g, n * 4 + j, none⟩ = some v ∧ W.frozen? ⟨g, n * 4 + j, none⟩ = false := by
  have hlt : n * 4 + j < c.size := by rw [hc]; omega
  refine ⟨c[n * 4 + j], ?_, Lib.frozen_of_heap hg _⟩
  rw [Lib.cell_of_heap hg]; exact Array.getElem?_eq_getElem hlt
theorem AvOk.own {N1 N2 : Nat} {W : World} {av : Value} {n : Nat} (h : AvOk N1 N2 W av n) : ∃ p c, av = .slice p n c := by
  rcases h with ⟨h1, h2⟩ | ⟨g, cap, c, h1, _⟩
  · exact ⟨none, 0, by rw [h1, h2]⟩
  · exact ⟨_, _, h1⟩
/-- Where the law begins to write over. -/
theorem Lw.start {N1 N2 : Nat} {w1 w : World} {toks : List K.Tk} {gl n cap : Nat} (hl : ListAt N1 toks (.slice (some ⟨gl, 0, none⟩) n cap) w1) (hN : w1.heap.size = N2) (hb : Below N2 w1 w) : Lw N1 N2 w toks gl cap 0 w ∧ n = toks.length ∧ toks.length ≤ cap ∧ cap ≤ maxLen := by
  obtain ⟨xs, ho, ht⟩ := hl
  have hk := ho
  rcases ho.2 with ⟨h0, _⟩ | ⟨g, cap', cur, h1, h2, h3, h4, h5, h6, h7⟩
  · cases h0
  · injection h1 with e1 e2 e3
    injection e1 with e1
    injection e1 with e1
    subst e1 e2 e3
    have hlt : gl < w1.heap.size := lt_of_heap h3
    have kp : ∀ {k : Nat} {o : Obj}, w1.heap[k]? = some o → w.heap[k]? = some o := fun {k} {o} hx => by rw [hb.block k (by rw [← hN]; exact lt_of_heap hx)]; exact hx
    refine ⟨⟨Mut.refl _ _ _, by have := hb.size; omega, h2, by omega, cur, kp h3, h6, fun i' t _ hi => ?_⟩, rfl, h4, h5⟩
    obtain ⟨av, ha, hc⟩ := toks_cells ht i' t hi
    have hi' : i' < toks.length := (List.getElem?_eq_some_iff.1 hi).1
    refine ⟨av, ?_, ?_⟩
    · have h8 := hc 2 (by decide)
      rw [← h7, List.getElem?_take_of_lt (by omega)] at h8
      simpa using h8
    · rcases ha.2 with ⟨a1, a2⟩ | ⟨ga, capa, ca, a1, a2, a3, a4, a5, a6, a7⟩
      · exact .inl ⟨a1, a2⟩
      · exact .inr ⟨ga, capa, ca, a1, a2, by have := lt_of_heap a3; omega, a4, a5, kp a3, a6⟩
theorem list_nil {B n c : Nat} {toks : List K.Tk} {w : World} (h : ListAt B toks (.slice none n c) w) : n = 0 ∧ toks = [] ∧ c = 0 := by
  obtain ⟨xs, ho, _⟩ := h
  rcases ho.2 with ⟨h1, h2⟩ | ⟨g, cap, cur, h1, _⟩
  · injection h1 with _ e1 e2
    exact ⟨e1, List.eq_nil_of_length_eq_zero h2, e2⟩
  · injection h1 with e0
    cases e0
theorem list_some {B n c : Nat} {a : Addr} {toks : List K.Tk} {w : World} (h : ListAt B toks (.slice (some a) n c) w) : ∃ gl, a = ⟨gl, 0, none⟩ := by
  obtain ⟨xs, ho, _⟩ := h
  rcases ho.2 with ⟨h1, h2⟩ | ⟨g, cap, cur, h1, _⟩
  · cases h1
  · injection h1 with e0
    injection e0 with e0
    exact ⟨g, e0⟩
/-- No token has more attributes than letters stand there. -/
def Few (M : Nat) (l : List K.Tk) : Prop := ∀ x ∈ l, x.attrs.length ≤ M
theorem Few.snoc {M : Nat} {l : List K.Tk} {k : K.Tk} (h : Few M l) (hk : k.attrs.length ≤ M) : Few M (l ++ [k]) := by
  intro x hx
  rcases List.mem_append.1 hx with hx | hx
  · exact h x hx
  · simp only [List.mem_singleton] at hx; rw [hx]; exact hk
theorem Few.ends {M : Nat} {t : K.Told} (h : Few M t.toks) : Few M (K.endText t) := by
  unfold K.endText
  split
  · exact h
  · exact h.snoc (Nat.zero_le _)
theorem attrsF_len' : ∀ (f : Nat) (s : K.St) (acc l : List K.At) (s2 : K.St), K.attrsF f s acc = .ok (l, s2) → l.length + s2.1.length ≤ acc.length + s.1.length
  | 0, s, acc, l, s2, h => by
    unfold K.attrsF at h
    simp only [Except.ok.injEq, Prod.mk.injEq] at h
    rw [← h.1, ← h.2]; exact Nat.le_refl _
  | f + 1, s, acc, l, s2, h => by
    unfold K.attrsF at h
    have hb : (K.blanks s).1.length ≤ s.1.length := skip_le _ _
    split at h
    · simp only [Except.ok.injEq, Prod.mk.injEq] at h
      rw [← h.1, ← h.2]; omega
    · cases ha : K.attr1 (K.blanks s) with
      | error e => rw [ha] at h; cases h
      | ok q =>
        obtain ⟨a, s1⟩ := q
        rw [ha] at h
        have h1 := (attr1_goes ha).2.2.2
        have h2 := attrsF_len' f s1 _ l s2 h
        simp only [List.length_append, List.length_cons, List.length_nil] at h2
        omega
theorem startTag_few {s s1 : K.St} {k : K.Tk} (h : K.startTag s = .ok (k, s1)) : k.attrs.length ≤ s.1.length := by
  unfold K.startTag at h
  cases hn : K.name (K.skip s 1) with
  | error e => rw [hn] at h; cases h
  | ok q =>
    obtain ⟨n, s2⟩ := q
    rw [hn] at h
    dsimp only at h
    cases ha : K.attrs s2 with
    | error e => rw [ha] at h; cases h
    | ok q =>
      obtain ⟨l, s3⟩ := q
      rw [ha] at h
      dsimp only at h
      have h1 := attrsF_len' _ _ _ _ _ ha
      have h2 : s2.1.length ≤ (K.skip s 1).1.length := by
        obtain ⟨a, e, _⟩ := name_goes hn
        rw [e, List.length_append]; omega
      have h3 : (K.skip s 1).1.length ≤ s.1.length := skip_le _ _
      simp only [List.length_nil] at h1
      split at h
      · cases h
      · simp only [Except.ok.injEq, Prod.mk.injEq] at h
        rw [← h.1]
        show l.length ≤ _
        omega
theorem endTag_few {s s1 : K.St} {k : K.Tk} (h : K.endTag s = .ok (k, s1)) : k.attrs.length ≤ s.1.length := by
  unfold K.endTag at h
  cases hn : K.name (K.skip s 2) with
  | error e => rw [hn] at h; cases h
  | ok q =>
    obtain ⟨n, s2⟩ := q
    rw [hn] at h
    dsimp only at h
    split at h
    · cases h
    · simp only [Except.ok.injEq, Prod.mk.injEq] at h
      rw [← h.1]
      exact Nat.zero_le _
theorem part_few {M : Nat} {s s1 : K.St} {t t1 : K.Told} (h : K.part s t = .ok (t1, s1)) (ht : Few M t.toks) (hM : s.1.length ≤ M) : Few M t1.toks := by
  rw [part_eq] at h
  have hS : ∀ {r : Except K.Er K.St}, onS t r = .ok (t1, s1) → Few M t1.toks := by
    intro r hr
    cases r with
    | error e => cases hr
    | ok s2 => simp only [onS, Except.ok.injEq, Prod.mk.injEq] at hr; rw [← hr.1]; exact ht
  have hMx : ∀ {r : Except K.Er (List Nat × K.St)}, onM t s.2 r = .ok (t1, s1) → Few M t1.toks := by
    intro r hr
    cases r with
    | error e => cases hr
    | ok q => simp only [onM, Except.ok.injEq, Prod.mk.injEq] at hr; rw [← hr.1]; exact ht
  have hTx : ∀ {r : Except K.Er (K.Tk × K.St)}, (∀ k s2, r = .ok (k, s2) → k.attrs.length ≤ M) → onT t r = .ok (t1, s1) → Few M t1.toks := by
    intro r hk hr
    cases r with
    | error e => cases hr
    | ok q =>
      obtain ⟨k, s2⟩ := q
      simp only [onT, Except.ok.injEq, Prod.mk.injEq] at hr
      rw [← hr.1]
      exact ht.ends.snoc (hk k s2 rfl)
  split at h
  · exact hS h
  split at h
  · exact hS h
  split at h
  · exact hMx h
  split at h
  · cases h
  split at h
  · cases h
  split at h
  · exact hTx (fun k s2 e => Nat.le_trans (endTag_few e) hM) h
  split at h
  · exact hTx (fun k s2 e => Nat.le_trans (startTag_few e) hM) h
  · exact hMx h
theorem partsF_few {M : Nat} : ∀ (f : Nat) (s : K.St) (t : K.Told) (l : List K.Tk), K.partsF f s t = .ok l → Few M t.toks → s.1.length ≤ M → Few M l
  | 0, s, t, l, h, ht, hM => by
    rw [K.partsF] at h
    simp only [Except.ok.injEq] at h
    rw [← h]; exact ht.ends
  | f + 1, ([], p), t, l, h, ht, hM => by
    rw [K.partsF] at h
    · simp only [Except.ok.injEq] at h
      rw [← h]; exact ht.ends
    · simp
  | f + 1, (c :: r, p), t, l, h, ht, hM => by
    rw [K.partsF] at h
    cases hp : K.part (c :: r, p) t with
    | error e => rw [hp] at h; cases h
    | ok q =>
      obtain ⟨t1, s1⟩ := q
      rw [hp] at h
      have h1 := part_lt hp
      exact partsF_few f s1 t1 l h (part_few hp ht hM) (by simp only [List.length_cons] at hM; omega)
theorem tokens_count {d : List UInt8} {toks : List K.Tk} (h : K.tokens d = .ok toks) : ∀ (i : Nat) (t : K.Tk), toks[i]? = some t → t.attrs.length ≤ 65536 := by
  have hF : Few 65536 toks := by
    rw [tokens_eq] at h
    split at h
    · cases h
    · rename_i hl
      cases hc : CF d (1, 1) [] with
      | error e => rw [hc] at h; cases h
      | ok cs =>
        rw [hc] at h
        dsimp only at h
        have hn := (CF_facts d.length d (Nat.le_refl _) _ _ _ hc (fun y hy => by cases hy)).2
        have hcs : cs.length ≤ 65536 := by
          have := K.n8_length_le cs
          have h0 : (U.n8 []).length = 0 := rfl
          omega
        unfold K.document at h
        have nl : Few 65536 ([] : List K.Tk) := fun x hx => by cases hx
        split at h
        · cases hd : K.declaration (cs, (1, 1)) with
          | error e => rw [hd] at h; cases h
          | ok s =>
            rw [hd] at h
            have := declaration_le hd
            exact partsF_few _ _ _ _ h nl (by simp only at this; omega)
        · exact partsF_few _ _ _ _ h nl hcs
  intro i t hi
  obtain ⟨hlt, rfl⟩ := List.getElem?_eq_some_iff.1 hi
  exact hF _ (List.getElem_mem hlt)
end Go.Proofs.YtdilngjolhmjnaaGreatDoor
namespace Go.Proofs.YtdilngjolhmjnaaGreatDoor
open Go.RowKit Go.Shelf
set_option linter.all false

/-- The tokens so far in row lv, the text's place in block B; the reader stands at j. -/
structure TkS (b B : Nat) (cs : List Nat) (T C A : Value) (w0 : World) (t : List K.Tk) (lv : Value) (p : K.Pl) (j e : Nat) (q : K.Pl) (W : World) : Prop where
  sn : Sn b T C A j e q W
  s0 : Sr b cs T C A w0
  bar : Bar b w0 W
  sz : w0.heap.size = B
  at_ : W.heap[B]? = some (.cells #[.int .i64 (p.1 : Int), .int .i64 (p.2 : Int)] 29 (0, 0))
  hb : b < B
  list : ∃ xs, W.ownsRow B 38 7 lv t.length xs ∧ ToksAt B W t xs
theorem TkS.sr {b B : Nat} {cs : List Nat} {T C A : Value} {w0 : World} {t : List K.Tk} {lv : Value} {p : K.Pl} {j e : Nat} {q : K.Pl} {W : World} (h : TkS b B cs T C A w0 t lv p j e q W) : Sr b cs T C A W := h.s0.bar h.bar
theorem TkS.size {b B : Nat} {cs : List Nat} {T C A : Value} {w0 : World} {t : List K.Tk} {lv : Value} {p : K.Pl} {j e : Nat} {q : K.Pl} {W : World} (h : TkS b B cs T C A w0 t lv p j e q W) : B < W.heap.size := lt_of_heap h.at_
theorem TkS.step {b B : Nat} {cs : List Nat} {T C A : Value} {w0 : World} {t : List K.Tk} {lv : Value} {p : K.Pl} {j e : Nat} {q : K.Pl} {W : World} (h : TkS b B cs T C A w0 t lv p j e q W) {j' e' : Nat} {q' : K.Pl} {W' : World} (hs : Sn b T C A j' e' q' W') (hb : Bar b W W') : TkS b B cs T C A w0 t lv p j' e' q' W' := by
  obtain ⟨xs, ho, ht⟩ := h.list
  exact ⟨hs, h.s0, h.bar.trans hb, h.sz, hb.keep (by have := h.hb; omega) h.at_, h.hb, xs, (KeepT.bar64 hb h.sn (by decide)).own ho, ht.keep (KeepT.bar64 hb h.sn (by decide))⟩
theorem TkS.drewN {b B : Nat} {cs : List Nat} {T C A : Value} {w0 : World} {t : List K.Tk} {lv : Value} {p : K.Pl} {j e : Nat} {q : K.Pl} {W : World} (h : TkS b B cs T C A w0 t lv p j e q W) (n : Nat) : TkS b B cs T C A w0 t lv p j e q (W.drewN n) := h.step (h.sn.drew n) (bar_drew b W n)
theorem TkS.below {b B : Nat} {cs : List Nat} {T C A : Value} {w0 : World} {t : List K.Tk} {lv : Value} {p : K.Pl} {j e : Nat} {q : K.Pl} {W W' : World} (h : TkS b B cs T C A w0 t lv p j e q W) (hb : Below W.heap.size W W') : TkS b B cs T C A w0 t lv p j e q W' := h.step (h.sn.keep hb) (.of_below hb)
theorem TkS.setAt {b B : Nat} {cs : List Nat} {T C A : Value} {w0 : World} {t : List K.Tk} {lv : Value} {p : K.Pl} {j e : Nat} {q : K.Pl} {W : World} (h : TkS b B cs T C A w0 t lv p j e q W) (p' : K.Pl) : TkS b B cs T C A w0 t lv p' j e q ((W.setCell ⟨B, 0, none⟩ (.int .i64 (p'.1 : Int))).setCell ⟨B, 1, none⟩ (.int .i64 (p'.2 : Int))) := by
  obtain ⟨xs, ho, ht⟩ := h.list
  have hbB := h.hb
  have h1 := heap_set h.at_ 0 (Value.int .i64 (p'.1 : Int))
  have k : ∀ e, e ≠ 29 → KeepT e W ((W.setCell ⟨B, 0, none⟩ (.int .i64 (p'.1 : Int))).setCell ⟨B, 1, none⟩ (.int .i64 (p'.2 : Int))) := fun e he => (KeepT.set h.at_ he 0 _).trans (KeepT.set h1 he 1 _)
  refine ⟨?_, h.s0, (h.bar.setNew (Nat.le_of_eq h.sz) 0 _).setNew (Nat.le_of_eq h.sz) 1 _, h.sz, heap_set h1 1 _, h.hb, xs, (k 38 (by decide)).own ho, ht.keep (k 40 (by decide))⟩
  unfold Sn
  rw [Below.heap_setCell _ _ _ _ (by simp; omega), Below.heap_setCell _ _ _ _ (by simp; omega)]
  exact h.sn
theorem TkS.cells {b B : Nat} {cs : List Nat} {T C A : Value} {w0 : World} {t : List K.Tk} {lv : Value} {p : K.Pl} {j e : Nat} {q : K.Pl} {W : World} (h : TkS b B cs T C A w0 t lv p j e q W) : W.cell? ⟨B, 0, none⟩ = some (.int .i64 (p.1 : Int)) ∧ W.cell? ⟨B, 1, none⟩ = some (.int .i64 (p.2 : Int)) ∧ W.frozen? ⟨B, 0, none⟩ = false ∧ W.frozen? ⟨B, 1, none⟩ = false := by
  refine ⟨?_, ?_, Lib.frozen_of_heap h.at_ _, Lib.frozen_of_heap h.at_ _⟩ <;> rw [Lib.cell_of_heap h.at_] <;> rfl
theorem TkS.grow {b B : Nat} {cs : List Nat} {T C A : Value} {w0 : World} {t : List K.Tk} {lv : Value} {p : K.Pl} {j e : Nat} {q : K.Pl} {W : World} (h : TkS b B cs T C A w0 t lv p j e q W) {xs : List Value} (hown : W.ownsRow B 38 7 lv t.length xs) (hto : ToksAt B W t xs) (tk : K.Tk) (av : Value) (hav : W.ownsRow B 40 4 av tk.attrs.length (attrCells tk.attrs)) {o : Obj} {g cap : Nat} {w6 : World} (hown6 : w6.ownsRow B 38 7 (.slice (some ⟨g, 0, none⟩) (t.length + 1) cap) (t.length + 1) (xs ++ tokCells tk av)) (hg : (W.alloc o).grownBy w6 lv.ownBlock) :
    TkS b B cs T C A w0 (t ++ [tk]) (.slice (some ⟨g, 0, none⟩) (t.length + 1) cap) p j e q w6 ∧ ToksAt B w6 (t ++ [tk]) (xs ++ tokCells tk av) := by
  obtain ⟨hbel, hk⟩ := own_growE hown (Nat.le_of_lt h.size) hg
  have hto6 : ToksAt B w6 (t ++ [tk]) (xs ++ tokCells tk av) := ToksAt.snoc ((hk 40 (by decide)).own hav) (hto.keep (hk 40 (by decide)))
  refine ⟨⟨?_, h.s0, h.bar.belN (by rw [h.sz]; exact hbel), h.sz, hk 29 (by decide) _ _ h.at_, h.hb, xs ++ tokCells tk av, by rw [List.length_append]; exact hown6, hto6⟩, hto6⟩
  unfold Sn
  rw [hbel.block b h.hb]
  exact h.sn
theorem TkS.growBad {b B : Nat} {cs : List Nat} {T C A : Value} {w0 : World} {t : List K.Tk} {lv : Value} {p : K.Pl} {j e : Nat} {q : K.Pl} {W : World} (h : TkS b B cs T C A w0 t lv p j e q W) {xs : List Value} (hown : W.ownsRow B 38 7 lv t.length xs) {o : Obj} {w6 : World} (hg : (W.alloc o).grownBy w6 lv.ownBlock) : Sn b T C A j e q w6 ∧ Bar b w0 w6 := by
  obtain ⟨hbel, hk⟩ := own_growE hown (Nat.le_of_lt h.size) hg
  refine ⟨?_, h.bar.belN (by rw [h.sz]; exact hbel)⟩
  unfold Sn
  rw [hbel.block b h.hb]
  exact h.sn
/-- A token laid in a new block. -/
theorem tok_laid (b : Nat) (w : World) (d0 d1 d2 d3 d4 d5 d6 : Value) : ∃ W, ((((((((w.alloc (.cells z38 38)).setCell ⟨w.heap.size, 0, none⟩ d0).setCell ⟨w.heap.size, 1, none⟩ d1).setCell ⟨w.heap.size, 2, none⟩ d2).setCell ⟨w.heap.size, 3, none⟩ d3).setCell ⟨w.heap.size, 4, none⟩ d4).setCell ⟨w.heap.size, 5, none⟩ d5).setCell ⟨w.heap.size, 6, none⟩ d6) = W ∧ Below w.heap.size w W ∧ W.heap[w.heap.size]? = some (.cells #[d0, d1, d2, d3, d4, d5, d6] 38 (0, 0)) := by
  have h0 : (w.alloc (.cells z38 38)).heap[w.heap.size]? = some (.cells z38 38 (0, 0)) := heap_new w _
  have hb : Below w.heap.size w (w.alloc (.cells z38 38)) := (Below.refl _ _).alloc (Nat.le_refl _) _
  refine ⟨_, rfl, ?_, heap_set (heap_set (heap_set (heap_set (heap_set (heap_set (heap_set h0 0 _) 1 _) 2 _) 3 _) 4 _) 5 _) 6 _⟩
  exact ((((((hb.setCell (p := ⟨w.heap.size, 0, none⟩) (Nat.le_refl _) _).setCell (p := ⟨w.heap.size, 1, none⟩) (Nat.le_refl _) _).setCell (p := ⟨w.heap.size, 2, none⟩) (Nat.le_refl _) _).setCell (p := ⟨w.heap.size, 3, none⟩) (Nat.le_refl _) _).setCell (p := ⟨w.heap.size, 4, none⟩) (Nat.le_refl _) _).setCell (p := ⟨w.heap.size, 5, none⟩) (Nat.le_refl _) _).setCell (p := ⟨w.heap.size, 6, none⟩) (Nat.le_refl _) _
theorem dfs_ok {cs : List Nat} {j j' : Nat} {t t1 : K.Told} (hj : j < cs.length) (hj' : j' ≤ cs.length) (h : K.part (S cs j) t = .ok (t1, S cs j')) : DF (S cs j) t = DF (S cs j') t1 ∧ j < j' := by
  have hd : cs.drop j = cs[j] :: cs.drop (j + 1) := List.drop_eq_getElem_cons hj
  have hs : S cs j = (cs[j] :: cs.drop (j + 1), pl cs j) := by rw [S_eq, hd]
  rw [hs] at h ⊢
  refine ⟨DF_ok h, ?_⟩
  have h1 := part_lt h
  simp only [S_eq, List.length_drop] at h1
  omega
theorem dfs_err {cs : List Nat} {j : Nat} {t : K.Told} {er : K.Er} (hj : j < cs.length) (h : K.part (S cs j) t = .error er) : DF (S cs j) t = .error er := by
  have hd : cs.drop j = cs[j] :: cs.drop (j + 1) := List.drop_eq_getElem_cons hj
  have hs : S cs j = (cs[j] :: cs.drop (j + 1), pl cs j) := by rw [S_eq, hd]
  rw [hs] at h ⊢
  exact DF_err h
theorem dfs_end {cs : List Nat} {j : Nat} {t : K.Told} (hj : cs.length ≤ j) : DF (S cs j) t = .ok (K.endText t) := by
  have hs : S cs j = ([], pl cs j) := by rw [S_eq, List.drop_eq_nil_of_le hj]
  rw [hs]
  rfl
theorem wordsF_len : ∀ (f : Nat) (s : K.St) (acc m : List Nat) (s' : K.St), K.wordsF f s acc = .ok (m, s') → m.length + s'.1.length ≤ acc.length + s.1.length
  | 0, s, acc, m, s', h => by
    rw [K.wordsF] at h
    simp only [Except.ok.injEq, Prod.mk.injEq] at h
    rw [← h.1, ← h.2]; exact Nat.le_refl _
  | f + 1, ([], p), acc, m, s', h => by
    rw [K.wordsF] at h
    · simp only [Except.ok.injEq, Prod.mk.injEq] at h
      rw [← h.1, ← h.2]; exact Nat.le_refl _
    · simp
  | f + 1, (c :: r, p), acc, m, s', h => by
    rw [K.wordsF] at h
    split at h
    · simp only [Except.ok.injEq, Prod.mk.injEq] at h
      rw [← h.1, ← h.2]; exact Nat.le_refl _
    · split at h
      · cases h
      · split at h
        · cases hr : K.reference (c :: r, p) with
          | error e => rw [hr] at h; cases h
          | ok q =>
            obtain ⟨d, s⟩ := q
            rw [hr] at h
            have h1 := wordsF_len f s _ m s' h
            have h2 := ref_more hr (by simp)
            simp only [List.length_append, List.length_cons, List.length_nil] at h1 h2 ⊢
            omega
        · have h1 := wordsF_len f _ _ m s' h
          simp only [List.length_append, List.length_cons, List.length_nil] at h1 ⊢
          omega
theorem words_len {cs : List Nat} {j j' : Nat} {x : List Nat} (hj : j ≤ cs.length) (hj' : j' ≤ cs.length) (h : K.words (S cs j) = .ok (x, S cs j')) : x.length + j ≤ j' := by
  have h1 := wordsF_len _ _ _ _ _ h
  simp only [S_eq, List.length_drop, List.length_nil] at h1
  omega
theorem section_len {cs : List Nat} {j j' : Nat} {x : List Nat} (hj : j + 9 ≤ cs.length) (hj' : j' ≤ cs.length) (h : K.section_ (S cs j) = .ok (x, S cs j')) : x.length + j ≤ j' := by
  unfold K.section_ at h
  rw [S_skip] at h
  unfold K.upTo at h
  split at h
  · cases h
  · rename_i n hn
    simp only [Except.ok.injEq, Prod.mk.injEq] at h
    obtain ⟨h1, h2⟩ := h
    rw [S_skip] at h2
    have h3 := congrArg (fun s => s.1.length) h2
    simp only [S_eq, List.length_drop] at h3
    have h4 : x.length ≤ n := by rw [← h1, List.length_take]; exact Nat.min_le_left _ _
    have h5 : x.length ≤ cs.length - (j + 9) := by rw [← h1, List.length_take, S_eq, List.length_drop]; exact Nat.min_le_right _ _
    simp only [List.length_cons, List.length_nil] at h3
    omega
theorem sees_excl {cs : List Nat} {j : Nat} (h : K.sees [60, 63] (S cs j) = true) : K.sees [60, 33, 45, 45] (S cs j) = false := by
  rw [sees_step, sees_step, sees_empty, Bool.and_true, Bool.and_eq_true, decide_eq_true_eq, decide_eq_true_eq] at h
  rw [sees_step, sees_step, show decide (cnum cs (j + 1) = ((33 : Nat) : Int)) = false by rw [decide_eq_false_iff_not, h.2]; decide]
  simp
/-- How far the reading of tokens has come. -/
def TkRel (b B : Nat) (cs : List Nat) (T C A : Value) (w0 : World) (R : Except K.Er (List K.Tk)) (g : Nat) (lv tv : Value) (wr : World) : Prop :=
  (∃ p n c, lv = .slice p n c) ∧ ((∃ (t : K.Told) (p : K.Pl) (j : Nat), cs.length - j + 1 = g ∧ DF (S cs j) t = R ∧ j ≤ cs.length ∧ t.text.length ≤ j ∧ t.toks.length ≤ 2 * j ∧ tv = .string (bs (U.n8 t.text)) ∧ (t.text ≠ [] → p = t.place) ∧ TkS b B cs T C A w0 t.toks lv p j 0 (0, 0) wr) ∨
    (g = 0 ∧ ∃ er, R = .error er ∧ 1 ≤ er.1 ∧ er.1 ≤ 100 ∧ (∃ o, tv = .string o) ∧ ∃ j, Sn b T C A j er.1 er.2 wr ∧ Bar b w0 wr))
/-- What Tokens leaves. -/
def TkPost (r : Except K.Er (List K.Tk)) (w : World) (e : Ending) (w' : World) : Prop := Below w.heap.size w w' ∧ match r with
  | .ok toks => ∃ lv, e = .returned (.tuple #[lv, .agg #[.int .i64 0, .int .i64 0], .int .i64 0]) ∧ ListAt w.heap.size toks lv w'
  | .error er => 1 ≤ er.1 ∧ e = .returned (.tuple #[.slice none 0 0, .agg #[.int .i64 (er.2.1 : Int), .int .i64 (er.2.2 : Int)], .int .i64 (er.1 : Int)])
theorem TkS.start {b : Nat} {cs : List Nat} {T C A : Value} {w0 W : World} {j e : Nat} {q : K.Pl} (hs : Sn b T C A j e q w0) (hr : Sr b cs T C A w0) (hb : Below w0.heap.size w0 W) (hat : W.heap[w0.heap.size]? = some (.cells #[.int .i64 ((0 : Nat) : Int), .int .i64 ((0 : Nat) : Int)] 29 (0, 0))) :
    TkS b w0.heap.size cs T C A w0 [] (.slice none 0 0) (0, 0) j e q W :=
  ⟨hs.keep hb, hr, .of_below hb, rfl, hat, lt_of_heap hs, [], ⟨rfl, .inl ⟨rfl, rfl⟩⟩, rfl⟩
/-- As TkS, and where this round began, in block f. -/
structure TkF (b B : Nat) (cs : List Nat) (T C A : Value) (w0 : World) (t : List K.Tk) (lv : Value) (p : K.Pl) (j e : Nat) (q : K.Pl) (f : Nat) (P : K.Pl) (W : World) : Prop where
  s : TkS b B cs T C A w0 t lv p j e q W
  fr : W.heap[f]? = some (.cells #[.int .i64 (P.1 : Int), .int .i64 (P.2 : Int)] 29 (0, 0))
  nf : B < f
theorem TkF.step {b B : Nat} {cs : List Nat} {T C A : Value} {w0 : World} {t : List K.Tk} {lv : Value} {p : K.Pl} {j e : Nat} {q : K.Pl} {f : Nat} {P : K.Pl} {W : World} (h : TkF b B cs T C A w0 t lv p j e q f P W) {j' e' : Nat} {q' : K.Pl} {W' : World} (hs : Sn b T C A j' e' q' W') (hb : Bar b W W') : TkF b B cs T C A w0 t lv p j' e' q' f P W' :=
  ⟨h.s.step hs hb, hb.keep (by have := h.nf; have := h.s.hb; omega) h.fr, h.nf⟩
theorem TkF.drewN {b B : Nat} {cs : List Nat} {T C A : Value} {w0 : World} {t : List K.Tk} {lv : Value} {p : K.Pl} {j e : Nat} {q : K.Pl} {f : Nat} {P : K.Pl} {W : World} (h : TkF b B cs T C A w0 t lv p j e q f P W) (n : Nat) : TkF b B cs T C A w0 t lv p j e q f P (W.drewN n) := h.step (h.s.sn.drew n) (bar_drew b W n)
theorem TkF.mk0 {b B : Nat} {cs : List Nat} {T C A : Value} {w0 : World} {t : List K.Tk} {lv : Value} {p : K.Pl} {j e : Nat} {q : K.Pl} {P : K.Pl} {W : World} (h : TkS b B cs T C A w0 t lv p j e q W) : TkF b B cs T C A w0 t lv p j e q W.heap.size P (W.alloc (.cells #[.int .i64 (P.1 : Int), .int .i64 (P.2 : Int)] 29)).drew :=
  ⟨h.below (((Below.refl _ _).alloc (Nat.le_refl _) _).drew), heap_alloc_new W _, h.size⟩
theorem TkF.cells {b B : Nat} {cs : List Nat} {T C A : Value} {w0 : World} {t : List K.Tk} {lv : Value} {p : K.Pl} {j e : Nat} {q : K.Pl} {f : Nat} {P : K.Pl} {W : World} (h : TkF b B cs T C A w0 t lv p j e q f P W) : W.cell? ⟨f, 0, none⟩ = some (.int .i64 (P.1 : Int)) ∧ W.cell? ⟨f, 1, none⟩ = some (.int .i64 (P.2 : Int)) := by
  refine ⟨?_, ?_⟩ <;> rw [Lib.cell_of_heap h.fr] <;> rfl
/-- What a declaration, or none, leads to. -/
def docR (D : Except K.Er K.St) : Except K.Er (List K.Tk) := match D with
  | .error er => .error er
  | .ok s => DF s t0
theorem document_docR (cs : List Nat) : K.document cs = docR (if K.declares (S cs 0) = true then K.declaration (S cs 0) else .ok (S cs 0)) := by
  rw [document_eq]
  rw [show S cs 0 = (cs, (1, 1)) from rfl]
  split <;> rfl
def DStart (b : Nat) (cs : List Nat) (T C A : Value) (R : Except K.Er (List K.Tk)) (w : World) : Prop :=
  (∃ j, j ≤ cs.length ∧ DF (S cs j) t0 = R ∧ Sn b T C A j 0 (0, 0) w) ∨ ∃ er, R = .error er ∧ 1 ≤ er.1 ∧ er.1 ≤ 100 ∧ ∃ j, Sn b T C A j er.1 er.2 w
theorem start_of {b : Nat} {cs : List Nat} {T C A : Value} {w w' : World} {D : Except K.Er K.St} {e : Ending} (h : RPost b cs T C A w 5 unitV isUnit (okUnit D) e w') : e = .returned (.tuple #[]) ∧ Bar b w w' ∧ DStart b cs T C A (docR D) w' := by
  obtain ⟨hb, h⟩ := h
  cases D with
  | error er =>
    obtain ⟨z, j, rfl, hz, _, h1, h2, hs⟩ := h
    have hz : z = .tuple #[] := hz
    exact ⟨by rw [hz], hb, .inr ⟨er, rfl, h1, h2, j, hs⟩⟩
  | ok s =>
    obtain ⟨j, rfl, hj, rfl, hs⟩ := h
    exact ⟨rfl, hb, .inl ⟨j, hj, rfl, hs⟩⟩
theorem text_none {x : List Nat} (h : x = []) : ((bs (U.n8 x)).toList == ([] : List UInt8)) = true := by subst h; rw [Lib.toList_data, bs_list]; rfl
theorem text_some {x : List Nat} (h : x ≠ []) : ((bs (U.n8 x)).toList == ([] : List UInt8)) = false := by
  rw [Lib.toList_data, bs_list, beq_eq_false_iff_ne]
  exact fun e => h (K.n8_eq_nil.1 e)
theorem cat_nil (x : List UInt8) : bs x ++ ⟨#[]⟩ = bs x := by
  have h := bs_append x []
  rw [List.append_nil] at h
  exact h
end Go.Proofs.YtdilngjolhmjnaaGreatDoor
