/- The reader's steps between lexemes: remarks of both sorts, what stands ahead of a lexeme. Conditions: those that each theorem names. The reader's remarks of the second sort. Conditions: those that each theorem names. -/
import Derived.Test.YtelphbcdjfdjpaaGreatDoorZ14
import Derived.Deep.LoopGhost
import Derived.Deep.RegionHeld3
namespace Go.Proofs.YtelphbcdjfdjpaaGreatDoor
open Go.RowKit Go.Shelf
set_option linter.all false

/-- The reader lies in block b: the script, its place, the mark of a line's end, the list. -/
def Rdr (b : Nat) (s : List UInt8) (p : Nat) (ln : Bool) (lv : Value) (w : World) : Prop :=
  w.heap[b]? = some (.cells #[.string (bs s), .int .i64 (p : Int), .bool ln, lv] 38 (0, 0))
theorem Rdr.cells {b : Nat} {s : List UInt8} {p : Nat} {ln : Bool} {lv : Value} {w : World} (h : Rdr b s p ln lv w) :
    w.cell? ⟨b, 0, none⟩ = some (.string (bs s)) ∧ w.cell? ⟨b, 1, none⟩ = some (.int .i64 (p : Int)) ∧ w.cell? ⟨b, 2, none⟩ = some (.bool ln) ∧ w.cell? ⟨b, 3, none⟩ = some lv := by
  refine ⟨?_, ?_, ?_, ?_⟩ <;> rw [Lib.cell_of_heap h] <;> rfl
theorem Rdr.free {b : Nat} {s : List UInt8} {p : Nat} {ln : Bool} {lv : Value} {w : World} (h : Rdr b s p ln lv w) (i : Nat) : w.frozen? ⟨b, i, none⟩ = false := Lib.frozen_of_heap h i
theorem Rdr.bel {b : Nat} {s : List UInt8} {p : Nat} {ln : Bool} {lv : Value} {w w' : World} (h : Rdr b s p ln lv w) (k : Below w.heap.size w w') : Rdr b s p ln lv w' := Below.keep k h
theorem Rdr.setAt {b : Nat} {s : List UInt8} {p : Nat} {ln : Bool} {lv : Value} {w : World} (h : Rdr b s p ln lv w) (q : Nat) (z : Int) (hz : z = (q : Int)) : Rdr b s q ln lv (w.setCell ⟨b, 1, none⟩ (.int .i64 z)) := by
  subst hz
  have := heap_set h 1 (.int .i64 (q : Int))
  simpa [Rdr] using this
theorem Rdr.setLine {b : Nat} {s : List UInt8} {p : Nat} {ln : Bool} {lv : Value} {w : World} (h : Rdr b s p ln lv w) (v : Bool) : Rdr b s p v lv (w.setCell ⟨b, 2, none⟩ (.bool v)) := by
  have := heap_set h 2 (.bool v)
  simpa [Rdr] using this

/-- What the reader's steps leave: the reader elsewhere, all other blocks as they were. -/
structure Kept (N b : Nat) (w w' : World) : Prop where
  bar : Bar b w w'
  low : Low N w'
theorem Kept.bel {N b : Nat} {w w1 w2 : World} (h : Kept N b w w1) (k : Below w1.heap.size w1 w2) : Kept N b w w2 := ⟨h.bar.bel k, h.low.bel k⟩
theorem Kept.set {N b : Nat} {w w1 : World} (h : Kept N b w w1) (hN : N ≤ b) (i : Nat) (v : Value) : Kept N b w (w1.setCell ⟨b, i, none⟩ v) := ⟨h.bar.trans (Bar.set w1 i v), h.low.bar (Bar.set w1 i v) hN⟩

/-- The reader's script and place, to be loaded; the reader; what is kept. -/
abbrev RS (N b : Nat) (s : List UInt8) (q : Nat) (ln : Bool) (lv : Value) (w w' : World) : Prop :=
  w'.cell? ⟨b, 0, none⟩ = some (.string (bs s)) ∧ w'.cell? ⟨b, 1, none⟩ = some (.int .i64 (q : Int)) ∧ Rdr b s q ln lv w' ∧ Kept N b w w'
theorem RS.of {N b : Nat} {s : List UInt8} {q : Nat} {ln : Bool} {lv : Value} {w w' : World} (h : Rdr b s q ln lv w') (k : Kept N b w w') : RS N b s q ln lv w w' := ⟨h.cells.1, h.cells.2.1, h, k⟩
theorem RS.next {N b : Nat} {s : List UInt8} {q : Nat} {ln : Bool} {lv : Value} {w X Y : World} (h : RS N b s q ln lv w X) (k : Below X.heap.size X Y) : RS N b s q ln lv w Y := .of (h.2.2.1.bel k) (h.2.2.2.bel k)
theorem bel_drewN (w : World) (n : Nat) : Below w.heap.size w (w.drewN n) := below_drewN (Below.refl _ _) _
theorem short_step (f : Nat) (l : List UInt8) : X.shortF (f + 1) l = if l = [] then (0, true) else if (U.dec l).2 = 0 then (0, false) else if X.ends (U.dec l).1 then (0, true)
    else ((U.dec l).2 + (X.shortF f (l.drop (U.dec l).2)).1, (X.shortF f (l.drop (U.dec l).2)).2) := rfl
theorem dec_lt (l : List UInt8) : (U.dec l).1 < 2147483648 := by
  obtain ⟨c, n, hd⟩ : ∃ c n, U.dec l = (c, n) := ⟨_, _, rfl⟩
  cases n with
  | zero => rw [dec_zero l (by rw [hd])]; decide
  | succ n => obtain ⟨h1, _⟩ := U.enc_dec l c n hd; rw [hd]; unfold U.scalar at h1; simp only; omega

set_option maxHeartbeats 8000000 in
theorem short_any (N b : Nat) (s : List UInt8) (hs : s.length ≤ 8192) (p : Nat) (hp : p ≤ s.length) (ln : Bool) (lv : Value) (w : World) (h : Rdr b s p ln lv w) (hl : Low N w) (hN : N ≤ b) :
    Calls Tryz.prog 39 #[.pointer (some ⟨b, 0, none⟩)] w fun e w' => e = .returned (.bool (X.short (s.drop p)).2) ∧ Rdr b s (p + (X.short (s.drop p)).1) ln lv w' ∧ Kept N b w w' := by
  have hr : X.short (s.drop p) = X.shortF (s.drop p).length (s.drop p) := rfl
  have hsz := bs_size s
  have hnx := fun i (hi : i ≤ s.length) W (hW : Low N W) => nxt_any N s (by omega) i hi W hW
  have HNX := Lib.hid hnx
  have HR := Lib.hid hr
  have Hst : Rdr b s (p + 0) ln lv w ∧ Kept N b w w := ⟨h, ⟨Bar.refl _ _, hl⟩⟩
  have hlen : (s.drop p).length = s.length - p := List.length_drop
  have HLEN := Lib.hid hlen
  have HSZ := Lib.hid hsz
  clear hr hnx h hl hlen hsz
  go_enter Tryz.func39, Tryz.ntmps39
  go_wp2
  go_loopg [3] (s.length - p) (fun g _ wr => ∃ k f : Nat, p + k + g = s.length ∧ Rdr b s (p + k) ln lv wr ∧ Kept N b w wr ∧ g ≤ f ∧ Hid (X.shortF (s.drop p).length (s.drop p) = (k + (X.shortF f (s.drop (p + k))).1, (X.shortF f (s.drop (p + k))).2)))
  case atStart => exact ⟨0, (s.drop p).length, by omega, Hst.1, Hst.2, by rw [HLEN.out]; omega, by show _ = _; simp⟩
  case round =>
    obtain ⟨k, f, hkg, hrd, hkp, hf, hh⟩ := hrel
    obtain ⟨q, hq⟩ : ∃ q, p + k = q := ⟨_, rfl⟩
    rw [hq] at hrd hh
    obtain ⟨c0, c1, c2, c3⟩ := hrd.cells
    have HRD := Lib.hid hrd
    have HKP := Lib.hid hkp
    clear hrd hkp
    go_wp2
    go_quiet (fail)
    generalize hWW : wr.drewN _ = W1
    have hb0 : Below wr.heap.size wr W1 := by rw [← hWW]; exact below_drewN (Below.refl _ _) _
    have hrd1 := HRD.out.bel hb0
    have hkp1 := HKP.out.bel hb0
    clear hWW hb0 c0 c1 c2 c3 HRD HKP
    obtain ⟨c0, c1, c2, c3⟩ := hrd1.cells
    have f1 := hrd1.free 1
    have HRD := Lib.hid hrd1
    have HKP := Lib.hid hkp1
    clear hrd1 hkp1
    by_cases hlt : q < s.length
    · have hnx := fun X (hX : RS N b s q ln lv w X) => HNX.out q (by omega) X hX.2.2.2.low
      have hed := isLineEnd_any (U.dec (s.drop q)).1 (dec_lt _)
      have hle := U.dec_le (s.drop q)
      rw [List.length_drop] at hle
      have hne : s.drop q ≠ [] := by intro e; have := congrArg List.length e; rw [List.length_drop] at this; simp at this; omega
      have hst : ∀ f, X.shortF (f + 1) (s.drop q) = if (U.dec (s.drop q)).2 = 0 then (0, false) else if X.ends (U.dec (s.drop q)).1 then (0, true)
          else ((U.dec (s.drop q)).2 + (X.shortF f ((s.drop q).drop (U.dec (s.drop q)).2)).1, (X.shortF f ((s.drop q).drop (U.dec (s.drop q)).2)).2) := by
        intro f; rw [short_step, if_neg hne]
      have hdd : ∀ n, (s.drop q).drop n = s.drop (q + n) := fun n => List.drop_drop ..
      obtain ⟨f, rfl⟩ : ∃ f', f = f' + 1 := ⟨f - 1, by omega⟩
      have hh2 := hh.out
      rw [hst f, hdd] at hh2
      have hqi : (q : Int) < ((bs s).size : Int) := by rw [HSZ.out]; omega
      have HH := Lib.hid hh2
      clear hh2 hh hst hdd hne
      generalize X.ends (U.dec (s.drop q)).1 = en at hed HH
      generalize U.dec (s.drop q) = d at hnx hed hle HH
      obtain ⟨c, n⟩ := d
      simp only at hnx hed hle
      by_cases hn0 : n = 0
      · subst hn0
        have hnx : ∀ X, RS N b s q ln lv w X → Calls Tryz.prog 37 #[.string (bs s), .int .i64 (q : Int)] X fun e w' => e = .returned (.tuple #[.int .i64 (c : Int), .int .i64 0, .bool false]) ∧ Below X.heap.size X w' := hnx
        go_wp2
        have hS := RS.of HRD.out HKP.out
        go_region_held3 (fun w' => w'.cell? ⟨b, 0, none⟩ = some (.string (bs s)) ∧ w'.cell? ⟨b, 1, none⟩ = some (.int .i64 (q : Int)) ∧ Rdr b s q ln lv w' ∧ Kept N b w w')
          (first | assumption | (exact RS.next (by assumption) (by assumption)) | (exact RS.next (by assumption) (bel_drewN _ 1)) | (exact RS.next (Y := World.drew _) (by assumption) ((Below.refl _ _).drew)))
          (first | (go_at_call 37; (with_reducible refine (hnx _ (by assumption)).mono ?_); rintro e w' ⟨rfl, hb⟩))
        rename_i w2 hb hH
        obtain ⟨_, d1, hrd2, hkp2⟩ := hH
        have g1 := hrd2.free 1
        have HRD2 := Lib.hid hrd2
        have HKP2 := Lib.hid hkp2
        clear hb hrd2 hkp2 hS c0 c1 c2 c3 f1 HRD HKP hnx
        go_wp2
        go_ret
        have e := HH.out
        simp only [if_pos] at e
        rw [HR.out, e]
        refine ⟨rfl, ?_, HKP2.out⟩
        simp only [Nat.add_zero]
        rw [hq]
        exact HRD2.out
      · have hdt : decide (n ≠ 0) = true := decide_eq_true hn0
        rw [hdt] at hnx
        clear hdt
        cases en with
        | true =>
          go_wp2
          have hS := RS.of HRD.out HKP.out
          go_region_held3 (fun w' => w'.cell? ⟨b, 0, none⟩ = some (.string (bs s)) ∧ w'.cell? ⟨b, 1, none⟩ = some (.int .i64 (q : Int)) ∧ Rdr b s q ln lv w' ∧ Kept N b w w')
            (first | assumption | (exact RS.next (by assumption) (by assumption)) | (exact RS.next (by assumption) (bel_drewN _ 1)) | (exact RS.next (Y := World.drew _) (by assumption) ((Below.refl _ _).drew)))
            (first | (go_at_call 37; (with_reducible refine (hnx _ (by assumption)).mono ?_); rintro e w' ⟨rfl, hb⟩))
          rename_i w2 hb hH
          obtain ⟨_, d1, hrd2, hkp2⟩ := hH
          have g1 := hrd2.free 1
          have HRD2 := Lib.hid hrd2
          have HKP2 := Lib.hid hkp2
          clear hb hrd2 hkp2 hS c0 c1 c2 c3 f1 HRD HKP hnx
          go_wp2_with (first | (go_at_call 42; refine (hed _).mono ?_; rintro e w' ⟨rfl, rfl⟩))
          go_ret
          have e := HH.out
          simp only [if_neg hn0, if_true] at e
          rw [HR.out, e]
          refine ⟨rfl, ?_, HKP2.out⟩
          simp only [Nat.add_zero]
          rw [hq]
          exact HRD2.out
        | false =>
          go_wp2
          have hS := RS.of HRD.out HKP.out
          go_region_held3 (fun w' => w'.cell? ⟨b, 0, none⟩ = some (.string (bs s)) ∧ w'.cell? ⟨b, 1, none⟩ = some (.int .i64 (q : Int)) ∧ Rdr b s q ln lv w' ∧ Kept N b w w')
            (first | assumption | (exact RS.next (by assumption) (by assumption)) | (exact RS.next (by assumption) (bel_drewN _ 1)) | (exact RS.next (Y := World.drew _) (by assumption) ((Below.refl _ _).drew)))
            (first | (go_at_call 37; (with_reducible refine (hnx _ (by assumption)).mono ?_); rintro e w' ⟨rfl, hb⟩))
          rename_i w2 hb hH
          obtain ⟨_, d1, hrd2, hkp2⟩ := hH
          have g1 := hrd2.free 1
          have HRD2 := Lib.hid hrd2
          have HKP2 := Lib.hid hkp2
          clear hb hrd2 hkp2 hS c0 c1 c2 c3 f1 HRD HKP hnx
          go_wp2_with (first | (go_at_call 42; refine (hed _).mono ?_; rintro e w' ⟨rfl, rfl⟩))
          go_roundg (s.length - (q + n))
          case measure => omega
          case rel =>
            refine ⟨k + n, f, by omega, ?_, HKP2.out.set hN 1 _, by omega, ?_⟩
            · exact HRD2.out.setAt _ _ (by omega)
            · show _ = _
              rw [HH.out]
              simp only [if_neg hn0, Bool.false_eq_true, if_false]
              rw [show q + n = p + (k + n) by omega, Nat.add_assoc]
    · have hge : ¬ (q : Int) < ((bs s).size : Int) := by rw [HSZ.out]; omega
      have hd : s.drop q = [] := List.drop_eq_nil_of_le (by omega)
      have hfin : X.shortF (s.drop p).length (s.drop p) = (k, true) := by
        rw [hh.out, hd]
        cases f <;> rfl
      have HF := Lib.hid hfin
      clear hh hfin hd
      go_wp2
      go_ret
      rw [HR.out, HF.out]
      refine ⟨rfl, ?_, HKP.out⟩
      simp only
      rw [hq]
      exact HRD.out
end Go.Proofs.YtelphbcdjfdjpaaGreatDoor
namespace Go.Proofs.YtelphbcdjfdjpaaGreatDoor
open Go.RowKit Go.Shelf
set_option linter.all false

theorem lines_step (f k : Nat) (l : List UInt8) : X.linesF (f + 1) k l = if k = 0 then some false else if (U.dec l).2 = 0 then none else (X.linesF f (k - (U.dec l).2) (l.drop (U.dec l).2)).map (fun b => X.ends (U.dec l).1 || b) := rfl
theorem index_room : ∀ (l sub : List UInt8) (k : Nat), Lib.index l sub = (k : Int) → k + sub.length ≤ l.length
  | [], sub, k, h => by
    unfold Lib.index at h
    split at h
    · rename_i hs
      have : sub = [] := by simpa using hs
      subst this
      simp at h ⊢; omega
    · omega
  | b :: l, sub, k, h => by
    unfold Lib.index at h
    split at h
    · rename_i hp
      have := (List.isPrefixOf_iff_prefix.1 hp).length_le
      have : k = 0 := by omega
      omega
    · have hge := Lib.index_ge l sub
      split at h
      · omega
      · rename_i h1 h2
        have h3 : ¬ Lib.index l sub = -1 := by simpa using h2
        have := index_room l sub (k - 1) (by omega)
        simp only [List.length_cons]; omega

/-- What longRemark leaves. -/
def LongRet (N b : Nat) (s : List UInt8) (p : Nat) (ln : Bool) (lv : Value) (w : World) (r : Option (Nat × Bool)) (e : Ending) (w' : World) : Prop :=
  Kept N b w w' ∧ match r with
  | none => e = .returned (.bool false) ∧ ∃ ln', Rdr b s p ln' lv w'
  | some (n, bl) => e = .returned (.bool true) ∧ Rdr b s (p + n) (ln || bl) lv w'

set_option maxHeartbeats 8000000 in
theorem long_any (N b : Nat) (s : List UInt8) (hs : s.length ≤ 8192) (p : Nat) (hp : p + 2 ≤ s.length) (ln : Bool) (lv : Value) (w : World) (h : Rdr b s p ln lv w) (hl : Low N w) (hN : N ≤ b) :
    Calls Tryz.prog 40 #[.pointer (some ⟨b, 0, none⟩)] w (LongRet N b s p ln lv w (X.long (s.drop p))) := by
  have hr : X.long (s.drop p) = match Lib.index ((s.drop p).drop 2) [42, 47] with
    | .negSucc _ => none
    | .ofNat k => (X.linesF k k ((s.drop p).drop 2)).map fun b => (k + 4, b) := rfl
  rw [List.drop_drop] at hr
  have hsz := bs_size s
  have hnx := fun i (hi : i ≤ s.length) W (hW : Low N W) => nxt_any N s (by omega) i hi W hW
  have hix : ∀ W, Low N W → Calls Tryz.prog 60 #[.string (bs (s.drop (p + 2))), .string ⟨#[42, 47]⟩] W fun e w' => e = .returned (.int .i64 (Lib.index (s.drop (p + 2)) [42, 47])) ∧ W = w' := by
    intro W hW
    obtain ⟨m, hm⟩ := hW.maxl
    refine (Tryz.strings_Index (bs (s.drop (p + 2))) ⟨#[42, 47]⟩ m W (by rw [bs_size, List.length_drop]; omega) hm).mono ?_
    rintro e w' ⟨rfl, rfl⟩
    exact ⟨rfl, rfl⟩
  rw [← bs_drop] at hix
  have hroom := index_room (s.drop (p + 2)) [42, 47]
  have hge := Lib.index_ge (s.drop (p + 2)) [42, 47]
  rw [List.length_drop] at hroom
  have hpS : (p : Int) + 2 ≤ ((bs s).size : Int) := by omega
  have hpz : p ≤ 8192 := by omega
  obtain ⟨c0, c1, c2, c3⟩ := h.cells
  have hix := hix w hl
  have h2 : ((p : Int) + 2).toNat = p + 2 := by omega
  have hp2 : p + 2 ≤ (bs s).size := by omega
  generalize X.long (s.drop p) = R at hr ⊢
  have HNX := Lib.hid hnx
  have HRD := Lib.hid h
  have HKP := Lib.hid (show Kept N b w w from ⟨Bar.refl _ _, hl⟩)
  have HSZ := Lib.hid hsz
  clear hnx h hl hsz
  generalize hI : Lib.index (s.drop (p + 2)) [42, 47] = I at hr hix hroom hge
  clear hI
  by_cases hneg : I < 0
  · obtain rfl : I = -1 := by omega
    have hr2 : R = none := hr
    clear hr
    subst hr2
    clear hroom hge hneg
    go_enter Tryz.func40, Tryz.ntmps40
    go_wp2_with (go_at_call 60; refine hix.mono ?_; rintro e w' ⟨rfl, rfl⟩)
    go_ret
    exact ⟨HKP.out, rfl, ln, HRD.out⟩
  · obtain ⟨k, rfl⟩ : ∃ k : Nat, I = k := ⟨I.toNat, by omega⟩
    have hr2 : R = (X.linesF k k (s.drop (p + 2))).map fun b => (k + 4, b) := hr
    have hroom2 : k + 2 ≤ s.length - (p + 2) := hroom k rfl
    clear hr hroom
    have hk0 : ¬ (k : Int) < 0 := by omega
    have hk64 : k ≤ 8192 := by omega
    have HR := Lib.hid hr2
    clear hge hneg hr2
    go_enter Tryz.func40, Tryz.ntmps40
    go_wp2_with (go_at_call 60; refine hix.mono ?_; rintro e w' ⟨rfl, rfl⟩)
    have HL2 : Hid ((s.drop (p + 2)).length = s.length - (p + 2)) := List.length_drop
    go_loopg [5] (s.length - (p + 2)) (fun g vi wr => ∃ (j f : Nat) (acc : Bool), vi = .int .i64 ((p : Int) + 2 + (j : Int)) ∧ p + 2 + j + g = s.length ∧ Rdr b s p (ln || acc) lv wr ∧ Kept N b w wr ∧ k ≤ f + j ∧
      Hid (X.linesF k k (s.drop (p + 2)) = (X.linesF f (k - j) (s.drop (p + 2 + j))).map (fun b => acc || b)))
    case atStart =>
      refine ⟨0, k, false, by simp, by omega, by rw [Bool.or_false]; exact HRD.out, HKP.out, by omega, ?_⟩
      show _ = _
      cases X.linesF k (k - 0) (s.drop (p + 2 + 0)) <;> simp_all
    case round =>
      obtain ⟨j, f, acc, rfl, hjg, hrd, hkp, hf, hh⟩ := hrel
      obtain ⟨q, hq⟩ : ∃ q, p + 2 + j = q := ⟨_, rfl⟩
      rw [hq] at hh hjg
      have hqz : (p : Int) + 2 + (j : Int) = (q : Int) := by omega
      rw [hqz]
      obtain ⟨c0, c1, c2, c3⟩ := hrd.cells
      have f1 := hrd.free 1
      have f2 := hrd.free 2
      have HRD2 := Lib.hid hrd
      have HKP2 := Lib.hid hkp
      have HQ := Lib.hid hq
      clear hrd hkp hq hqz
      by_cases hjk : j < k
      · have hlt : (q : Int) < (p : Int) + 2 + (k : Int) := by have := HQ.out; omega
        have hnx := HNX.out q (by omega) wr HKP2.out.low
        have hed := isLineEnd_any (U.dec (s.drop q)).1 (dec_lt _)
        have hle := U.dec_le (s.drop q)
        rw [List.length_drop] at hle
        obtain ⟨f, rfl⟩ : ∃ f', f = f' + 1 := ⟨f - 1, by omega⟩
        have hh2 := hh.out
        rw [lines_step, if_neg (by omega), List.drop_drop] at hh2
        have HH := Lib.hid hh2
        clear hh2 hh
        generalize X.ends (U.dec (s.drop q)).1 = en at hed HH
        generalize U.dec (s.drop q) = d at hnx hed hle HH
        obtain ⟨c, n⟩ := d
        simp only at hnx hed hle
        by_cases hn0 : n = 0
        · subst hn0
          have hnx : Calls Tryz.prog 37 #[.string (bs s), .int .i64 (q : Int)] wr fun e w' => e = .returned (.tuple #[.int .i64 (c : Int), .int .i64 0, .bool false]) ∧ Below wr.heap.size wr w' := hnx
          clear hed
          go_wp2_with (go_at_call 37; refine hnx.mono ?_; rintro e w1 ⟨rfl, hb1⟩)
          go_ret
          have e : R = none := by rw [HR.out, HH.out]; rfl
          rw [e]
          exact ⟨HKP2.out.bel hb1, rfl, _, HRD2.out.bel hb1⟩
        · have hdt : decide (n ≠ 0) = true := decide_eq_true hn0
          rw [hdt] at hnx
          clear hdt
          have hn64 : n ≤ 8192 := by omega
          have hq64 : q ≤ 8192 := by omega
          have hR : Hid (X.linesF k k (s.drop (p + 2)) = (X.linesF f (k - (j + n)) (s.drop (q + n))).map fun b => (acc || en) || b) := by
            show _ = _
            rw [HH.out]
            simp only [if_neg hn0]
            rw [show k - j - n = k - (j + n) by omega]
            cases X.linesF f (k - (j + n)) (s.drop (q + n)) with
            | none => rfl
            | some v => simp [Bool.or_assoc]
          generalize hla : (ln || acc) = la at HRD2 c2
          have HLA := Lib.hid hla
          clear hla
          cases la with
          | true =>
            go_wp2_with (first | (go_at_call 37; refine hnx.mono ?_; rintro e w1 ⟨rfl, hb1⟩; have hrd1 := HRD2.out.bel hb1; obtain ⟨d0, d1, d2, d3⟩ := hrd1.cells; have g2 := hrd1.free 2; have HRD1 := Lib.hid hrd1; have HKP1 := Lib.hid (HKP2.out.bel hb1); clear hb1 hrd1))
            go_roundg (s.length - (q + n))
            case measure => omega
            case rel =>
              refine ⟨j + n, f, acc || en, by have := HQ.out; go_num, by have := HQ.out; omega, ?_, HKP1.out.set hN 2 _, by omega, ?_⟩
              · rw [← Bool.or_assoc, HLA.out, Bool.true_or]; exact HRD1.out.setLine true
              · show _ = _
                rw [hR.out, ← HQ.out, Nat.add_assoc (p + 2)]
          | false =>
            go_wp2_with (first | (go_at_call 37; refine hnx.mono ?_; rintro e w1 ⟨rfl, hb1⟩; have hrd1 := HRD2.out.bel hb1; obtain ⟨d0, d1, d2, d3⟩ := hrd1.cells; have g2 := hrd1.free 2; have HRD1 := Lib.hid hrd1; have HKP1 := Lib.hid (HKP2.out.bel hb1); clear hb1 hrd1) | (go_at_call 42; refine (hed _).mono ?_; rintro e w' ⟨rfl, rfl⟩))
            go_roundg (s.length - (q + n))
            case measure => omega
            case rel =>
              refine ⟨j + n, f, acc || en, by have := HQ.out; go_num, by have := HQ.out; omega, ?_, HKP1.out.set hN 2 _, by omega, ?_⟩
              · rw [← Bool.or_assoc, HLA.out, Bool.false_or]; exact HRD1.out.setLine en
              · show _ = _
                rw [hR.out, ← HQ.out, Nat.add_assoc (p + 2)]
      · have hge : ¬ (q : Int) < (p : Int) + 2 + (k : Int) := by have := HQ.out; omega
        have e : R = some (k + 4, acc) := by
          rw [HR.out, hh.out, show k - j = 0 by omega]
          cases f with
          | zero => simp [X.linesF]
          | succ f => rw [lines_step, if_pos rfl]; simp
        have HE := Lib.hid e
        clear hh e
        go_wp2
        go_ret
        rw [HE.out]
        refine ⟨HKP2.out.set hN 1 _, rfl, ?_⟩
        exact HRD2.out.setAt _ _ (by omega)
end Go.Proofs.YtelphbcdjfdjpaaGreatDoor
