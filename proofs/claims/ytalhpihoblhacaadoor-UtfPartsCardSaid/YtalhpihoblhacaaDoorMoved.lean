/- What utf.moved, Lower and Upper answer of every text: each unit from first to last put to where those from onto on stand; below the call's own blocks nothing turns. -/
import Derived.Test.YtalhpihoblhacaaDoorWideA
import Derived.Laws.IdiomStrings
namespace Go.Proofs.YtalhpihoblhacaaDoor
open Go.RowKit Go.Shelf
set_option linter.unusedVariables false

namespace U
/-- A unit's lower byte, moved. -/
def mvU (f t o : Nat) (hi lo : UInt8) : UInt8 := if hi.toNat = 0 ∧ f ≤ lo.toNat ∧ lo.toNat ≤ t then UInt8.ofNat ((lo.toNat + (o + 256 - f) % 256) % 256) else lo
def mv (f t o : Nat) : List UInt8 → List UInt8
  | a :: b :: r => a :: mvU f t o a b :: mv f t o r
  | _ => []
theorem mv_length (f t o : Nat) : ∀ (n : Nat) (l : List UInt8), l.length ≤ n → (mv f t o l).length = 2 * (l.length / 2)
  | _, [], _ => rfl
  | _, [_], _ => by simp [mv]
  | 0, _ :: _ :: _, h => by simp at h
  | n + 1, a :: b :: r, h => by
    have := mv_length f t o n r (by simp only [List.length_cons] at h; omega)
    simp only [mv, List.length_cons, this]
    omega
theorem g_mv (f t o : Nat) : ∀ (k : Nat) (l : List UInt8), 2 * k + 1 < l.length → g (mv f t o l) (2 * k) = g l (2 * k) ∧ g (mv f t o l) (2 * k + 1) = (mvU f t o (l.getD (2 * k) 0) (l.getD (2 * k + 1) 0)).toNat
  | _, [], h => by simp at h
  | _, [_], h => by simp at h
  | 0, a :: b :: r, _ => by simp [mv, g]
  | k + 1, a :: b :: r, h => by
    have := g_mv f t o k r (by simp only [List.length_cons] at h; omega)
    unfold g at this ⊢
    rw [show 2 * (k + 1) = 2 * k + 1 + 1 by omega]
    simp only [mv, List.getD_cons_succ]
    exact this
end U

/-- What byte j holds when k units have been gone over. -/
def cellAt (f t o : Nat) (l : List UInt8) (k j : Nat) : Nat := if j < 2 * k then U.g (U.mv f t o l) j else U.g l j
theorem cellAt_zero (f t o : Nat) (l : List UInt8) (j : Nat) : cellAt f t o l 0 j = U.g l j := if_neg (by omega)
def MovRel (f t o : Nat) (l : List UInt8) (n R : Nat) (w : World) (iv : Value) (wr : World) : Prop :=
  ∃ k j : Nat, k ≤ n ∧ iv = .int .i64 (j : Int) ∧ Hid (j = 2 * k) ∧ Below R w wr ∧ R < wr.heap.size ∧ (∀ j, j < 2 * n → wr.cell? ⟨R, j, none⟩ = some (.int .u8 (cellAt f t o l k j : Nat))) ∧ (∀ j, j < 2 * n → wr.frozen? ⟨R, j, none⟩ = false)

theorem cellAt_next (f t o : Nat) (l : List UInt8) (k i : Nat) (hk : 2 * k + 1 < l.length) (hi : i ≠ 2 * k + 1) : cellAt f t o l (k + 1) i = cellAt f t o l k i := by
  unfold cellAt
  by_cases h1 : i < 2 * k
  · rw [if_pos h1, if_pos (by omega)]
  · by_cases h2 : i = 2 * k
    · rw [if_neg h1, if_pos (by omega), h2]
      exact (U.g_mv f t o k l hk).1
    · rw [if_neg h1, if_neg (by omega)]
theorem cellAt_here (f t o : Nat) (l : List UInt8) (k : Nat) : cellAt f t o l k (2 * k) = U.g l (2 * k) ∧ cellAt f t o l k (2 * k + 1) = U.g l (2 * k + 1) := ⟨if_neg (by omega), if_neg (by omega)⟩
theorem cellAt_moved (f t o : Nat) (l : List UInt8) (k : Nat) (hk : 2 * k + 1 < l.length) : cellAt f t o l (k + 1) (2 * k + 1) = if U.g l (2 * k) = 0 ∧ f ≤ U.g l (2 * k + 1) ∧ U.g l (2 * k + 1) ≤ t then (U.g l (2 * k + 1) + (o + 256 - f) % 256) % 256 else U.g l (2 * k + 1) := by
  unfold cellAt
  rw [if_pos (by omega), (U.g_mv f t o k l hk).2]
  unfold U.mvU U.g
  split
  · rw [U.ofNat_toNat _ (Nat.mod_lt _ (by omega))]
  · rfl
theorem mov_keep {f t o : Nat} {l : List UInt8} {n R k j x y : Nat} {w wr : World} (hl : 2 * n ≤ l.length) (hk : k < n) (hj : Hid (j = 2 * k)) (hbel : Below R w wr) (hlt : R < wr.heap.size)
    (hc : ∀ j, j < 2 * n → wr.cell? ⟨R, j, none⟩ = some (.int .u8 (cellAt f t o l k j : Nat))) (hf : ∀ j, j < 2 * n → wr.frozen? ⟨R, j, none⟩ = false)
    (hx : cellAt f t o l k j = x) (hy : cellAt f t o l k (j + 1) = y) (hno : ¬ (x = 0 ∧ f ≤ y ∧ y ≤ t)) : MovRel f t o l n R w (.int .i64 ((j : Int) + 2)) wr := by
  obtain rfl : j = 2 * k := hj
  have hh := cellAt_here f t o l k
  rw [hh.1] at hx
  rw [hh.2] at hy
  refine ⟨k + 1, 2 * k + 2, by omega, by go_num, show _ = _ by omega, hbel, hlt, fun i hi => ?_, hf⟩
  rw [hc i hi]
  by_cases e : i = 2 * k + 1
  · subst e
    rw [cellAt_moved f t o l k (by omega), hx, hy, if_neg hno, hh.2, hy]
  · rw [cellAt_next f t o l k i (by omega) e]
theorem mov_set {f t o d : Nat} {l : List UInt8} {n R k j x y : Nat} {w wr : World} (hl : 2 * n ≤ l.length) (hk : k < n) (hj : Hid (j = 2 * k)) (hbel : Below R w wr) (hlt : R < wr.heap.size)
    (hc : ∀ j, j < 2 * n → wr.cell? ⟨R, j, none⟩ = some (.int .u8 (cellAt f t o l k j : Nat))) (hf : ∀ j, j < 2 * n → wr.frozen? ⟨R, j, none⟩ = false)
    (hx : cellAt f t o l k j = x) (hy : cellAt f t o l k (j + 1) = y) (hyes : x = 0 ∧ f ≤ y ∧ y ≤ t) (hd : (o + 256 - f) % 256 = d) :
    MovRel f t o l n R w (.int .i64 ((j : Int) + 2)) (wr.setCell ⟨R, j + 1, none⟩ (.int .u8 (((y : Int) + (d : Int)) % 256))) := by
  obtain rfl : j = 2 * k := hj
  have hh := cellAt_here f t o l k
  rw [hh.1] at hx
  rw [hh.2] at hy
  have hc1 := hc (2 * k + 1) (by omega)
  refine ⟨k + 1, 2 * k + 2, by omega, by go_num, show _ = _ by omega, hbel.setCell (p := ⟨R, 2 * k + 1, none⟩) (Nat.le_refl _) _, by simpa [World.setCell] using hlt, fun i hi => ?_, fun i hi => ?_⟩
  · by_cases e : i = 2 * k + 1
    · subst e
      rw [cellAt_moved f t o l k (by omega), hx, hy, if_pos hyes, hd, World.cell?_setCell_same (h := hc1)]
      have e2 : (((y + d) % 256 : Nat) : Int) = ((y : Int) + (d : Int)) % 256 := by omega
      rw [e2]
    · rw [cellAt_next f t o l k i (by omega) e, ← hc i hi]
      have hne : (⟨R, 2 * k + 1, none⟩ : Addr) ≠ ⟨R, i, none⟩ := by intro h; injection h with _ h2; omega
      exact World.cell?_setCell_other (h := hne) ..
  · rw [World.frozen?_setCell]
    exact hf i hi

set_option maxHeartbeats 4000000 in
theorem moved_any (s : ByteArray) (hs : s.size ≤ 140737488355328) (f t o : Nat) (hf : f < 256) (ht : t < 256) (ho : o < 256) (d : Nat) (hd : (o + 256 - f) % 256 = d)
    (hd2 : IntKind.u8.wrap ((o : Int) - (f : Int)) = (d : Int)) (w : World) :
    Calls Tryd.prog 39 #[.string s, .int .u8 (f : Int), .int .u8 (t : Int), .int .u8 (o : Int)] w fun e w' => e = .returned (.string ⟨(U.mv f t o (ls s)).toArray⟩) ∧ Below w.heap.size w w' := by
  obtain ⟨n, hn⟩ : ∃ n : Nat, s.size / 2 = n := ⟨_, rfl⟩
  have cl := length_eq s hs (n : Int) (by omega)
  obtain ⟨T, hT⟩ := str_mk ((ls s).take (2 * n))
  have hTs : T.size = 2 * n := by rw [← ls_length, hT, List.length_take, ls_length]; omega
  have hsl : ∀ wx : World, (Instr.slice 9 (.string s) none (some (.int .i64 (2 * (n : Int)))) none).run Tryd.prog wx = .ok (.string T) wx := by
    intro wx
    rw [run_slice_string_h wx 9 s Tryd.underlying9 .i64 (2 * (n : Int)) (by omega) (by omega)]
    have q1 : (2 * (n : Int)).toNat = 2 * n := by omega
    rw [q1]
    have e : s.extract 0 (2 * n) = T := str_ext (by
      rw [hT]
      show (s.extract 0 (2 * n)).data.toList = _
      rw [Lib.extract_data]
      simp)
    rw [e]
  have hconv := run_bytes_of_string (P := Tryd.prog) w 9 54 5 T Tryd.underlying9 Tryd.underlying54 Tryd.underlying5
  obtain ⟨cap, hcap⟩ : ∃ cap, grownCap w T.size 0 5 = cap := ⟨_, rfl⟩
  obtain ⟨C, hC⟩ : ∃ C, bytesRow T cap = C := ⟨_, rfl⟩
  have hCs : 2 * n ≤ C.size := by
    rw [← hC]
    unfold bytesRow
    rw [Array.size_append, Array.size_map]
    have : T.data.size = 2 * n := hTs
    omega
  have hCj : ∀ j, j < 2 * n → C[j]? = some (.int .u8 (U.g (ls s) j : Nat)) := by
    intro j hj
    have hjT : j < T.data.size := by have : T.data.size = 2 * n := hTs; omega
    rw [← hC, bytesRow_at T cap j hjT]
    have e := g_at T j hjT
    rw [hT] at e
    have e2 : U.g ((ls s).take (2 * n)) j = U.g (ls s) j := by
      unfold U.g
      rw [List.getD_eq_getElem?_getD, List.getD_eq_getElem?_getD, List.getElem?_take_of_lt hj]
    rw [← e2, e]
    rfl
  rw [hcap, hC, hTs] at hconv
  have Hst : MovRel f t o (ls s) n w.heap.size w (.int .i64 0) (w.drew.alloc (.cells C 5 (C.size, C.size + 1))) := by
    refine ⟨0, 0, Nat.zero_le _, rfl, rfl, ((Below.refl _ _).drew).alloc (Nat.le_refl _) _, by simp, fun j hj => ?_, fun j hj => ?_⟩
    · rw [cellAt_zero, ← hCj j hj]
      exact World.cell?_alloc_mark w.drew C 5 _ j
    · have := World.frozen?_alloc_mark w.drew C 5 C.size (C.size + 1) j
      rw [show decide (C.size ≤ j) = false from decide_eq_false (by omega), Bool.false_and] at this
      exact this
  have hn47 : 2 * n ≤ 140737488355328 := by omega
  have HL : Hid (2 * n ≤ (ls s).length) := by show _ ≤ _; rw [ls_length]; omega
  clear hcap hC hCs hCj hT hTs hs
  have HD := Lib.hid hd
  have HN := Lib.hid hn
  clear hd hn
  obtain ⟨R, hR⟩ : ∃ R, w.heap.size = R := ⟨_, rfl⟩
  rw [hR] at hconv Hst
  have HR := Lib.hid hR
  clear hR
  go_enter Tryd.func39, Tryd.ntmps39
  go_wp2_with fail
  refine (cl _).mono ?_
  rintro e w2 ⟨rfl, rfl⟩
  go_wp2
  go_loopw [10] (fun iv wr => MovRel f t o (ls s) n R w iv wr) (fun iv wr => 2 * n - (intOf iv).toNat)
  case atStart => exact Hst
  case round =>
    obtain ⟨k, j, hk, rfl, hj, hbel, hlt, hcell, hfree⟩ := hrel
    by_cases hkn : k < n
    · have hj2 := hj.out
      have hjz : (j : Int) < 2 * (n : Int) := by omega
      have hjz1 : (j : Int) + 1 < 2 * (n : Int) := by omega
      have hx := hcell j (by omega)
      have hy := hcell (j + 1) (by omega)
      have hfz := hfree (j + 1) (by omega)
      obtain ⟨x, hxx⟩ : ∃ x, cellAt f t o (ls s) k j = x := ⟨_, rfl⟩
      obtain ⟨y, hyy⟩ : ∃ y, cellAt f t o (ls s) k (j + 1) = y := ⟨_, rfl⟩
      rw [hxx] at hx
      rw [hyy] at hy
      have HX := Lib.hid hxx
      have HY := Lib.hid hyy
      have HC := Lib.hid hcell
      have HF := Lib.hid hfree
      clear hxx hyy hcell hfree hj2
      go_wp2
      · exact ⟨mov_set HL.out hkn hj hbel hlt HC.out HF.out HX.out HY.out (by omega) HD.out, by simp [intOf]; omega⟩
      all_goals exact ⟨mov_keep HL.out hkn hj hbel hlt HC.out HF.out HX.out HY.out (by omega), by simp [intOf]; omega⟩
    · obtain rfl : k = n := by omega
      have hj2 := hj.out
      have hjz : 2 * (k : Int) ≤ (j : Int) := by omega
      have hlen : (U.mv f t o (ls s)).length = 2 * k := by rw [U.mv_length f t o _ _ (Nat.le_refl _), ls_length, HN.out]
      have hb := run_convert_bytes_back (P := Tryd.prog) wr 54 9 5 ⟨R, 0, none⟩ cap (U.mv f t o (ls s)) Tryd.underlying54 Tryd.underlying5 Tryd.underlying9 (fun i hi => by
        have h := hcell i (by omega)
        have e : (⟨R, 0, none⟩ : Addr).add i = ⟨R, i, none⟩ := by unfold Addr.add; split <;> simp_all
        rw [e, h]
        unfold cellAt U.g
        rw [if_pos (by omega), List.getD_eq_getElem?_getD, List.getElem?_eq_getElem hi]
        rfl)
      rw [hlen] at hb
      clear hlen hcell hfree hj2
      go_wp2
      go_ret
      exact ⟨rfl, by rw [HR.out]; exact hbel⟩

theorem lower_any (s : ByteArray) (hs : s.size ≤ 140737488355328) (w : World) :
    Calls Tryd.prog 23 #[.string s] w fun e w' => e = .returned (.string ⟨(U.mv 65 90 97 (ls s)).toArray⟩) ∧ Below w.heap.size w w' := by
  go_enter Tryd.func23, Tryd.ntmps23
  go_wp2_with fail
  refine (moved_any s hs 65 90 97 (by omega) (by omega) (by omega) 32 (by omega) (by rw [IntKind.wrap_u8]; omega) _).mono ?_
  rintro e w' ⟨rfl, hb⟩
  go_wp2
  go_ret
  exact ⟨rfl, hb⟩
theorem upper_any (s : ByteArray) (hs : s.size ≤ 140737488355328) (w : World) :
    Calls Tryd.prog 25 #[.string s] w fun e w' => e = .returned (.string ⟨(U.mv 97 122 65 (ls s)).toArray⟩) ∧ Below w.heap.size w w' := by
  go_enter Tryd.func25, Tryd.ntmps25
  go_wp2_with fail
  refine (moved_any s hs 97 122 65 (by omega) (by omega) (by omega) 224 (by omega) (by rw [IntKind.wrap_u8]; omega) _).mono ?_
  rintro e w' ⟨rfl, hb⟩
  go_wp2
  go_ret
  exact ⟨rfl, hb⟩
end Go.Proofs.YtalhpihoblhacaaDoor
