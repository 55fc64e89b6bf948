/- What utf.Narrow answers of every wide text of at most 1000000 bytes: its characters as UTF-8, or ErrWide; below the call's own blocks nothing turns. -/
import Derived.Test.YtalhpihoblhacaaDoorNarrow
import Derived.Test.YtalhpihoblhacaaDoorWide
namespace Go.Proofs.YtalhpihoblhacaaDoor
open Go.RowKit Go.Shelf
set_option linter.unusedVariables false

def narrowL (l : List UInt8) : List UInt8 := if l.length % 2 = 1 then [] else U.n8 (U.chars (U.us l))
def narrowErr (l : List UInt8) : Nat := if l.length % 2 = 1 then 11 else 0

namespace U
theorem headU_scalar (u : Nat) (r : List Nat) (hu : u < 65536) : scalar (headU (u :: r)).1 := by
  unfold scalar
  cases r with
  | nil =>
    simp only [headU]
    split <;> simp only <;> omega
  | cons v r =>
    simp only [headU]
    split
    · simp only; omega
    · split
      · simp only; omega
      · simp only; omega
end U
theorem runeCells_enc (c : Nat) (h : U.scalar c) : Lib.runeCells (c : Int) = Lib.byteCells (U.enc c) := by
  unfold U.scalar at h
  unfold Lib.runeCells Lib.byteCells U.enc
  by_cases h1 : c < 128
  · rw [Lib.encodeRuneZ_one (by omega) (by omega), if_pos h1]
    simp only [List.map_cons, List.map_nil, U.ofNat_toNat c (by omega)]
  · by_cases h2 : c < 2048
    · rw [Lib.encodeRuneZ_two (by omega) (by omega), if_neg h1, if_pos h2]
      simp only [List.map_cons, List.map_nil, U.ofNat_toNat (192 + c / 64) (by omega), U.ofNat_toNat (128 + c % 64) (by omega)]
      rfl
    · by_cases h3 : c < 65536
      · rw [Lib.encodeRuneZ_three (by omega), if_neg h1, if_neg h2, if_pos h3]
        simp only [List.map_cons, List.map_nil, U.ofNat_toNat (224 + c / 4096) (by omega), U.ofNat_toNat (128 + c / 64 % 64) (by omega), U.ofNat_toNat (128 + c % 64) (by omega)]
        rfl
      · rw [Lib.encodeRuneZ_four (by omega) (by omega), if_neg h1, if_neg h2, if_neg h3]
        simp only [List.map_cons, List.map_nil, U.ofNat_toNat (240 + c / 262144) (by omega), U.ofNat_toNat (128 + c / 4096 % 64) (by omega), U.ofNat_toNat (128 + c / 64 % 64) (by omega), U.ofNat_toNat (128 + c % 64) (by omega)]
        rfl
theorem enc_len4 (c : Nat) : (U.enc c).length ≤ 4 := by
  rw [U.enc_length]
  repeat' split
  all_goals omega

/-- Behind k units, cs told of them. -/
def NarRel (s : ByteArray) (B : Nat) (w : World) (iv : Value) (wr : World) : Prop :=
  ∃ (k : Nat) (cs : List Nat), k ≤ s.size / 2 ∧ iv = .int .i64 (k : Int) ∧ Lib.IsBuilderF 56 5 B B (Lib.byteCells (U.n8 cs)) wr ∧ Below B w wr ∧ B < wr.heap.size ∧ (U.n8 cs).length ≤ 4 * k ∧
    U.chars (U.us (ls s)) = cs ++ U.chars ((U.us (ls s)).drop k)

theorem nar_next (s : ByteArray) (k c n : Nat) (cs : List Nat) (hk : 2 * k + 1 < s.size) (hs : U.chars (U.us (ls s)) = cs ++ U.chars ((U.us (ls s)).drop k)) (hd : U.headU ((U.us (ls s)).drop k) = (c, n)) :
    1 ≤ n ∧ n ≤ 2 ∧ k + n ≤ s.size / 2 ∧ U.scalar c ∧ U.chars (U.us (ls s)) = (cs ++ [c]) ++ U.chars ((U.us (ls s)).drop (k + n)) := by
  have hl := ls_length s
  have e := U.drop_us (ls s) k (by omega)
  have hlen := U.us_length _ (ls s) (Nat.le_refl _)
  have hp := U.headU_pos (U.unitAt (ls s) k) ((U.us (ls s)).drop (k + 1))
  have hsc := U.headU_scalar (U.unitAt (ls s) k) ((U.us (ls s)).drop (k + 1)) (U.unitAt_lt _ _)
  rw [← e, hd] at hp
  rw [← e, hd] at hsc
  simp only [List.length_drop] at hp
  have hn2 : n ≤ 2 := by
    have h : (U.headU ((U.us (ls s)).drop k)).2 ≤ 2 := by
      rw [e]
      cases (U.us (ls s)).drop (k + 1) with
      | nil => simp only [U.headU]; split <;> simp
      | cons v r =>
        simp only [U.headU]
        split
        · simp
        · split <;> simp
    rw [hd] at h
    exact h
  refine ⟨hp.1, hn2, by omega, hsc, ?_⟩
  rw [hs, e, U.chars_cons, ← e, hd, List.drop_drop]
  simp

theorem ret_si {a : ByteArray} {l : List UInt8} {b : Int} {m : Nat} (h1 : a = ⟨l.toArray⟩) (h2 : b = m) : Ending.returned (.tuple #[.string a, .int .i64 b]) = .returned (.tuple #[.string ⟨l.toArray⟩, .int .i64 (m : Int)]) := by rw [h1, h2]

set_option maxHeartbeats 4000000 in
theorem narrow_odd (s : ByteArray) (hs : s.size ≤ 1000000) (ho : s.size % 2 = 1) (w : World) :
    Calls Tryd.prog 14 #[.string s] w fun e w' => e = .returned (.tuple #[.string ⟨(narrowL (ls s)).toArray⟩, .int .i64 (narrowErr (ls s) : Int)]) ∧ Below w.heap.size w w' := by
  have hz : (s.size : Int) % 2 = 1 := by omega
  have H1 : Hid (narrowL (ls s) = []) := if_pos (by rw [ls_length]; exact ho)
  have H2 : Hid (narrowErr (ls s) = 11) := if_pos (by rw [ls_length]; exact ho)
  go_enter Tryd.func14, Tryd.ntmps14
  go_wp2
  go_ret2
  exact ⟨ret_si (by rw [H1.out]) (by rw [H2.out]; rfl), Below.refl _ _⟩

set_option maxHeartbeats 4000000 in
theorem narrow_even (s : ByteArray) (hs : s.size ≤ 1000000) (ho : s.size % 2 = 0) (w : World) :
    Calls Tryd.prog 14 #[.string s] w fun e w' => e = .returned (.tuple #[.string ⟨(narrowL (ls s)).toArray⟩, .int .i64 (narrowErr (ls s) : Int)]) ∧ Below w.heap.size w w' := by
  have hz : (s.size : Int) % 2 = 0 := by omega
  have H1 : Hid (narrowL (ls s) = U.n8 (U.chars (U.us (ls s)))) := if_neg (by rw [ls_length]; omega)
  have H2 : Hid (narrowErr (ls s) = 0) := if_neg (by rw [ls_length]; omega)
  have Hst : NarRel s w.heap.size w (.int .i64 0) (w.alloc (.cells #[.pointer none, .slice none 0 0] 56)) :=
    ⟨0, [], Nat.zero_le _, rfl, .of (Lib.fresh_isBuilder 56 5 w), (Below.refl _ _).alloc (Nat.le_refl _) _, by simp, by simp [U.n8], by simp⟩
  obtain ⟨B, hB⟩ : ∃ B, w.heap.size = B := ⟨_, rfl⟩
  have HB := Lib.hid hB
  have HE := Lib.hid ho
  clear ho
  go_enter Tryd.func14, Tryd.ntmps14
  go_wp2
  clear hz
  go_outline
  go_loopw [5] (fun iv wr => NarRel s B w iv wr) (fun iv wr => s.size - (intOf iv).toNat)
  case atStart => exact HB.out ▸ Hst
  case round =>
    obtain ⟨k, cs, hk, rfl, hbuild, hbel, hlt, hlen, hscan⟩ := hrel
    have HS := Lib.hid hscan
    clear hscan
    by_cases hks : k < s.size / 2
    · have hkz : (k : Int) < (s.size : Int) / 2 := by omega
      obtain ⟨c, m, hd⟩ : ∃ c m, U.headU ((U.us (ls s)).drop k) = (c, m) := ⟨_, _, rfl⟩
      have cn := character_any s (by omega) k (by omega) c m hd wr
      have HR := Lib.hid (nar_next s k c m cs (by omega) HS.out hd)
      have hkm : (k : Int) + (m : Int) ≤ (s.size : Int) / 2 := by have := HR.out.2.2.1; omega
      have hc : (c : Int) ≤ 1114111 := by
        have h1 := HR.out.2.2.2.1
        unfold U.scalar at h1
        omega
      clear hd
      go_wp2_with (go_at_call 18; refine (length_any s (by omega) _).mono ?_; rintro e w' ⟨rfl, rfl⟩)
      refine cn.mono ?_
      rintro e w1 ⟨rfl, n1, rfl⟩
      go_wp2_with fail
      refine (writeRune_any B B _ (c : Int) (by omega) (by omega) _ (builder_below hbuild (below_of_drew n1)) (by rw [Lib.byteCells_length]; omega) (by simp; omega)).mono ?_
      rintro e w2 ⟨rfl, h2, hb2⟩
      go_wp2
      go_roundw
      case rel =>
        have hR := HR.out
        refine ⟨k + m, cs ++ [c], hR.2.2.1, by go_num, .inr ?_, (below_drewN hbel n1).trans hb2, by have := hb2.size; simp at this; omega, ?_, hR.2.2.2.2⟩
        · rw [U.n8_append, byteCells_append, show U.n8 [c] = U.enc c by simp [U.n8], ← runeCells_enc c hR.2.2.2.1]
          exact h2
        · rw [U.n8_append, List.length_append, show U.n8 [c] = U.enc c by simp [U.n8]]
          have := enc_len4 c
          omega
      case measure => have := HR.out; simp [intOf]; omega
    · obtain rfl : k = s.size / 2 := by omega
      have hkz : (s.size : Int) / 2 ≤ ((s.size / 2 : Nat) : Int) := by omega
      have HR : Hid (U.chars (U.us (ls s)) = cs) := by
        have h := HS.out
        rw [List.drop_eq_nil_of_le (by rw [U.us_length _ _ (Nat.le_refl _), ls_length]; exact Nat.le_refl _), U.chars_nil, List.append_nil] at h
        exact h
      go_wp2_with (first | (go_at_call 18; refine (length_any s (by omega) _).mono ?_; rintro e w' ⟨rfl, rfl⟩))
      refine (Tryd.Builder_String_any_f B B (U.n8 cs) _ hbuild (by omega)).mono ?_
      rintro e w1 ⟨rfl, h1, hb1⟩
      go_wp2
      go_ret2
      exact ⟨ret_si (by rw [H1.out, HR.out]) (by rw [H2.out]; rfl), by rw [HB.out]; exact hbel.trans hb1⟩
end Go.Proofs.YtalhpihoblhacaaDoor
