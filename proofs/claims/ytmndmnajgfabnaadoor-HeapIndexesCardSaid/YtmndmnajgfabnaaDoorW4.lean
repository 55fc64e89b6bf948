/- What utf.Wide answers of every text of at most 1000000 bytes: the units of its characters, or the place of the first fault; below the call's own blocks nothing turns. Condition: the two tables of unicode/utf8 hold what they were laid with. -/
import Derived.Test.YtmndmnajgfabnaaDoorW3
namespace Go.Proofs.YtmndmnajgfabnaaDoor
open Go.RowKit Go.Shelf
set_option linter.unusedVariables false

def full (l : List UInt8) : Prop := (U.scan l).2 = l.length
instance (l : List UInt8) : Decidable (full l) := by unfold full; infer_instance
def wideL (l : List UInt8) : List UInt8 := if full l then U.w8 (U.scan l).1 else []
def wideAt (l : List UInt8) : Nat := if full l then 0 else (U.scan l).2
def wideErr (l : List UInt8) : Nat := if full l then 0 else 10

theorem builder_below {B b : Nat} {bs : List Value} {w w' : World} (h : Lib.IsBuilderF 107 5 B b bs w) (hb : Below w.heap.size w w') : Lib.IsBuilderF 107 5 B b bs w' := by
  have key : ∀ p, Lib.BuilderAtF 107 5 B b p bs w → Lib.BuilderAtF 107 5 B b p bs w' := by
    rintro p ⟨hB, v, hbk, hown, hne⟩
    have lt : ∀ {k : Nat} {o : Obj}, w.heap[k]? = some o → k < w.heap.size := fun h => (Array.getElem?_eq_some_iff.1 h).1
    refine ⟨hB, v, by rw [hb.block b (lt hbk)]; exact hbk, ⟨hown.1, ?_⟩, hne⟩
    rcases hown.2 with hn | ⟨g, cap, cur, fz, hv, hg, hh, rest⟩
    · exact .inl hn
    · exact .inr ⟨g, cap, cur, fz, hv, hg, by rw [hb.block g (lt hh)]; exact hh, rest⟩
  rcases h with h | h
  · exact .inl (key _ h)
  · exact .inr (key _ h)

theorem units_len (l : List UInt8) (c n : Nat) (h : U.dec l = (c, n + 1)) : ((U.units c).flatMap U.be).length ≤ 2 * (n + 1) := by
  obtain ⟨h1, h2, _⟩ := U.enc_dec l c n h
  rw [U.enc_length] at h2
  unfold U.units
  split
  · simp [U.be]; omega
  · rename_i hc
    simp only [List.flatMap_cons, List.flatMap_nil, List.append_nil, List.length_append, U.be, List.length_cons, List.length_nil]
    rw [if_neg (by omega), if_neg (by omega), if_neg hc] at h2
    omega

/-- Behind k bytes, cs read of them. -/
def WideRel (s : ByteArray) (B : Nat) (w : World) (iv : Value) (wr : World) : Prop :=
  ∃ (k : Nat) (cs : List Nat), k ≤ s.size ∧ iv = .int .i64 (k : Int) ∧ Lib.IsBuilderF 107 5 B B (Lib.byteCells (U.w8 cs)) wr ∧ Below B w wr ∧ B < wr.heap.size ∧ (U.w8 cs).length ≤ 2 * k ∧
    U.scan (ls s) = (cs ++ (U.scan ((ls s).drop k)).1, k + (U.scan ((ls s).drop k)).2)

theorem rel_next (s : ByteArray) (k c n : Nat) (cs : List Nat) (hk : k < s.size) (hs : U.scan (ls s) = (cs ++ (U.scan ((ls s).drop k)).1, k + (U.scan ((ls s).drop k)).2)) (hd : U.dec ((ls s).drop k) = (c, n + 1)) :
    k + (n + 1) ≤ s.size ∧ U.scan (ls s) = ((cs ++ [c]) ++ (U.scan ((ls s).drop (k + (n + 1)))).1, k + (n + 1) + (U.scan ((ls s).drop (k + (n + 1)))).2) := by
  have hl := U.dec_le ((ls s).drop k)
  rw [hd, List.length_drop, ls_length] at hl
  refine ⟨by simp only at hl; omega, ?_⟩
  rw [hs, U.scan_step ((ls s).drop k) (by rw [hd]; simp), hd]
  simp only [List.drop_drop, List.append_assoc, List.cons_append, List.nil_append, Nat.add_assoc]
theorem rel_stop (s : ByteArray) (k c : Nat) (cs : List Nat) (hk : k < s.size) (hs : U.scan (ls s) = (cs ++ (U.scan ((ls s).drop k)).1, k + (U.scan ((ls s).drop k)).2)) (hd : U.dec ((ls s).drop k) = (c, 0)) :
    wideL (ls s) = [] ∧ wideAt (ls s) = k ∧ wideErr (ls s) = 10 := by
  rw [U.scan_stop ((ls s).drop k) (by rw [hd])] at hs
  have hf : ¬ full (ls s) := by unfold full; rw [hs, ls_length]; simp only; omega
  unfold wideL wideAt wideErr
  rw [if_neg hf, if_neg hf, if_neg hf, hs]
  exact ⟨rfl, rfl, rfl⟩
theorem rel_end (s : ByteArray) (cs : List Nat) (hs : U.scan (ls s) = (cs ++ (U.scan ((ls s).drop s.size)).1, s.size + (U.scan ((ls s).drop s.size)).2)) :
    wideL (ls s) = U.w8 cs ∧ wideAt (ls s) = 0 ∧ wideErr (ls s) = 0 := by
  rw [List.drop_eq_nil_of_le (by rw [ls_length]; exact Nat.le_refl _), U.scan_nil] at hs
  simp only [List.append_nil, Nat.add_zero] at hs
  have hf : full (ls s) := by unfold full; rw [hs, ls_length]
  unfold wideL wideAt wideErr
  rw [if_pos hf, if_pos hf, if_pos hf, hs]
  exact ⟨rfl, rfl, rfl⟩

theorem ret_sii {a : ByteArray} {l : List UInt8} {b c : Int} {m n : Nat} (h1 : a = ⟨l.toArray⟩) (h2 : b = m) (h3 : c = n) : Ending.returned (.tuple #[.string a, .int .i64 b, .int .i64 c]) = .returned (.tuple #[.string ⟨l.toArray⟩, .int .i64 (m : Int), .int .i64 (n : Int)]) := by rw [h1, h2, h3]

set_option maxHeartbeats 4000000 in
theorem wide_any (s : ByteArray) (hs : s.size ≤ 1000000) (w : World) (hT : Lib.Utf8Tabs 1 2 w) :
    Calls Tryd.prog 34 #[.string s] w fun e w' => e = .returned (.tuple #[.string ⟨(wideL (ls s)).toArray⟩, .int .i64 (wideAt (ls s) : Int), .int .i64 (wideErr (ls s) : Int)]) ∧ Below w.heap.size w w' := by
  have HT := Lib.hid hT
  clear hT
  have Hst : WideRel s w.heap.size w (.int .i64 0) (w.alloc (.cells #[.pointer none, .slice none 0 0] 107)) :=
    ⟨0, [], Nat.zero_le _, rfl, .of (Lib.fresh_isBuilder 107 5 w), (Below.refl _ _).alloc (Nat.le_refl _) _, by simp, by simp [U.w8], by simp⟩
  obtain ⟨B, hB⟩ : ∃ B, w.heap.size = B := ⟨_, rfl⟩
  have HB := Lib.hid hB
  go_enter Tryd.func34, Tryd.ntmps34
  go_wp2
  go_loopw [6] (fun iv wr => WideRel s B w iv wr) (fun iv wr => s.size - (intOf iv).toNat)
  case atStart => exact HB.out ▸ Hst
  case round =>
    obtain ⟨k, cs, hk, rfl, hbuild, hbel, hlt, hlen, hscan⟩ := hrel
    have HS := Lib.hid hscan
    clear hscan
    by_cases hks : k < s.size
    · have hkz : (k : Int) < (s.size : Int) := by omega
      have hTr : Lib.Utf8Tabs 1 2 wr := Utf8Tabs_below HT.out (by rw [HB.out]; exact hbel)
      obtain ⟨c, m, hd⟩ : ∃ c m, U.dec ((ls s).drop k) = (c, m) := ⟨_, _, rfl⟩
      cases m with
      | zero =>
        have cn := next_no s (by omega) (k : Int) c (by rw [nextAt_in s k hks]; exact hd) wr hTr
        have HR := Lib.hid (rel_stop s k c cs hks HS.out hd)
        clear hd hTr
        go_wp2_with fail
        refine cn.mono ?_
        rintro e w1 ⟨rfl, hb1⟩
        go_wp2
        go_ret3
        exact ⟨ret_sii (by rw [HR.out.1]) (by rw [HR.out.2.1]) (by rw [HR.out.2.2]; rfl), by rw [HB.out]; exact hbel.trans (hb1.mono (by omega))⟩
      | succ m =>
        have cn := next_ok s (by omega) k hks c m hd wr hTr
        have HR := Lib.hid (rel_next s k c m cs hks HS.out hd)
        have HU := Lib.hid (units_len _ c m hd)
        have hkm : (k : Int) + ((m : Int) + 1) ≤ (s.size : Int) := by have := HR.out.1; omega
        have hc : c ≤ 1114111 := by
          obtain ⟨h1, _⟩ := U.enc_dec _ c m hd
          unfold U.scalar at h1
          omega
        clear hd hTr
        go_wp2_with fail
        refine cn.mono ?_
        rintro e w1 ⟨rfl, hb1⟩
        go_wp2_with fail
        refine (writeCharacter_any B B c hc _ _ (builder_below hbuild hb1) (by rw [Lib.byteCells_length]; omega) (by have := hb1.size; omega)).mono ?_
        rintro e w2 ⟨rfl, h2, hb2⟩
        go_wp2
        go_roundw
        case rel =>
          refine ⟨k + (m + 1), cs ++ [c], HR.out.1, by go_num, ?_, (hbel.trans (hb1.mono (by omega))).trans hb2, by have := hb1.size; have := hb2.size; omega, ?_, HR.out.2⟩
          · rw [U.w8_append, byteCells_append]
            simpa [U.w8] using h2
          · rw [U.w8_append, List.length_append]
            have := HU.out
            simp only [U.w8, List.flatMap_cons, List.flatMap_nil, List.append_nil] at this hlen ⊢
            omega
        case measure => have := HR.out.1; simp [intOf]; omega
    · obtain rfl : k = s.size := by omega
      have HR := Lib.hid (rel_end s cs HS.out)
      go_wp2_with fail
      refine (Tryd.Builder_String_any_f B B (U.w8 cs) _ hbuild (by omega)).mono ?_
      rintro e w1 ⟨rfl, h1, hb1⟩
      go_wp2
      go_ret3
      exact ⟨ret_sii (by rw [HR.out.1]) (by rw [HR.out.2.1]; rfl) (by rw [HR.out.2.2]; rfl), by rw [HB.out]; exact hbel.trans hb1⟩
end Go.Proofs.YtmndmnajgfabnaaDoor
