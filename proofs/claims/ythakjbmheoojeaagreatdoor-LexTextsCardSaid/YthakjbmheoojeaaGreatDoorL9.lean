/- A text in its marks: the program's said and text. Conditions: those that each theorem names. -/
import Derived.Test.YthakjbmheoojeaaGreatDoorL8
namespace Go.Proofs.YthakjbmheoojeaaGreatDoor
open Go.RowKit Go.Shelf
set_option linter.all false

theorem dec_succ (l : List UInt8) (h : (U.dec l).2 ≠ 0) : ∃ c n, U.dec l = (c, n + 1) := ⟨(U.dec l).1, (U.dec l).2 - 1, by apply Prod.ext <;> simp only; omega⟩
theorem char8_len (l : List UInt8) (h : (U.dec l).2 ≠ 0) : (X.char8 l).length ≤ 2 * (U.dec l).2 := by
  obtain ⟨c, n, hd⟩ := dec_succ l h
  have := units_len l c n hd
  unfold X.char8
  rw [hd]
  exact this
theorem coded_some {l : List UInt8} {d : Nat} {r : List UInt8 × Nat} (h : X.coded l d = some r) : 1 ≤ r.2 ∧ r.2 ≤ l.length ∧ r.1.length ≤ 2 * r.2 := by
  unfold X.coded at h
  split at h
  · cases h
  · cases hv : X.hexv ((l.drop 1).take d) 0 with
    | none => rw [hv] at h; cases h
    | some u =>
      rw [hv] at h
      simp only [Option.map_some, Option.some.injEq] at h
      subst h
      refine ⟨by simp only; omega, by simp only; omega, ?_⟩
      rw [be_length]; simp only; omega
theorem escaped_some {l : List UInt8} {r : List UInt8 × Nat} (h : X.escaped l = some r) : 1 ≤ r.2 ∧ r.2 ≤ l.length ∧ r.1.length ≤ 2 * r.2 := by
  have hle := U.dec_le l
  unfold X.escaped at h
  split at h
  · cases h
  rename_i h0
  split at h
  · rename_i hp
    simp only [Option.some.injEq] at h; subst h
    have := (List.isPrefixOf_iff_prefix.1 hp).length_le
    refine ⟨by decide, by simpa using this, by simp⟩
  split at h
  · simp only [Option.some.injEq] at h; subst h
    exact ⟨by simp only; omega, hle, by simp⟩
  split at h
  · simp only [Option.some.injEq] at h; subst h
    exact ⟨by simp only; omega, hle, by rw [be_length]; simp only; omega⟩
  split at h
  · cases h
  split at h
  · exact coded_some h
  split at h
  · exact coded_some h
  split at h
  · simp only [Option.some.injEq] at h; subst h
    exact ⟨by simp only; omega, hle, by rw [be_length]; simp only; omega⟩
  · simp only [Option.some.injEq] at h; subst h
    exact ⟨by simp only; omega, hle, char8_len l h0⟩
theorem said_some {l : List UInt8} {r : List UInt8 × Nat} (h : X.said l = some r) : 1 ≤ r.2 ∧ r.2 ≤ l.length ∧ r.1.length ≤ 2 * r.2 := by
  have hle := U.dec_le l
  unfold X.said at h
  split at h
  · cases h
  rename_i h0
  split at h
  · cases he : X.escaped (l.drop (U.dec l).2) with
    | none => rw [he] at h; cases h
    | some s =>
      rw [he] at h
      obtain ⟨h1, h2, h3⟩ := escaped_some he
      rw [List.length_drop] at h2
      simp only [Option.map_some, Option.some.injEq] at h
      subst h
      exact ⟨by simp only; omega, by simp only; omega, by simp only; omega⟩
  · simp only [Option.some.injEq] at h; subst h
    exact ⟨by simp only; omega, hle, char8_len l (by omega)⟩

set_option maxHeartbeats 4000000 in
theorem said_any (N : Nat) (l : List UInt8) (hl : l.length ≤ 65535) (w : World) (h : Low N w) :
    Calls Tryz.prog 77 #[.string (bs l)] w fun e w' => e = .returned (sayV (X.said l)) ∧ Below w.heap.size w w' := by
  have hn := nxt_any N l (by omega) 0 (by omega) w h
  rw [List.drop_zero] at hn
  have hle := U.dec_le l
  have hes := fun W (hW : Low N W) => escaped_any N (l.drop (U.dec l).2) (by rw [List.length_drop]; omega) W hW
  have hesp := @escaped_some (l.drop (U.dec l).2)
  rw [← bs_drop] at hes
  have hch : (U.dec l).2 ≠ 0 → ∀ W, Low N W → _ := fun hd W hW => character_any N l (by omega) hd W hW
  have he : X.said l = if (U.dec l).2 = 0 ∨ (U.dec l).1 = 10 ∨ (U.dec l).1 = 13 then none
    else if (U.dec l).1 = 92 then (X.escaped (l.drop (U.dec l).2)).map fun r => (r.1, (U.dec l).2 + r.2)
    else some (X.char8 l, (U.dec l).2) := rfl
  have hsz := bs_size l
  have hdl : (l.drop (U.dec l).2).length ≤ 65535 := by rw [List.length_drop]; omega
  generalize X.said l = R at he ⊢
  generalize X.escaped (l.drop (U.dec l).2) = r at hes hesp he
  generalize (l.drop (U.dec l).2).length = dl at hesp hdl
  generalize X.char8 l = ch at hch he
  generalize U.dec l = d at hn hle hes hch he
  obtain ⟨c, n⟩ := d
  simp only at hn hle hes hch he
  have HL : Hid (∀ W, Below w.heap.size w W → Low N W) := Lib.hid fun W hW => h.bel hW
  have hnS : n ≤ (bs l).size := by omega
  have hz : (bs l).size ≤ 65535 := by omega
  clear h hsz hl hle
  generalize bs l = S at hn hes hch hnS hz ⊢
  by_cases n0 : n = 0
  · rw [if_pos (.inl n0)] at he
    subst he n0
    have hn : Calls Tryz.prog 37 #[.string S, .int .i64 0] w fun e w' => e = .returned (.tuple #[.int .i64 (c : Int), .int .i64 0, .bool false]) ∧ Below w.heap.size w w' := hn
    clear hes hch
    go_enter Tryz.func77, Tryz.ntmps77
    go_wp2_with (go_at_call 37; refine hn.mono ?_; rintro e w1 ⟨rfl, hb1⟩)
    go_ret2
    exact ⟨rfl, hb1⟩
  have hch := hch n0
  have hdt : decide (n ≠ 0) = true := decide_eq_true n0
  rw [hdt] at hn
  have hn : Calls Tryz.prog 37 #[.string S, .int .i64 0] w fun e w' => e = .returned (.tuple #[.int .i64 (c : Int), .int .i64 (n : Int), .bool true]) ∧ Below w.heap.size w w' := hn
  clear hdt
  by_cases c10 : c = 10
  · rw [if_pos (by omega)] at he
    subst he c10
    clear hes hch
    go_enter Tryz.func77, Tryz.ntmps77
    go_wp2_with (go_at_call 37; refine hn.mono ?_; rintro e w1 ⟨rfl, hb1⟩)
    go_ret2
    exact ⟨rfl, hb1⟩
  by_cases c13 : c = 13
  · rw [if_pos (by omega)] at he
    subst he c13
    clear hes hch
    go_enter Tryz.func77, Tryz.ntmps77
    go_wp2_with (go_at_call 37; refine hn.mono ?_; rintro e w1 ⟨rfl, hb1⟩)
    go_ret2
    exact ⟨rfl, hb1⟩
  rw [if_neg (by omega)] at he
  by_cases c92 : c = 92
  · rw [if_pos c92] at he
    subst c92
    have HE := Lib.hid he
    clear he c10 c13 hch
    cases r with
    | none =>
      have hes : ∀ W, Low N W → Calls Tryz.prog 90 #[.string (S.extract n S.size)] W fun e w' => e = .returned (.tuple #[.string (bs []), .int .i64 0]) ∧ Below W.heap.size W w' := hes
      clear hesp
      go_enter Tryz.func77, Tryz.ntmps77
      go_wp2_with (first
        | (go_at_call 37; refine hn.mono ?_; rintro e w1 ⟨rfl, hb1⟩)
        | (go_at_call 90; refine (hes _ (HL.out _ hb1)).mono ?_; rintro e w2 ⟨rfl, hb2⟩))
      go_ret2
      exact ⟨by rw [HE.out]; rfl, hb1.trans (hb2.mono hb1.size)⟩
    | some s =>
      obtain ⟨s1, s2⟩ := s
      obtain ⟨p1, p2, _⟩ := hesp rfl
      simp only at p1 p2
      have hes : ∀ W, Low N W → Calls Tryz.prog 90 #[.string (S.extract n S.size)] W fun e w' => e = .returned (.tuple #[.string (bs s1), .int .i64 (s2 : Int)]) ∧ Below W.heap.size W w' := hes
      have i0 : ¬ (s2 : Int) = 0 := by omega
      have HE2 : Hid (sayV R = .tuple #[.string (bs s1), .int .i64 ((n : Int) + (s2 : Int))]) := by
        show _ = _
        rw [HE.out]; rfl
      clear hesp HE
      generalize bs s1 = S1 at hes HE2
      go_enter Tryz.func77, Tryz.ntmps77
      go_wp2_with (first
        | (go_at_call 37; refine hn.mono ?_; rintro e w1 ⟨rfl, hb1⟩)
        | (go_at_call 90; refine (hes _ (HL.out _ hb1)).mono ?_; rintro e w2 ⟨rfl, hb2⟩))
      go_ret2
      exact ⟨by rw [HE2.out]; rfl, hb1.trans (hb2.mono hb1.size)⟩
  · rw [if_neg c92] at he
    subst he
    simp only [sayV]
    generalize bs ch = RU at hch ⊢
    have i1 : ((c : Int) == 10) = false := beq_eq_false_iff_ne.2 (by omega)
    have i2 : ((c : Int) == 13) = false := beq_eq_false_iff_ne.2 (by omega)
    have i3 : ((c : Int) == 92) = false := beq_eq_false_iff_ne.2 (by omega)
    clear c10 c13 c92 hes hesp
    go_enter Tryz.func77, Tryz.ntmps77
    go_wp2_with (first
        | (go_at_call 37; refine hn.mono ?_; rintro e w1 ⟨rfl, hb1⟩)
        | (go_at_call 91; refine (hch _ (HL.out _ hb1)).mono ?_; rintro e w2 ⟨rfl, hb2⟩))
    go_ret2
    exact ⟨rfl, hb1.trans (hb2.mono hb1.size)⟩
end Go.Proofs.YthakjbmheoojeaaGreatDoor
