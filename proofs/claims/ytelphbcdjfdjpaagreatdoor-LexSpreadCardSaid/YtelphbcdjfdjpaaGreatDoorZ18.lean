/- A script's lexemes: fuel, a move by so many bytes, a blank ahead; each stands where its place is. No program. What package math's small functions answer at 31. Conditions: none. -/
import Derived.Test.YtelphbcdjfdjpaaGreatDoorZ17
import Derived.Laws.Externs
namespace Go.Proofs.YtelphbcdjfdjpaaGreatDoor
set_option linter.all false

/-- Of every numeral something is known. -/
def Total (num : List UInt8 → Option Nat) : Prop := ∀ t, num t ≠ none
theorem first_known {num : List UInt8 → Option Nat} (ht : Total num) (l : List UInt8) : X.first num l ≠ .unknown := by
  unfold X.first
  split
  · unfold X.nameAns; simp
  split
  · unfold X.text; split <;> simp
  split
  · unfold X.mark; split <;> simp
  split
  · unfold X.number
    split
    · simp
    · split
      · rename_i h; exact absurd h (ht _)
      · simp
  · unfold X.mark; split <;> simp
theorem lexF_known {num : List UInt8 → Option Nat} (ht : Total num) : ∀ (f : Nat) (l : List UInt8) (p : Nat), l.length < f → X.lexF num f l p ≠ .unknown
  | 0, _, _, h => by omega
  | f + 1, l, p, h => by
    rw [lexF_step]
    split
    · simp
    split
    · simp
    rename_i hne
    have hpos : 0 < (l.drop (X.gap l).1).length := List.length_pos_iff.2 hne
    cases hf : X.first num (l.drop (X.gap l).1) with
    | unknown => exact absurd hf (first_known ht _)
    | no => simp
    | yes k t v n =>
      have hn := first_some hpos hf
      rw [List.length_drop] at hpos hn
      have ih := lexF_known ht f (l.drop ((X.gap l).1 + n)) (p + (X.gap l).1 + n) (by rw [List.length_drop]; omega)
      simp only
      split
      · simp
      · exact ih
/-- More fuel changes nothing. -/
theorem lexF_more {num : List UInt8 → Option Nat} : ∀ (f k : Nat) (l : List UInt8) (p : Nat), X.lexF num f l p ≠ .unknown → X.lexF num (f + k) l p = X.lexF num f l p
  | 0, k, l, p, h => absurd rfl h
  | f + 1, k, l, p, h => by
    rw [show f + 1 + k = (f + k) + 1 by omega, lexF_step, lexF_step]
    rw [lexF_step] at h
    split
    · rfl
    rename_i h1
    rw [if_neg h1] at h
    split
    · rfl
    rename_i h2
    rw [if_neg h2] at h
    cases hf : X.first num (l.drop (X.gap l).1) with
    | unknown => rfl
    | no => rfl
    | yes k' t v n =>
      rw [hf] at h
      simp only at h ⊢
      have ih := lexF_more f k (l.drop ((X.gap l).1 + n)) (p + (X.gap l).1 + n) (fun e => by rw [e] at h; exact h rfl)
      rw [ih]
def moveX (k : Nat) (x : X.Lx) : X.Lx := { x with place := x.place + k }
def moveO (k : Nat) : X.Out → X.Out
  | .ok r => .ok (r.map (moveX k))
  | .fault p => .fault (p + k)
  | .unknown => .unknown
theorem lexF_move (num : List UInt8 → Option Nat) : ∀ (f k : Nat) (l : List UInt8) (p : Nat), X.lexF num f l (p + k) = moveO k (X.lexF num f l p)
  | 0, k, l, p => rfl
  | f + 1, k, l, p => by
    rw [lexF_step, lexF_step]
    split
    · show X.Out.fault _ = .fault _; congr 1; omega
    split
    · rfl
    cases hf : X.first num (l.drop (X.gap l).1) with
    | unknown => rfl
    | no => show X.Out.fault _ = .fault _; congr 1; omega
    | yes k' t v n =>
      simp only
      rw [show p + k + (X.gap l).1 + n = p + (X.gap l).1 + n + k by omega, lexF_move num f k]
      cases X.lexF num f (l.drop ((X.gap l).1 + n)) (p + (X.gap l).1 + n) with
      | unknown => rfl
      | fault q => rfl
      | ok r =>
        show X.Out.ok _ = .ok _
        rw [List.map_cons]
        unfold moveX
        simp only
        rw [show p + k + (X.gap l).1 = p + (X.gap l).1 + k by omega]
theorem dec_blank (s : List UInt8) : U.dec (32 :: s) = (32, 1) := U.dec_ascii _ (by simp) (by show (32 : Nat) < 128; decide)
theorem gap_blank (s : List UInt8) : X.gap (32 :: s) = (1 + (X.gap s).1, (X.gap s).2) := by
  unfold X.gap
  rw [List.length_cons, gap_step]
  rw [if_neg (by simp [List.isPrefixOf]), if_neg (by simp [List.isPrefixOf]), dec_blank]
  rw [if_pos ⟨by decide, Or.inl (by decide)⟩]
  rfl
/-- A blank ahead moves all. -/
theorem lex_blank {num : List UInt8 → Option Nat} (ht : Total num) (s : List UInt8) : X.lex num (32 :: s) = moveO 1 (X.lex num s) := by
  have h1 : X.lexF num (s.length + 2) s 0 = X.lexF num (s.length + 1) s 0 := lexF_more (s.length + 1) 1 s 0 (lexF_known ht _ _ _ (by omega))
  unfold X.lex
  rw [List.length_cons, ← h1, lexF_step, lexF_step, gap_blank]
  have hd : ∀ k, (32 :: s).drop (1 + k) = s.drop k := fun k => by rw [Nat.add_comm, List.drop_succ_cons]
  simp only [hd]
  split
  · show X.Out.fault _ = .fault _; congr 1; omega
  split
  · rfl
  cases hf : X.first num (s.drop (X.gap s).1) with
  | unknown => rfl
  | no => show X.Out.fault _ = .fault _; congr 1; omega
  | yes k' t v n =>
    simp only
    rw [show 1 + (X.gap s).1 + n = 1 + ((X.gap s).1 + n) by omega, hd, show 0 + (1 + (X.gap s).1) + n = 0 + (X.gap s).1 + n + 1 by omega, lexF_move num (s.length + 1) 1]
    cases X.lexF num (s.length + 1) (s.drop ((X.gap s).1 + n)) (0 + (X.gap s).1 + n) with
    | unknown => rfl
    | fault q => rfl
    | ok r =>
      show X.Out.ok _ = .ok _
      rw [List.map_cons]
      unfold moveX
      simp only
      rw [show 0 + (1 + (X.gap s).1) = 0 + (X.gap s).1 + 1 by omega]
/-- How many bytes a lexeme has that stands as its text. -/
def named (x : X.Lx) : Nat := if x.kind = 3 ∨ x.kind = 4 then 0 else x.text.length
/-- Lexemes that stand in s from a place on. -/
def Stands (s : List UInt8) : Nat → List X.Lx → Prop
  | _, [] => True
  | p, x :: r => p ≤ x.place ∧ x.place < s.length ∧ (1 ≤ x.kind ∧ x.kind ≤ 5) ∧ (x.kind ≠ 3 ∧ x.kind ≠ 4 → x.place + x.text.length ≤ s.length ∧ (s.drop x.place).take x.text.length = x.text) ∧ Stands s (x.place + max 1 (named x)) r
theorem stands_mono (s : List UInt8) : ∀ (r : List X.Lx) (p q : Nat), q ≤ p → Stands s p r → Stands s q r
  | [], _, _, _, _ => trivial
  | x :: r, p, q, h, H => ⟨Nat.le_trans h H.1, H.2⟩
theorem first_stands {num : List UInt8 → Option Nat} {l : List UInt8} {k : Nat} {t : List UInt8} {v n : Nat} (h0 : 0 < l.length) (h : X.first num l = .yes k t v n) :
    (1 ≤ k ∧ k ≤ 5) ∧ (k ≠ 3 ∧ k ≠ 4 → t.length = n ∧ l.take n = t) := by
  have hmark : ∀ {k t v n}, X.mark l = .yes k t v n → (1 ≤ k ∧ k ≤ 5) ∧ (k ≠ 3 ∧ k ≠ 4 → t.length = n ∧ l.take n = t) := by
    intro k t v n h
    unfold X.mark at h
    split at h
    · cases h
    · simp only [X.Ans.yes.injEq] at h
      obtain ⟨rfl, rfl, _, rfl⟩ := h
      refine ⟨by omega, fun _ => ⟨rfl, ?_⟩⟩
      exact (List.prefix_iff_eq_take.1 (List.isPrefixOf_iff_prefix.1 (longest_pre l X.marks [] (by simp)))).symm
  unfold X.first at h
  split at h
  · unfold X.nameAns at h
    simp only [X.Ans.yes.injEq] at h
    obtain ⟨rfl, rfl, _, rfl⟩ := h
    refine ⟨by split <;> omega, fun _ => ⟨?_, rfl⟩⟩
    rw [List.length_take]
    have := past_le X.goes l
    omega
  split at h
  · unfold X.text at h
    split at h
    · cases h
    · simp only [X.Ans.yes.injEq] at h
      obtain ⟨rfl, _⟩ := h
      exact ⟨by omega, fun h => absurd rfl h.2⟩
  split at h
  · exact hmark h
  split at h
  · unfold X.number at h
    split at h
    · cases h
    · split at h
      · cases h
      · simp only [X.Ans.yes.injEq] at h
        obtain ⟨rfl, _⟩ := h
        exact ⟨by omega, fun h => absurd rfl h.1⟩
  · exact hmark h
theorem lexF_stands (num : List UInt8 → Option Nat) (s : List UInt8) : ∀ (f p : Nat) (r : List X.Lx), X.lexF num f (s.drop p) p = .ok r → Stands s p r
  | 0, p, r, h => by cases h
  | f + 1, p, r, h => by
    rw [lexF_step] at h
    split at h
    · cases h
    split at h
    · cases h; exact trivial
    rename_i h1 hne
    have hpos : 0 < ((s.drop p).drop (X.gap (s.drop p)).1).length := List.length_pos_iff.2 hne
    cases hf : X.first num ((s.drop p).drop (X.gap (s.drop p)).1) with
    | unknown => rw [hf] at h; cases h
    | no => rw [hf] at h; cases h
    | yes k t v n =>
      rw [hf] at h
      simp only at h
      have hn := first_some hpos hf
      obtain ⟨hk, ht⟩ := first_stands hpos hf
      rw [List.drop_drop] at h
      rw [List.drop_drop] at ht hpos hn
      rw [List.length_drop] at hpos hn
      generalize (X.gap (s.drop p)).1 = g at *
      have e : p + (g + n) = p + g + n := by omega
      rw [e] at h
      cases hr : X.lexF num f (s.drop (p + g + n)) (p + g + n) with
      | unknown => rw [hr] at h; cases h
      | fault q => rw [hr] at h; cases h
      | ok r2 =>
        rw [hr] at h
        cases h
        have ih := lexF_stands num s f (p + g + n) r2 hr
        refine ⟨by show p ≤ p + g; omega, by show p + g < s.length; omega, hk, fun hkk => ?_, stands_mono s r2 (p + g + n) _ ?_ ih⟩
        · obtain ⟨h1, h2⟩ := ht hkk
          refine ⟨by show p + g + t.length ≤ s.length; omega, ?_⟩
          show (s.drop (p + g)).take t.length = t
          rw [h1]; exact h2
        · show p + g + max 1 (if k = 3 ∨ k = 4 then 0 else t.length) ≤ p + g + n
          split
          · omega
          · rename_i hk2
            have := (ht (by omega)).1
            omega
end Go.Proofs.YtelphbcdjfdjpaaGreatDoor
namespace Go.Proofs.YtelphbcdjfdjpaaGreatDoor
open Go.RowKit
set_option linter.all false
theorem x_bits (v : Nat) (W : World) : (callFunc 56 #[.float .f64 v]).run Tryz.prog W = .ok (.value (.int .u64 (v : Int))) W := by
  rw [run_callFunc_extern Tryz.func56 (by kernel_rfl) (by kernel_rfl) (by kernel_rfl) (e := Extern.MathFloatBits.float64bits) (by kernel_rfl) #[.float .f64 v] W]
  rfl
theorem x_from (v : Int) (W : World) : (callFunc 65 #[.int .u64 v]).run Tryz.prog W = .ok (.value (.float .f64 v.toNat)) W := by
  rw [run_callFunc_extern Tryz.func65 (by kernel_rfl) (by kernel_rfl) (by kernel_rfl) (e := Extern.MathFloatBits.float64frombits) (by kernel_rfl) #[.int .u64 v] W]
  rfl
def b31 : Nat := 4629418941960159232
theorem abs_31 (w : World) : Calls Tryz.prog 148 #[.float .f64 b31] w fun e w' => e = .returned (.float .f64 b31) ∧ w' = w := by
  have hb : bits .andNot .u64 (b31 : Int) 9223372036854775808 = (b31 : Int) := by kernel_rfl
  have x1 := x_bits
  have x2 := x_from
  generalize b31 = b at *
  go_enter Tryz.func148, Tryz.ntmps148
  go_wp2
  go_ret
  exact ⟨rfl, rfl⟩
theorem isNaN_31 (w : World) : Calls Tryz.prog 143 #[.float .f64 b31] w fun e w' => e = .returned (.bool false) ∧ w' = w := by
  have hb : FloatKind.f64.format.order b31 b31 = some Ordering.eq := by kernel_rfl
  generalize b31 = b at *
  go_enter Tryz.func143, Tryz.ntmps143
  go_wp2
  go_ret
  exact ⟨rfl, rfl⟩
theorem isInf_31 (w : World) : Calls Tryz.prog 142 #[.float .f64 b31, .int .i64 0] w fun e w' => e = .returned (.bool false) ∧ w' = w := by
  have hb : Hid (((FloatKind.f64.format.order b31 9218868437227405311 == some Ordering.gt)) = false) := Lib.hid (by kernel_rfl)
  have ha := abs_31
  generalize b31 = b at *
  go_enter Tryz.func142, Tryz.ntmps142
  go_wp2_with (go_at_call 148; refine (ha _).mono ?_; rintro e w' ⟨rfl, rfl⟩)
  go_ret
  exact ⟨by rw [hb.out]; rfl, rfl⟩
theorem normalize_31 (w : World) : Calls Tryz.prog 144 #[.float .f64 b31] w fun e w' => e = .returned (.tuple #[.float .f64 b31, .int .i64 0]) ∧ w' = w := by
  have hb : Hid ((FloatKind.f64.format.order b31 4503599627370496 == some Ordering.lt) = false) := Lib.hid (by kernel_rfl)
  have ha := abs_31
  generalize b31 = b at *
  go_enter Tryz.func144, Tryz.ntmps144
  have hb2 := hb.out
  go_wp2_with (go_at_call 148; refine (ha _).mono ?_; rintro e w' ⟨rfl, rfl⟩)
  go_ret2
  exact ⟨rfl, rfl⟩
theorem ldexp_31 (w : World) : Calls Tryz.prog 135 #[.float .f64 b31, .int .i64 0] w fun e w' => e = .returned (.float .f64 b31) ∧ w' = w := by
  have h0 : (FloatKind.f64.format.order b31 0 == some Ordering.eq) = false := by kernel_rfl
  have e1 : wrap64 ((b31 : Int) / 4503599627370496) = 1027 := by kernel_rfl
  have e2 : bits .and .i64 1027 2047 = 1027 := by kernel_rfl
  have e3 : ∀ W : World, (binOp .mul 30 (.float .f64 4607182418800017408) (.float .f64 (bits .or .u64 (bits .andNot .u64 (b31 : Int) 9218868437227405312) 4625196817309499392).toNat)).run Tryz.prog W = .ok (.float .f64 b31) W := fun W => by kernel_rfl
  have h1 := isInf_31
  have h2 := isNaN_31
  have h3 := normalize_31
  have x1 := x_bits
  have x2 := x_from
  generalize b31 = b at *
  go_enter Tryz.func135, Tryz.ntmps135
  go_wp2_with (first | (go_at_call 142; refine (h1 _).mono ?_; rintro e w' ⟨rfl, rfl⟩) | (go_at_call 143; refine (h2 _).mono ?_; rintro e w' ⟨rfl, rfl⟩) | (go_at_call 144; refine (h3 _).mono ?_; rintro e w' ⟨rfl, rfl⟩))
  go_ret
  exact ⟨rfl, rfl⟩
theorem mathLdexp_31 (w : World) : Calls Tryz.prog 123 #[.float .f64 b31, .int .i64 0] w fun e w' => e = .returned (.float .f64 b31) ∧ w' = w := by
  have h1 := ldexp_31
  generalize b31 = b at *
  go_enter Tryz.func123, Tryz.ntmps123
  go_wp2_with (go_at_call 135; refine (h1 _).mono ?_; rintro e w' ⟨rfl, rfl⟩)
  go_ret
  exact ⟨rfl, rfl⟩
end Go.Proofs.YtelphbcdjfdjpaaGreatDoor
