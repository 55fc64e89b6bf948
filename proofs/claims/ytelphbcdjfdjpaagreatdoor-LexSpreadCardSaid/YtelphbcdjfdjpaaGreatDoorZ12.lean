/- What a text's escapes and characters say: the program's escaped and said. Conditions: those that each theorem names. A text in its marks: the program's said and text. Conditions: those that each theorem names. -/
import Derived.Test.YtelphbcdjfdjpaaGreatDoorZ11
namespace Go.Proofs.YtelphbcdjfdjpaaGreatDoor
open Go.RowKit Go.Shelf
set_option linter.all false

/-- A wide text and how many bytes say it; 0: it isn't right. -/
def sayV : Option (List UInt8 × Nat) → Value
  | some r => .tuple #[.string (bs r.1), .int .i64 (r.2 : Int)]
  | none => .tuple #[.string (bs []), .int .i64 0]
theorem coded_say (N : Nat) (l : List UInt8) (hl : l.length ≤ 65536) (d : Nat) (h24 : d = 2 ∨ d = 4) (w : World) (h : Low N w) :
    Calls Tryz.prog 104 #[.string (bs l), .int .i64 (d : Int)] w fun e w' => e = .returned (sayV (X.coded l d)) ∧ Below w.heap.size w w' := by
  refine (coded_any N l hl d h24 w h).mono ?_
  rintro e w' ⟨rfl, hb⟩
  refine ⟨?_, hb⟩
  cases X.coded l d <;> rfl
def idxV : Option Nat → Int
  | some i => (i : Int)
  | none => -1
theorem letter_index : ∀ (l : List UInt8) (b : UInt8), Lib.indexByte l b = idxV (X.letterOf l b.toNat)
  | [], b => rfl
  | x :: r, b => by
    unfold Lib.indexByte X.letterOf
    by_cases h : x = b
    · subst h; simp [idxV]
    · have h1 : ¬ x.toNat = b.toNat := fun e => h (UInt8.toNat_inj.1 e)
      have h2 : (x == b) = false := by simpa using h
      rw [h2, if_neg h1, letter_index r b]
      cases X.letterOf r b.toNat with
      | none => rfl
      | some i =>
        have : ¬ ((i : Int) == -1) = true := by simp
        simp only [Option.map_some, Bool.false_eq_true, if_false, idxV, if_neg this]
        exact (Int.natCast_succ i).symm
theorem letter_lt : ∀ (l : List UInt8) (b i : Nat), X.letterOf l b = some i → i < l.length
  | [], _, _, h => by cases h
  | x :: r, b, i, h => by
    unfold X.letterOf at h
    split at h
    · simp at h; subst h; simp
    · cases hr : X.letterOf r b with
      | none => rw [hr] at h; cases h
      | some j =>
        rw [hr] at h
        simp at h
        have := letter_lt r b j hr
        simp; omega

set_option maxHeartbeats 4000000 in
theorem escaped_any (N : Nat) (l : List UInt8) (hl : l.length ≤ 65535) (w : World) (h : Low N w) :
    Calls Tryz.prog 90 #[.string (bs l)] w fun e w' => e = .returned (sayV (X.escaped l)) ∧ Below w.heap.size w w' := by
  have hn := nxt_any N l (by omega) 0 (by omega) w h
  rw [List.drop_zero] at hn
  have hpre : ∀ W, Calls Tryz.prog 38 #[.string (bs l), .string (bs [13, 10])] W fun e w' => e = .returned (.bool (List.isPrefixOf [13, 10] l)) ∧ W = w' := by
    intro W
    refine (Tryz.strings_HasPrefix _ _ _).mono ?_
    rintro e w' ⟨rfl, rfl⟩
    exact ⟨rfl, rfl⟩
  have hby := byteAt_any l (by omega) 1 (by omega)
  have hd1 := isDigit_any (U.g l 1) (U.g_lt l 1)
  have hd0 := isDigit_any (U.g l 0) (U.g_lt l 0)
  have hc2 := fun W (hW : Low N W) => coded_say N l (by omega) 2 (.inl rfl) W hW
  have hc4 := fun W (hW : Low N W) => coded_say N l (by omega) 4 (.inr rfl) W hW
  have hch : (U.dec l).2 ≠ 0 → ∀ W, Low N W → _ := fun hd W hW => character_any N l (by omega) hd W hW
  have hix : ∀ (b0 : UInt8), b0.toNat = U.g l 0 → ∀ W, Calls Tryz.prog 105 #[.string (bs X.lettered), .int .u8 (U.g l 0 : Int)] W fun e w' => e = .returned (.int .i64 (idxV (X.letterOf X.lettered (U.g l 0)))) ∧ W = w' := by
    intro b0 hb0 W
    refine (Tryz.strings_IndexByte _ _ _).mono ?_
    rintro e w' ⟨rfl, rfl⟩
    refine ⟨?_, rfl⟩
    rw [← hb0, show ((b0.toNat : Int)).toNat.toUInt8 = b0 by simp, bs_list, letter_index]
  have hun0 := unitE_any 0 (by decide)
  have hun := fun i (hi : i < 6) => unitE_any (8 + i) (by omega)
  have hlt := fun i => letter_lt X.lettered (U.g l 0) i
  have hle := U.dec_le l
  have he : X.escaped l = if (U.dec l).2 = 0 then none
    else if List.isPrefixOf [13, 10] l then some ([], 2)
    else if X.ends (U.dec l).1 then some ([], (U.dec l).2)
    else if (U.dec l).1 = 48 ∧ X.digit (U.g l 1) = false then some (U.be 0, (U.dec l).2)
    else if X.digit (U.g l 0) then none
    else if (U.dec l).1 = 120 then X.coded l 2
    else if (U.dec l).1 = 117 then X.coded l 4
    else match X.letterOf X.lettered (U.g l 0) with
      | some i => some (U.be (8 + i), (U.dec l).2)
      | none => some (X.char8 l, (U.dec l).2) := rfl
  have hc1114 : (U.dec l).1 < 2147483648 := by
    obtain ⟨c, n, hd⟩ : ∃ c n, U.dec l = (c, n) := ⟨_, _, rfl⟩
    cases n with
    | zero => rw [dec_zero l (by rw [hd])]; decide
    | succ n => obtain ⟨h1, _⟩ := U.enc_dec l c n hd; rw [hd]; unfold U.scalar at h1; simp only; omega
  have hend := isLineEnd_any (U.dec l).1 hc1114
  have hsz := bs_size l
  have hfb := first_byte l
  generalize X.escaped l = R at he ⊢
  generalize X.coded l 2 = r2 at hc2 he
  generalize X.coded l 4 = r4 at hc4 he
  generalize X.char8 l = ch at hch he
  generalize List.isPrefixOf [13, 10] l = p at hpre he
  generalize hG0 : U.g l 0 = x at hd0 hix hlt he hfb
  generalize U.g l 1 = y at hd1 hby he
  generalize X.digit x = dx at hd0 he
  generalize X.digit y = dy at hd1 he
  generalize X.letterOf X.lettered x = lo at hix hlt he
  generalize U.dec l = d at hn hch hle he hc1114 hend
  obtain ⟨c, n⟩ := d
  simp only at hn hch hle he hc1114 hend
  generalize X.ends c = le at hend he
  have HL : Hid (∀ W, Below w.heap.size w W → Low N W) := Lib.hid fun W hW => h.bel hW
  have hby : ∀ W, Calls Tryz.prog 33 #[.string (bs l), .int .i64 1] W fun e w' => e = .returned (.int .u8 (y : Int)) ∧ W = w' := hby
  by_cases n0 : n = 0
  · rw [if_pos n0] at he
    subst he n0
    clear hpre hby hd1 hd0 hc2 hc4 hch hix hun0 hun hlt hle hend hsz hfb h
    have hn : Calls Tryz.prog 37 #[.string (bs l), .int .i64 0] w fun e w' => e = .returned (.tuple #[.int .i64 (c : Int), .int .i64 0, .bool false]) ∧ Below w.heap.size w w' := hn
    generalize bs l = S at hn ⊢
    go_enter Tryz.func90, Tryz.ntmps90
    go_wp2_with (go_at_call 37; refine hn.mono ?_; rintro e w1 ⟨rfl, hb1⟩)
    go_ret2
    exact ⟨rfl, hb1⟩
  rw [if_neg n0] at he
  have hdt : decide (n ≠ 0) = true := decide_eq_true n0
  rw [hdt] at hn
  have hn : Calls Tryz.prog 37 #[.string (bs l), .int .i64 0] w fun e w' => e = .returned (.tuple #[.int .i64 (c : Int), .int .i64 (n : Int), .bool true]) ∧ Below w.heap.size w w' := hn
  obtain ⟨b0, hb0, hget⟩ := hfb (by omega)
  have hch := hch n0
  have hix := hix b0 hb0
  have hS0 : 0 < (bs l).size := by omega
  have hget := hget hS0
  rw [← hb0] at hd0 hix
  have hbb : b0.toNat < 256 := UInt8.toNat_lt _
  clear hfb hdt hb0 hsz h
  have hn64 : n ≤ 65536 := by omega
  clear hl hle hc1114
  generalize bs l = S at hn hpre hby hc2 hc4 hch hS0 hget ⊢
  have hpre : ∀ W, Calls Tryz.prog 38 #[.string S, .string ⟨#[13, 10]⟩] W fun e w' => e = .returned (.bool p) ∧ W = w' := hpre
  have hix : ∀ W, Calls Tryz.prog 105 #[.string ⟨#[98, 116, 110, 118, 102, 114]⟩, .int .u8 (b0.toNat : Int)] W fun e w' => e = .returned (.int .i64 (idxV lo)) ∧ W = w' := hix
  cases p
  case true =>
    rw [if_pos rfl] at he
    subst he
    clear hby hd1 hd0 hc2 hc4 hch hix hun0 hun hlt hend
    go_enter Tryz.func90, Tryz.ntmps90
    go_wp2_with (first
          | (go_at_call 37; refine hn.mono ?_; rintro e w1 ⟨rfl, hb1⟩)
          | (go_at_call 38; refine (hpre _).mono ?_; rintro e w' ⟨rfl, rfl⟩)
          | (go_at_call 42; refine (hend _).mono ?_; rintro e w' ⟨rfl, rfl⟩)
          | (go_at_call 33; refine (hby _).mono ?_; rintro e w' ⟨rfl, rfl⟩)
          | (go_at_call 57; first | ((with_reducible refine (hd1 _).mono ?_); rintro e w' ⟨rfl, rfl⟩) | ((with_reducible refine (hd0 _).mono ?_); rintro e w' ⟨rfl, rfl⟩)))
    go_ret2
    exact ⟨rfl, hb1⟩
  rw [if_neg (by decide)] at he
  cases le
  case true =>
    rw [if_pos rfl] at he
    subst he
    clear hby hd1 hd0 hc2 hc4 hch hix hun0 hun hlt
    go_enter Tryz.func90, Tryz.ntmps90
    go_wp2_with (first
          | (go_at_call 37; refine hn.mono ?_; rintro e w1 ⟨rfl, hb1⟩)
          | (go_at_call 38; refine (hpre _).mono ?_; rintro e w' ⟨rfl, rfl⟩)
          | (go_at_call 42; refine (hend _).mono ?_; rintro e w' ⟨rfl, rfl⟩)
          | (go_at_call 33; refine (hby _).mono ?_; rintro e w' ⟨rfl, rfl⟩)
          | (go_at_call 57; first | ((with_reducible refine (hd1 _).mono ?_); rintro e w' ⟨rfl, rfl⟩) | ((with_reducible refine (hd0 _).mono ?_); rintro e w' ⟨rfl, rfl⟩)))
    go_ret2
    exact ⟨rfl, hb1⟩
  rw [if_neg (by decide)] at he
  by_cases c48 : c = 48 ∧ dy = false
  · rw [if_pos c48] at he
    obtain ⟨rfl, rfl⟩ := c48
    subst he
    have hun0 : ∀ W, Calls Tryz.prog 103 #[.int .i64 0] W fun e w' => e = .returned (.string (bs (U.be 0))) ∧ Below W.heap.size W w' := hun0
    clear hd0 hc2 hc4 hch hix hun hlt
    simp only [sayV]
    generalize bs (U.be 0) = RU at hun0 ⊢
    go_enter Tryz.func90, Tryz.ntmps90
    go_wp2_with (first
          | (go_at_call 37; refine hn.mono ?_; rintro e w1 ⟨rfl, hb1⟩)
          | (go_at_call 38; refine (hpre _).mono ?_; rintro e w' ⟨rfl, rfl⟩)
          | (go_at_call 42; refine (hend _).mono ?_; rintro e w' ⟨rfl, rfl⟩)
          | (go_at_call 33; refine (hby _).mono ?_; rintro e w' ⟨rfl, rfl⟩)
          | (go_at_call 57; first | ((with_reducible refine (hd1 _).mono ?_); rintro e w' ⟨rfl, rfl⟩) | ((with_reducible refine (hd0 _).mono ?_); rintro e w' ⟨rfl, rfl⟩))
          | (go_at_call 103; refine (hun0 _).mono ?_; rintro e w2 ⟨rfl, hb2⟩))
    go_ret2
    exact ⟨rfl, hb1.trans (hb2.mono hb1.size)⟩
  rw [if_neg c48] at he
  cases dx
  case true =>
    rw [if_pos rfl] at he
    subst he
    clear hc2 hc4 hch hix hun0 hun hlt
    by_cases e48 : c = 48
    · subst e48
      have hdy : dy = true := by cases dy <;> simp_all
      subst hdy
      clear c48
      go_enter Tryz.func90, Tryz.ntmps90
      go_wp2_with (first
            | (go_at_call 37; refine hn.mono ?_; rintro e w1 ⟨rfl, hb1⟩)
            | (go_at_call 38; refine (hpre _).mono ?_; rintro e w' ⟨rfl, rfl⟩)
            | (go_at_call 42; refine (hend _).mono ?_; rintro e w' ⟨rfl, rfl⟩)
            | (go_at_call 33; refine (hby _).mono ?_; rintro e w' ⟨rfl, rfl⟩)
            | (go_at_call 57; first | ((with_reducible refine (hd1 _).mono ?_); rintro e w' ⟨rfl, rfl⟩) | ((with_reducible refine (hd0 _).mono ?_); rintro e w' ⟨rfl, rfl⟩)))
      go_ret2
      exact ⟨rfl, hb1⟩
    · have i48 : ((c : Int) == 48) = false := beq_eq_false_iff_ne.2 (by omega)
      clear c48 e48
      go_enter Tryz.func90, Tryz.ntmps90
      go_wp2_with (first
            | (go_at_call 37; refine hn.mono ?_; rintro e w1 ⟨rfl, hb1⟩)
            | (go_at_call 38; refine (hpre _).mono ?_; rintro e w' ⟨rfl, rfl⟩)
            | (go_at_call 42; refine (hend _).mono ?_; rintro e w' ⟨rfl, rfl⟩)
            | (go_at_call 33; refine (hby _).mono ?_; rintro e w' ⟨rfl, rfl⟩)
            | (go_at_call 57; first | ((with_reducible refine (hd1 _).mono ?_); rintro e w' ⟨rfl, rfl⟩) | ((with_reducible refine (hd0 _).mono ?_); rintro e w' ⟨rfl, rfl⟩)))
      go_ret2
      exact ⟨rfl, hb1⟩
  rw [if_neg (by decide)] at he
  by_cases c120 : c = 120
  · rw [if_pos c120] at he
    subst c120 he
    have hc2 : ∀ W, Low N W → Calls Tryz.prog 104 #[.string S, .int .i64 2] W fun e w' => e = .returned (sayV R) ∧ Below W.heap.size W w' := hc2
    obtain ⟨v1, v2, hv⟩ : ∃ v1 v2, sayV R = .tuple #[.string v1, .int .i64 v2] := by cases R <;> exact ⟨_, _, rfl⟩
    rw [hv] at hc2 ⊢
    clear hc4 hch hix hun0 hun hlt c48
    go_enter Tryz.func90, Tryz.ntmps90
    go_wp2_with (first
          | (go_at_call 37; refine hn.mono ?_; rintro e w1 ⟨rfl, hb1⟩)
          | (go_at_call 38; refine (hpre _).mono ?_; rintro e w' ⟨rfl, rfl⟩)
          | (go_at_call 42; refine (hend _).mono ?_; rintro e w' ⟨rfl, rfl⟩)
          | (go_at_call 33; refine (hby _).mono ?_; rintro e w' ⟨rfl, rfl⟩)
          | (go_at_call 57; first | ((with_reducible refine (hd1 _).mono ?_); rintro e w' ⟨rfl, rfl⟩) | ((with_reducible refine (hd0 _).mono ?_); rintro e w' ⟨rfl, rfl⟩))
          | (go_at_call 104; refine (hc2 _ (HL.out _ hb1)).mono ?_; rintro e w2 ⟨rfl, hb2⟩))
    go_ret2
    exact ⟨rfl, hb1.trans (hb2.mono hb1.size)⟩
  rw [if_neg c120] at he
  by_cases c117 : c = 117
  · rw [if_pos c117] at he
    subst c117 he
    have hc4 : ∀ W, Low N W → Calls Tryz.prog 104 #[.string S, .int .i64 4] W fun e w' => e = .returned (sayV R) ∧ Below W.heap.size W w' := hc4
    obtain ⟨v1, v2, hv⟩ : ∃ v1 v2, sayV R = .tuple #[.string v1, .int .i64 v2] := by cases R <;> exact ⟨_, _, rfl⟩
    rw [hv] at hc4 ⊢
    clear hc2 hch hix hun0 hun hlt c48 c120
    go_enter Tryz.func90, Tryz.ntmps90
    go_wp2_with (first
          | (go_at_call 37; refine hn.mono ?_; rintro e w1 ⟨rfl, hb1⟩)
          | (go_at_call 38; refine (hpre _).mono ?_; rintro e w' ⟨rfl, rfl⟩)
          | (go_at_call 42; refine (hend _).mono ?_; rintro e w' ⟨rfl, rfl⟩)
          | (go_at_call 33; refine (hby _).mono ?_; rintro e w' ⟨rfl, rfl⟩)
          | (go_at_call 57; first | ((with_reducible refine (hd1 _).mono ?_); rintro e w' ⟨rfl, rfl⟩) | ((with_reducible refine (hd0 _).mono ?_); rintro e w' ⟨rfl, rfl⟩))
          | (go_at_call 104; refine (hc4 _ (HL.out _ hb1)).mono ?_; rintro e w2 ⟨rfl, hb2⟩))
    go_ret2
    exact ⟨rfl, hb1.trans (hb2.mono hb1.size)⟩
  rw [if_neg c117] at he
  have i120 : ((c : Int) == 120) = false := beq_eq_false_iff_ne.2 (by omega)
  have i117 : ((c : Int) == 117) = false := beq_eq_false_iff_ne.2 (by omega)
  clear c120 c117 hc2 hc4
  cases lo with
  | some i =>
    have hi := hlt i rfl
    have hi6 : i < 6 := hi
    have hui := hun i hi6
    simp only at he
    subst he
    have hix : ∀ W, Calls Tryz.prog 105 #[.string ⟨#[98, 116, 110, 118, 102, 114]⟩, .int .u8 (b0.toNat : Int)] W fun e w' => e = .returned (.int .i64 (i : Int)) ∧ W = w' := hix
    have hui : ∀ W, Calls Tryz.prog 103 #[.int .i64 (8 + (i : Int))] W fun e w' => e = .returned (.string (bs (U.be (8 + i)))) ∧ Below W.heap.size W w' := by
      have e8 : ((8 + i : Nat) : Int) = 8 + (i : Int) := by omega
      rw [e8] at hui
      exact hui
    simp only [sayV]
    generalize bs (U.be (8 + i)) = RU at hui ⊢
    clear hch hun0 hun hlt hi
    by_cases e48 : c = 48
    · subst e48
      have hdy : dy = true := by cases dy <;> simp_all
      subst hdy
      clear c48
      go_enter Tryz.func90, Tryz.ntmps90
      go_wp2_with (first
            | (go_at_call 37; refine hn.mono ?_; rintro e w1 ⟨rfl, hb1⟩)
            | (go_at_call 38; refine (hpre _).mono ?_; rintro e w' ⟨rfl, rfl⟩)
            | (go_at_call 42; refine (hend _).mono ?_; rintro e w' ⟨rfl, rfl⟩)
            | (go_at_call 33; refine (hby _).mono ?_; rintro e w' ⟨rfl, rfl⟩)
            | (go_at_call 57; first | ((with_reducible refine (hd1 _).mono ?_); rintro e w' ⟨rfl, rfl⟩) | ((with_reducible refine (hd0 _).mono ?_); rintro e w' ⟨rfl, rfl⟩))
            | (go_at_call 105; refine (hix _).mono ?_; rintro e w' ⟨rfl, rfl⟩)
            | (go_at_call 103; refine (hui _).mono ?_; rintro e w2 ⟨rfl, hb2⟩))
      go_ret2
      exact ⟨rfl, hb1.trans (hb2.mono hb1.size)⟩
    · have i48 : ((c : Int) == 48) = false := beq_eq_false_iff_ne.2 (by omega)
      clear c48 e48
      go_enter Tryz.func90, Tryz.ntmps90
      go_wp2_with (first
            | (go_at_call 37; refine hn.mono ?_; rintro e w1 ⟨rfl, hb1⟩)
            | (go_at_call 38; refine (hpre _).mono ?_; rintro e w' ⟨rfl, rfl⟩)
            | (go_at_call 42; refine (hend _).mono ?_; rintro e w' ⟨rfl, rfl⟩)
            | (go_at_call 33; refine (hby _).mono ?_; rintro e w' ⟨rfl, rfl⟩)
            | (go_at_call 57; first | ((with_reducible refine (hd1 _).mono ?_); rintro e w' ⟨rfl, rfl⟩) | ((with_reducible refine (hd0 _).mono ?_); rintro e w' ⟨rfl, rfl⟩))
            | (go_at_call 105; refine (hix _).mono ?_; rintro e w' ⟨rfl, rfl⟩)
            | (go_at_call 103; refine (hui _).mono ?_; rintro e w2 ⟨rfl, hb2⟩))
      go_ret2
      exact ⟨rfl, hb1.trans (hb2.mono hb1.size)⟩
  | none =>
    simp only at he
    subst he
    have hix : ∀ W, Calls Tryz.prog 105 #[.string ⟨#[98, 116, 110, 118, 102, 114]⟩, .int .u8 (b0.toNat : Int)] W fun e w' => e = .returned (.int .i64 (-1)) ∧ W = w' := hix
    simp only [sayV]
    generalize bs ch = RU at hch ⊢
    clear hun0 hun hlt
    by_cases e48 : c = 48
    · subst e48
      have hdy : dy = true := by cases dy <;> simp_all
      subst hdy
      clear c48
      go_enter Tryz.func90, Tryz.ntmps90
      go_wp2_with (first
            | (go_at_call 37; refine hn.mono ?_; rintro e w1 ⟨rfl, hb1⟩)
            | (go_at_call 38; refine (hpre _).mono ?_; rintro e w' ⟨rfl, rfl⟩)
            | (go_at_call 42; refine (hend _).mono ?_; rintro e w' ⟨rfl, rfl⟩)
            | (go_at_call 33; refine (hby _).mono ?_; rintro e w' ⟨rfl, rfl⟩)
            | (go_at_call 57; first | ((with_reducible refine (hd1 _).mono ?_); rintro e w' ⟨rfl, rfl⟩) | ((with_reducible refine (hd0 _).mono ?_); rintro e w' ⟨rfl, rfl⟩))
            | (go_at_call 105; refine (hix _).mono ?_; rintro e w' ⟨rfl, rfl⟩)
            | (go_at_call 91; refine (hch _ (HL.out _ hb1)).mono ?_; rintro e w2 ⟨rfl, hb2⟩))
      go_ret2
      exact ⟨rfl, hb1.trans (hb2.mono hb1.size)⟩
    · have i48 : ((c : Int) == 48) = false := beq_eq_false_iff_ne.2 (by omega)
      clear c48 e48
      go_enter Tryz.func90, Tryz.ntmps90
      go_wp2_with (first
            | (go_at_call 37; refine hn.mono ?_; rintro e w1 ⟨rfl, hb1⟩)
            | (go_at_call 38; refine (hpre _).mono ?_; rintro e w' ⟨rfl, rfl⟩)
            | (go_at_call 42; refine (hend _).mono ?_; rintro e w' ⟨rfl, rfl⟩)
            | (go_at_call 33; refine (hby _).mono ?_; rintro e w' ⟨rfl, rfl⟩)
            | (go_at_call 57; first | ((with_reducible refine (hd1 _).mono ?_); rintro e w' ⟨rfl, rfl⟩) | ((with_reducible refine (hd0 _).mono ?_); rintro e w' ⟨rfl, rfl⟩))
            | (go_at_call 105; refine (hix _).mono ?_; rintro e w' ⟨rfl, rfl⟩)
            | (go_at_call 91; refine (hch _ (HL.out _ hb1)).mono ?_; rintro e w2 ⟨rfl, hb2⟩))
      go_ret2
      exact ⟨rfl, hb1.trans (hb2.mono hb1.size)⟩
end Go.Proofs.YtelphbcdjfdjpaaGreatDoor
namespace Go.Proofs.YtelphbcdjfdjpaaGreatDoor
open Go.RowKit Go.Shelf
set_option linter.all false

theorem dec_succ (l : List UInt8) (h : (U.dec l).2 ≠ 0) : ∃ c n, U.dec l = (c, n + 1) := ⟨(U.dec l).1, (U.dec l).2 - 1, by apply Prod.ext <;> simp only; omega⟩
theorem char8_len (l : List UInt8) (h : (U.dec l).2 ≠ 0) : (X.char8 l).length ≤ 2 * (U.dec l).2 := by
  obtain ⟨c, n, hd⟩ := dec_succ l h
  have := units_len l c n hd
  unfold X.char8
  rw [hd]
  exact this
theorem coded_some {l : List UInt8} {d : Nat} {r : List UInt8 × Nat} (h : X.coded l d = some r) : 1 ≤ r.2 ∧ r.2 ≤ l.length ∧ r.1.length ≤ 2 * r.2 := by
  unfold X.coded at h
  split at h
  · cases h
  · cases hv : X.hexv ((l.drop 1).take d) 0 with
    | none => rw [hv] at h; cases h
    | some u =>
      rw [hv] at h
      simp only [Option.map_some, Option.some.injEq] at h
      subst h
      refine ⟨by simp only; omega, by simp only; omega, ?_⟩
      rw [be_length]; simp only; omega
theorem escaped_some {l : List UInt8} {r : List UInt8 × Nat} (h : X.escaped l = some r) : 1 ≤ r.2 ∧ r.2 ≤ l.length ∧ r.1.length ≤ 2 * r.2 := by
  have hle := U.dec_le l
  unfold X.escaped at h
  split at h
  · cases h
  rename_i h0
  split at h
  · rename_i hp
    simp only [Option.some.injEq] at h; subst h
    have := (List.isPrefixOf_iff_prefix.1 hp).length_le
    refine ⟨by decide, by simpa using this, by simp⟩
  split at h
  · simp only [Option.some.injEq] at h; subst h
    exact ⟨by simp only; omega, hle, by simp⟩
  split at h
  · simp only [Option.some.injEq] at h; subst h
    exact ⟨by simp only; omega, hle, by rw [be_length]; simp only; omega⟩
  split at h
  · cases h
  split at h
  · exact coded_some h
  split at h
  · exact coded_some h
  split at h
  · simp only [Option.some.injEq] at h; subst h
    exact ⟨by simp only; omega, hle, by rw [be_length]; simp only; omega⟩
  · simp only [Option.some.injEq] at h; subst h
    exact ⟨by simp only; omega, hle, char8_len l h0⟩
theorem said_some {l : List UInt8} {r : List UInt8 × Nat} (h : X.said l = some r) : 1 ≤ r.2 ∧ r.2 ≤ l.length ∧ r.1.length ≤ 2 * r.2 := by
  have hle := U.dec_le l
  unfold X.said at h
  split at h
  · cases h
  rename_i h0
  split at h
  · cases he : X.escaped (l.drop (U.dec l).2) with
    | none => rw [he] at h; cases h
    | some s =>
      rw [he] at h
      obtain ⟨h1, h2, h3⟩ := escaped_some he
      rw [List.length_drop] at h2
      simp only [Option.map_some, Option.some.injEq] at h
      subst h
      exact ⟨by simp only; omega, by simp only; omega, by simp only; omega⟩
  · simp only [Option.some.injEq] at h; subst h
    exact ⟨by simp only; omega, hle, char8_len l (by omega)⟩

set_option maxHeartbeats 4000000 in
theorem said_any (N : Nat) (l : List UInt8) (hl : l.length ≤ 65535) (w : World) (h : Low N w) :
    Calls Tryz.prog 77 #[.string (bs l)] w fun e w' => e = .returned (sayV (X.said l)) ∧ Below w.heap.size w w' := by
  have hn := nxt_any N l (by omega) 0 (by omega) w h
  rw [List.drop_zero] at hn
  have hle := U.dec_le l
  have hes := fun W (hW : Low N W) => escaped_any N (l.drop (U.dec l).2) (by rw [List.length_drop]; omega) W hW
  have hesp := @escaped_some (l.drop (U.dec l).2)
  rw [← bs_drop] at hes
  have hch : (U.dec l).2 ≠ 0 → ∀ W, Low N W → _ := fun hd W hW => character_any N l (by omega) hd W hW
  have he : X.said l = if (U.dec l).2 = 0 ∨ (U.dec l).1 = 10 ∨ (U.dec l).1 = 13 then none
    else if (U.dec l).1 = 92 then (X.escaped (l.drop (U.dec l).2)).map fun r => (r.1, (U.dec l).2 + r.2)
    else some (X.char8 l, (U.dec l).2) := rfl
  have hsz := bs_size l
  have hdl : (l.drop (U.dec l).2).length ≤ 65535 := by rw [List.length_drop]; omega
  generalize X.said l = R at he ⊢
  generalize X.escaped (l.drop (U.dec l).2) = r at hes hesp he
  generalize (l.drop (U.dec l).2).length = dl at hesp hdl
  generalize X.char8 l = ch at hch he
  generalize U.dec l = d at hn hle hes hch he
  obtain ⟨c, n⟩ := d
  simp only at hn hle hes hch he
  have HL : Hid (∀ W, Below w.heap.size w W → Low N W) := Lib.hid fun W hW => h.bel hW
  have hnS : n ≤ (bs l).size := by omega
  have hz : (bs l).size ≤ 65535 := by omega
  clear h hsz hl hle
  generalize bs l = S at hn hes hch hnS hz ⊢
  by_cases n0 : n = 0
  · rw [if_pos (.inl n0)] at he
    subst he n0
    have hn : Calls Tryz.prog 37 #[.string S, .int .i64 0] w fun e w' => e = .returned (.tuple #[.int .i64 (c : Int), .int .i64 0, .bool false]) ∧ Below w.heap.size w w' := hn
    clear hes hch
    go_enter Tryz.func77, Tryz.ntmps77
    go_wp2_with (go_at_call 37; refine hn.mono ?_; rintro e w1 ⟨rfl, hb1⟩)
    go_ret2
    exact ⟨rfl, hb1⟩
  have hch := hch n0
  have hdt : decide (n ≠ 0) = true := decide_eq_true n0
  rw [hdt] at hn
  have hn : Calls Tryz.prog 37 #[.string S, .int .i64 0] w fun e w' => e = .returned (.tuple #[.int .i64 (c : Int), .int .i64 (n : Int), .bool true]) ∧ Below w.heap.size w w' := hn
  clear hdt
  by_cases c10 : c = 10
  · rw [if_pos (by omega)] at he
    subst he c10
    clear hes hch
    go_enter Tryz.func77, Tryz.ntmps77
    go_wp2_with (go_at_call 37; refine hn.mono ?_; rintro e w1 ⟨rfl, hb1⟩)
    go_ret2
    exact ⟨rfl, hb1⟩
  by_cases c13 : c = 13
  · rw [if_pos (by omega)] at he
    subst he c13
    clear hes hch
    go_enter Tryz.func77, Tryz.ntmps77
    go_wp2_with (go_at_call 37; refine hn.mono ?_; rintro e w1 ⟨rfl, hb1⟩)
    go_ret2
    exact ⟨rfl, hb1⟩
  rw [if_neg (by omega)] at he
  by_cases c92 : c = 92
  · rw [if_pos c92] at he
    subst c92
    have HE := Lib.hid he
    clear he c10 c13 hch
    cases r with
    | none =>
      have hes : ∀ W, Low N W → Calls Tryz.prog 90 #[.string (S.extract n S.size)] W fun e w' => e = .returned (.tuple #[.string (bs []), .int .i64 0]) ∧ Below W.heap.size W w' := hes
      clear hesp
      go_enter Tryz.func77, Tryz.ntmps77
      go_wp2_with (first
        | (go_at_call 37; refine hn.mono ?_; rintro e w1 ⟨rfl, hb1⟩)
        | (go_at_call 90; refine (hes _ (HL.out _ hb1)).mono ?_; rintro e w2 ⟨rfl, hb2⟩))
      go_ret2
      exact ⟨by rw [HE.out]; rfl, hb1.trans (hb2.mono hb1.size)⟩
    | some s =>
      obtain ⟨s1, s2⟩ := s
      obtain ⟨p1, p2, _⟩ := hesp rfl
      simp only at p1 p2
      have hes : ∀ W, Low N W → Calls Tryz.prog 90 #[.string (S.extract n S.size)] W fun e w' => e = .returned (.tuple #[.string (bs s1), .int .i64 (s2 : Int)]) ∧ Below W.heap.size W w' := hes
      have i0 : ¬ (s2 : Int) = 0 := by omega
      have HE2 : Hid (sayV R = .tuple #[.string (bs s1), .int .i64 ((n : Int) + (s2 : Int))]) := by
        show _ = _
        rw [HE.out]; rfl
      clear hesp HE
      generalize bs s1 = S1 at hes HE2
      go_enter Tryz.func77, Tryz.ntmps77
      go_wp2_with (first
        | (go_at_call 37; refine hn.mono ?_; rintro e w1 ⟨rfl, hb1⟩)
        | (go_at_call 90; refine (hes _ (HL.out _ hb1)).mono ?_; rintro e w2 ⟨rfl, hb2⟩))
      go_ret2
      exact ⟨by rw [HE2.out]; rfl, hb1.trans (hb2.mono hb1.size)⟩
  · rw [if_neg c92] at he
    subst he
    simp only [sayV]
    generalize bs ch = RU at hch ⊢
    have i1 : ((c : Int) == 10) = false := beq_eq_false_iff_ne.2 (by omega)
    have i2 : ((c : Int) == 13) = false := beq_eq_false_iff_ne.2 (by omega)
    have i3 : ((c : Int) == 92) = false := beq_eq_false_iff_ne.2 (by omega)
    clear c10 c13 c92 hes hesp
    go_enter Tryz.func77, Tryz.ntmps77
    go_wp2_with (first
        | (go_at_call 37; refine hn.mono ?_; rintro e w1 ⟨rfl, hb1⟩)
        | (go_at_call 91; refine (hch _ (HL.out _ hb1)).mono ?_; rintro e w2 ⟨rfl, hb2⟩))
    go_ret2
    exact ⟨rfl, hb1.trans (hb2.mono hb1.size)⟩
end Go.Proofs.YtelphbcdjfdjpaaGreatDoor
