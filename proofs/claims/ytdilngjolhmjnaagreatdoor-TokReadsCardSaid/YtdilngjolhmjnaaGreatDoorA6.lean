/- The look for a reference by a number. Conditions: those that each theorem names. What the two looks for a reference tell is what the chapter says a reference means: on lists. No program. Conditions: those that each theorem names. The reader takes a reference; what stands round the reader. Conditions: those that each theorem names. -/
import Derived.Test.YtdilngjolhmjnaaGreatDoorA5
namespace Go.Proofs.YtdilngjolhmjnaaGreatDoor
open Go.RowKit
set_option linter.all false

def numFirst (L : List UInt8) : Nat := if Lib.hasPrefix L [38, 35, 120] then 3 else 2
def numBase (L : List UInt8) : Nat := if Lib.hasPrefix L [38, 35, 120] then 16 else 10
/-- The digits that stand between the head of a number's reference and the next semicolon. -/
def numDigits (L : List UInt8) : List UInt8 := (L.drop (numFirst L)).take ((Lib.indexByte L 59).toNat - numFirst L)
def numEnd (r : Except Bool Nat) (n : Nat) : Nat × Nat := match r with
  | .ok v => if K.allowed v || decide (v = 13) then (v, n) else (0, 0)
  | .error _ => (0, 0)
def numberedOf (L : List UInt8) : Nat × Nat :=
  if Lib.hasPrefix L [38, 35] = false ∨ Lib.indexByte L 59 < (numFirst L : Int) then (0, 0)
  else numEnd (if (numDigits L).length = 0 then .error false else pu (numBase L) (numDigits L) 0) ((Lib.indexByte L 59).toNat + 1)
theorem pu_le (base : Nat) : ∀ (l : List UInt8) (a n : Nat), a ≤ 2147483647 → pu base l a = .ok n → n ≤ 2147483647
  | [], a, n, ha, h => by simp [pu] at h; omega
  | c :: r, a, n, ha, h => by
    unfold pu at h
    split at h
    · cases h
    · split at h
      · cases h
      · exact pu_le base r _ n (by omega) h

theorem indexByte_lt (c : UInt8) : ∀ (l : List UInt8), Lib.indexByte l c < (l.length : Int) ∨ (l = [] ∧ Lib.indexByte l c = -1)
  | [] => .inr ⟨rfl, rfl⟩
  | b :: l => by
    left
    unfold Lib.indexByte
    have ih := indexByte_lt c l
    rw [List.length_cons]
    split
    · omega
    · split
      · omega
      · rcases ih with ih | ⟨rfl, ih⟩
        · omega
        · simp [ih] at *

set_option maxHeartbeats 8000000 in
theorem numbered_any (L : List UInt8) (hlen : L.length ≤ 65536) (w : World) (h : Low w) (hs : 12 ≤ w.heap.size) :
    Calls Tryz.prog 105 #[.string (bs L)] w fun e w' => e = .returned (.tuple #[.int .i32 ((numberedOf L).1 : Int), .int .i64 ((numberedOf L).2 : Int)]) ∧ Below w.heap.size w w' := by
  have hsz := bs_size L
  have hp1 : ∀ W, Calls Tryz.prog 54 #[.string (bs L), .string ⟨#[38, 35, 120]⟩] W fun e w' => e = .returned (.bool (Lib.hasPrefix L [38, 35, 120])) ∧ W = w' := fun W => (Tryz.strings_HasPrefix _ _ W).mono (by rintro e w' ⟨rfl, rfl⟩; exact ⟨rfl, rfl⟩)
  have hp2 : ∀ W, Calls Tryz.prog 54 #[.string (bs L), .string ⟨#[38, 35]⟩] W fun e w' => e = .returned (.bool (Lib.hasPrefix L [38, 35])) ∧ W = w' := fun W => (Tryz.strings_HasPrefix _ _ W).mono (by rintro e w' ⟨rfl, rfl⟩; exact ⟨rfl, rfl⟩)
  have hix : ∀ W, Calls Tryz.prog 118 #[.string (bs L), .int .u8 59] W fun e w' => e = .returned (.int .i64 (Lib.indexByte L 59)) ∧ W = w' := fun W => (Tryz.strings_IndexByte _ _ W).mono (by rintro e w' ⟨rfl, rfl⟩; exact ⟨rfl, rfl⟩)
  have hge := Lib.indexByte_ge L 59
  have hlt := indexByte_lt 59 L
  have hpar := fun (hb : numBase L = 10 ∨ numBase L = 16) => parse_any (numBase L) hb (bs (numDigits L)) (by rw [bs_size]; unfold numDigits; rw [List.length_take, List.length_drop]; omega) w h hs
  have hpl := pu_le (numBase L) (numDigits L) 0
  have hex : ∀ (i : Nat), Lib.indexByte L 59 = (i : Int) → (bs L).extract (numFirst L) i = bs (numDigits L) := by
    intro i hi
    rw [bs_extract]
    unfold numDigits
    rw [hi]
    rfl
  unfold numberedOf
  rw [bs_size, bs_list] at hpar
  generalize hD : numDigits L = D at hpar hpl hex ⊢
  generalize hI : Lib.indexByte L 59 = I at hix hge hlt hex ⊢
  have hI2 : I < (bs L).size ∨ I = -1 := by
    rcases hlt with h1 | ⟨_, h1⟩
    · left; omega
    · right; exact h1
  have hfix : (Lib.hasPrefix L [38, 35, 120] = true ∧ numFirst L = 3 ∧ numBase L = 16) ∨ (Lib.hasPrefix L [38, 35, 120] = false ∧ numFirst L = 2 ∧ numBase L = 10) := by
    unfold numFirst numBase
    cases Lib.hasPrefix L [38, 35, 120]
    · right; exact ⟨rfl, rfl, rfl⟩
    · left; exact ⟨rfl, rfl, rfl⟩
  generalize hq : Lib.hasPrefix L [38, 35] = q at hp2 ⊢
  rcases hfix with ⟨e1, e2, e3⟩ | ⟨e1, e2, e3⟩
  all_goals
    rw [e1] at hp1
    rw [e2] at hex ⊢
    rw [e3] at hpar hpl ⊢
    have hpr := hpar (by decide)
    clear hpar
    (try rw [show ((3 : Nat) : Int) = 3 from rfl])
    (try rw [show ((2 : Nat) : Int) = 2 from rfl])
    generalize bs L = R at hsz hp1 hp2 hix hex hI2
    have hR : R.size ≤ 65536 := by omega
    clear e1 e2 e3 hq hI hD hlt hsz hlen h hs
    cases q
  case inl.false | inr.false =>
    rw [if_pos (Or.inl rfl)]
    clear hpr hpl hex
    go_enter Tryz.func105, Tryz.ntmps105
    go_wp2_with (first
      | (go_at_call 118; refine (hix _).mono ?_; rintro e w' ⟨rfl, rfl⟩)
      | (go_at_call 54; first | ((with_reducible refine (hp1 _).mono ?_); rintro e w' ⟨rfl, rfl⟩) | ((with_reducible refine (hp2 _).mono ?_); rintro e w' ⟨rfl, rfl⟩)))
    go_ret2
    exact ⟨rfl, Below.refl _ _⟩
  case inl.true =>
    by_cases hI3 : I < 3
    · rw [if_pos (Or.inr hI3)]
      clear hpr hpl hex
      go_enter Tryz.func105, Tryz.ntmps105
      go_wp2_with (first
        | (go_at_call 118; refine (hix _).mono ?_; rintro e w' ⟨rfl, rfl⟩)
        | (go_at_call 54; first | ((with_reducible refine (hp1 _).mono ?_); rintro e w' ⟨rfl, rfl⟩) | ((with_reducible refine (hp2 _).mono ?_); rintro e w' ⟨rfl, rfl⟩)))
      go_ret2
      exact ⟨rfl, Below.refl _ _⟩
    · obtain ⟨i, rfl⟩ : ∃ i : Nat, I = (i : Int) := ⟨I.toNat, by omega⟩
      have hi1 : 3 ≤ i := by omega
      have hi2 : i < R.size := by omega
      have he := hex i rfl
      rw [if_neg (by rintro (h | h); cases h; omega), Int.toNat_natCast]
      have hrl : ∀ n, (if D.length = 0 then Except.error false else pu 16 D 0) = .ok n → n ≤ 2147483647 := by
        intro n hn
        split at hn
        · cases hn
        · exact hpl n (by omega) hn
      generalize (if D.length = 0 then Except.error false else pu 16 D 0) = r at hpr hrl ⊢
      have HE := Lib.hid he
      have hge : ¬ (i : Int) < 3 := by omega
      clear hpl hex he hI3 hI2
      cases r with
      | error k =>
        clear hrl
        go_enter Tryz.func105, Tryz.ntmps105
        go_wp2_with (first
        | (go_at_call 118; refine (hix _).mono ?_; rintro e w' ⟨rfl, rfl⟩)
        | (go_at_call 54; first | ((with_reducible refine (hp1 _).mono ?_); rintro e w' ⟨rfl, rfl⟩) | ((with_reducible refine (hp2 _).mono ?_); rintro e w' ⟨rfl, rfl⟩)))
        rw [HE.out]
        refine hpr.mono ?_
        rintro e w1 ⟨⟨v, p, rfl⟩, hb1⟩
        go_wp2
        go_ret2
        exact ⟨rfl, hb1⟩
      | ok n =>
        have hn := hrl n rfl
        have hal := allowed_any n (by omega)
        have hnend : numEnd (.ok n) (i + 1) = if K.allowed n || decide (n = 13) then (n, i + 1) else (0, 0) := rfl
        clear hrl
        cases hka : K.allowed n with
        | true =>
          rw [hka] at hal
          have e : numEnd (.ok n) (i + 1) = (n, i + 1) := by rw [hnend, hka]; rfl
          rw [e]
          clear e hnend hka
          go_enter Tryz.func105, Tryz.ntmps105
          go_wp2_with (first
        | (go_at_call 118; refine (hix _).mono ?_; rintro e w' ⟨rfl, rfl⟩)
        | (go_at_call 54; first | ((with_reducible refine (hp1 _).mono ?_); rintro e w' ⟨rfl, rfl⟩) | ((with_reducible refine (hp2 _).mono ?_); rintro e w' ⟨rfl, rfl⟩)))
          rw [HE.out]
          refine hpr.mono ?_
          rintro e w1 ⟨rfl, hb1⟩
          go_wp2_with (go_at_call 56; refine (hal _).mono ?_; rintro e w' ⟨rfl, rfl⟩)
          go_ret2
          exact ⟨rfl, hb1⟩
        | false =>
          rw [hka] at hal
          by_cases h13 : n = 13
          · subst h13
            have e : numEnd (.ok 13) (i + 1) = (13, i + 1) := by rw [hnend, hka]; rfl
            rw [e]
            clear e hnend hka
            go_enter Tryz.func105, Tryz.ntmps105
            go_wp2_with (first
        | (go_at_call 118; refine (hix _).mono ?_; rintro e w' ⟨rfl, rfl⟩)
        | (go_at_call 54; first | ((with_reducible refine (hp1 _).mono ?_); rintro e w' ⟨rfl, rfl⟩) | ((with_reducible refine (hp2 _).mono ?_); rintro e w' ⟨rfl, rfl⟩)))
            rw [HE.out]
            refine hpr.mono ?_
            rintro e w1 ⟨rfl, hb1⟩
            go_wp2_with (go_at_call 56; refine (hal _).mono ?_; rintro e w' ⟨rfl, rfl⟩)
            go_ret2
            exact ⟨rfl, hb1⟩
          · have e : numEnd (.ok n) (i + 1) = (0, 0) := by rw [hnend, hka]; simp [h13]
            have h13' : ((n : Int) == 13) = false := by simp; omega
            rw [e]
            clear e hnend hka h13
            go_enter Tryz.func105, Tryz.ntmps105
            go_wp2_with (first
        | (go_at_call 118; refine (hix _).mono ?_; rintro e w' ⟨rfl, rfl⟩)
        | (go_at_call 54; first | ((with_reducible refine (hp1 _).mono ?_); rintro e w' ⟨rfl, rfl⟩) | ((with_reducible refine (hp2 _).mono ?_); rintro e w' ⟨rfl, rfl⟩)))
            rw [HE.out]
            refine hpr.mono ?_
            rintro e w1 ⟨rfl, hb1⟩
            go_wp2_with (go_at_call 56; refine (hal _).mono ?_; rintro e w' ⟨rfl, rfl⟩)
            go_ret2
            exact ⟨rfl, hb1⟩
  case inr.true =>
    by_cases hI3 : I < 2
    · rw [if_pos (Or.inr hI3)]
      clear hpr hpl hex
      go_enter Tryz.func105, Tryz.ntmps105
      go_wp2_with (first
        | (go_at_call 118; refine (hix _).mono ?_; rintro e w' ⟨rfl, rfl⟩)
        | (go_at_call 54; first | ((with_reducible refine (hp1 _).mono ?_); rintro e w' ⟨rfl, rfl⟩) | ((with_reducible refine (hp2 _).mono ?_); rintro e w' ⟨rfl, rfl⟩)))
      go_ret2
      exact ⟨rfl, Below.refl _ _⟩
    · obtain ⟨i, rfl⟩ : ∃ i : Nat, I = (i : Int) := ⟨I.toNat, by omega⟩
      have hi1 : 2 ≤ i := by omega
      have hi2 : i < R.size := by omega
      have he := hex i rfl
      rw [if_neg (by rintro (h | h); cases h; omega), Int.toNat_natCast]
      have hrl : ∀ n, (if D.length = 0 then Except.error false else pu 10 D 0) = .ok n → n ≤ 2147483647 := by
        intro n hn
        split at hn
        · cases hn
        · exact hpl n (by omega) hn
      generalize (if D.length = 0 then Except.error false else pu 10 D 0) = r at hpr hrl ⊢
      have HE := Lib.hid he
      have hge : ¬ (i : Int) < 2 := by omega
      clear hpl hex he hI3 hI2
      cases r with
      | error k =>
        clear hrl
        go_enter Tryz.func105, Tryz.ntmps105
        go_wp2_with (first
        | (go_at_call 118; refine (hix _).mono ?_; rintro e w' ⟨rfl, rfl⟩)
        | (go_at_call 54; first | ((with_reducible refine (hp1 _).mono ?_); rintro e w' ⟨rfl, rfl⟩) | ((with_reducible refine (hp2 _).mono ?_); rintro e w' ⟨rfl, rfl⟩)))
        rw [HE.out]
        refine hpr.mono ?_
        rintro e w1 ⟨⟨v, p, rfl⟩, hb1⟩
        go_wp2
        go_ret2
        exact ⟨rfl, hb1⟩
      | ok n =>
        have hn := hrl n rfl
        have hal := allowed_any n (by omega)
        have hnend : numEnd (.ok n) (i + 1) = if K.allowed n || decide (n = 13) then (n, i + 1) else (0, 0) := rfl
        clear hrl
        cases hka : K.allowed n with
        | true =>
          rw [hka] at hal
          have e : numEnd (.ok n) (i + 1) = (n, i + 1) := by rw [hnend, hka]; rfl
          rw [e]
          clear e hnend hka
          go_enter Tryz.func105, Tryz.ntmps105
          go_wp2_with (first
        | (go_at_call 118; refine (hix _).mono ?_; rintro e w' ⟨rfl, rfl⟩)
        | (go_at_call 54; first | ((with_reducible refine (hp1 _).mono ?_); rintro e w' ⟨rfl, rfl⟩) | ((with_reducible refine (hp2 _).mono ?_); rintro e w' ⟨rfl, rfl⟩)))
          rw [HE.out]
          refine hpr.mono ?_
          rintro e w1 ⟨rfl, hb1⟩
          go_wp2_with (go_at_call 56; refine (hal _).mono ?_; rintro e w' ⟨rfl, rfl⟩)
          go_ret2
          exact ⟨rfl, hb1⟩
        | false =>
          rw [hka] at hal
          by_cases h13 : n = 13
          · subst h13
            have e : numEnd (.ok 13) (i + 1) = (13, i + 1) := by rw [hnend, hka]; rfl
            rw [e]
            clear e hnend hka
            go_enter Tryz.func105, Tryz.ntmps105
            go_wp2_with (first
        | (go_at_call 118; refine (hix _).mono ?_; rintro e w' ⟨rfl, rfl⟩)
        | (go_at_call 54; first | ((with_reducible refine (hp1 _).mono ?_); rintro e w' ⟨rfl, rfl⟩) | ((with_reducible refine (hp2 _).mono ?_); rintro e w' ⟨rfl, rfl⟩)))
            rw [HE.out]
            refine hpr.mono ?_
            rintro e w1 ⟨rfl, hb1⟩
            go_wp2_with (go_at_call 56; refine (hal _).mono ?_; rintro e w' ⟨rfl, rfl⟩)
            go_ret2
            exact ⟨rfl, hb1⟩
          · have e : numEnd (.ok n) (i + 1) = (0, 0) := by rw [hnend, hka]; simp [h13]
            have h13' : ((n : Int) == 13) = false := by simp; omega
            rw [e]
            clear e hnend hka h13
            go_enter Tryz.func105, Tryz.ntmps105
            go_wp2_with (first
        | (go_at_call 118; refine (hix _).mono ?_; rintro e w' ⟨rfl, rfl⟩)
        | (go_at_call 54; first | ((with_reducible refine (hp1 _).mono ?_); rintro e w' ⟨rfl, rfl⟩) | ((with_reducible refine (hp2 _).mono ?_); rintro e w' ⟨rfl, rfl⟩)))
            rw [HE.out]
            refine hpr.mono ?_
            rintro e w1 ⟨rfl, hb1⟩
            go_wp2_with (go_at_call 56; refine (hal _).mono ?_; rintro e w' ⟨rfl, rfl⟩)
            go_ret2
            exact ⟨rfl, hb1⟩
end Go.Proofs.YtdilngjolhmjnaaGreatDoor
namespace Go.Proofs.YtdilngjolhmjnaaGreatDoor
open Go.RowKit
set_option linter.all false

theorem digit_high (base c : Nat) (h : 128 ≤ c) : K.digit base c = none := by
  unfold K.digit
  rw [if_neg (by omega), if_neg (by omega), if_neg (by omega)]
theorem numF_ge (base : Nat) (hb : 1 ≤ base) : ∀ (l : List Nat) (a v : Nat), K.numF base l a = some v → a ≤ v
  | [], a, v, h => by simp [K.numF] at h; omega
  | c :: r, a, v, h => by
    unfold K.numF at h
    cases hd : K.digit base c with
    | none => rw [hd] at h; cases h
    | some d =>
      rw [hd] at h
      have := numF_ge base hb r _ v h
      have h2 : a * 1 ≤ a * base := Nat.mul_le_mul_left _ hb
      omega
def PuNum (base : Nat) (ds : List Nat) (a : Nat) : Except Bool Nat → Prop
  | .ok v => K.numF base ds a = some v ∧ Small ds
  | .error _ => ∀ v, K.numF base ds a = some v → 2147483647 < v
theorem pu_num (base : Nat) (hb : 1 ≤ base) : ∀ (ds : List Nat) (a : Nat), K.Sc ds → PuNum base ds a (pu base (U.n8 ds) a)
  | [], a, _ => ⟨rfl, fun c hc => by cases hc⟩
  | c :: ds, a, hs => by
    rw [U.n8_cons]
    by_cases hc : c < 128
    · rw [K.enc_low hc]
      show PuNum base (c :: ds) a (pu base (UInt8.ofNat c :: U.n8 ds) a)
      unfold pu
      rw [K.toNat_ofNat (by omega)]
      cases hd : K.digit base c with
      | none =>
        intro v hv
        unfold K.numF at hv
        rw [hd] at hv
        cases hv
      | some d =>
        simp only
        split
        · rename_i hov
          intro v hv
          unfold K.numF at hv
          rw [hd] at hv
          have := numF_ge base hb ds _ v hv
          omega
        · have ih := pu_num base hb ds (a * base + d) hs.tail
          cases hp : pu base (U.n8 ds) (a * base + d) with
          | ok v =>
            rw [hp] at ih
            refine ⟨?_, ?_⟩
            · unfold K.numF; rw [hd]; exact ih.1
            · intro x hx
              rcases List.mem_cons.1 hx with rfl | hx
              · exact hc
              · exact ih.2 x hx
          | error k =>
            rw [hp] at ih
            intro v hv
            unfold K.numF at hv
            rw [hd] at hv
            exact ih v hv
    · obtain ⟨b0, t, e, hb0, _⟩ := K.enc_high (Nat.le_of_not_lt hc) hs.head
      rw [e]
      show PuNum base (c :: ds) a (pu base (b0 :: (t ++ U.n8 ds)) a)
      unfold pu
      rw [digit_high base _ (by omega)]
      intro v hv
      unfold K.numF at hv
      rw [digit_high base c (by omega)] at hv
      cases hv

theorem indexByte_skip (c : UInt8) (r : List UInt8) : ∀ (t : List UInt8), (∀ x ∈ t, x ≠ c) → Lib.indexByte (t ++ r) c = if Lib.indexByte r c = -1 then -1 else Lib.indexByte r c + t.length
  | [], _ => by simp
  | x :: t, h => by
    have ih := indexByte_skip c r t (fun y hy => h y (List.mem_cons_of_mem _ hy))
    have hx : (x == c) = false := by simpa using h x List.mem_cons_self
    have hge := Lib.indexByte_ge r c
    show (if x == c then 0 else if Lib.indexByte (t ++ r) c == -1 then -1 else Lib.indexByte (t ++ r) c + 1) = _
    rw [hx, ih]
    by_cases hr : Lib.indexByte r c = -1
    · simp [hr]
    · have h1 : ¬ (Lib.indexByte r c + (t.length : Int) = -1) := by omega
      simp [hr, h1]
      omega
abbrev notSemi (l : List Nat) : List Nat := l.takeWhile (fun c => c != 59)
theorem index_semi : ∀ (l : List Nat), K.Sc l → Lib.indexByte (U.n8 l) 59 = if (notSemi l).length = l.length then -1 else ((U.n8 (notSemi l)).length : Int)
  | [], _ => rfl
  | c :: l, hs => by
    have ih := index_semi l hs.tail
    by_cases hc : c = 59
    · subst hc
      have e : notSemi (59 :: l) = [] := rfl
      rw [e, U.n8_cons, K.enc_low (by decide)]
      rfl
    · have e : notSemi (c :: l) = c :: notSemi l := by
        show (c :: l).takeWhile _ = _
        rw [List.takeWhile_cons, if_pos (by simpa using hc)]
      have hx : ∀ x ∈ U.enc c, x ≠ 59 := by
        intro x hx
        by_cases hc2 : c < 128
        · rw [K.enc_low hc2] at hx
          simp only [List.mem_cons, List.not_mem_nil, or_false] at hx
          subst hx
          intro h
          have := congrArg UInt8.toNat h
          rw [K.toNat_ofNat (by omega)] at this
          exact hc this
        · have := K.enc_high_all (Nat.le_of_not_lt hc2) hs.head x hx
          intro h
          subst h
          exact absurd this (by decide)
      rw [U.n8_cons, indexByte_skip _ _ _ hx, ih, e, List.length_cons, List.length_cons, U.n8_cons, List.length_append]
      by_cases h : (notSemi l).length = l.length
      · simp [h]
      · have h1 : ¬ ((U.n8 (notSemi l)).length : Int) = -1 := by omega
        rw [if_neg h, if_neg h1, if_neg (by omega)]
        omega
theorem semi_split : ∀ (l : List Nat), (notSemi l).length ≠ l.length → ∃ rest, l = notSemi l ++ 59 :: rest
  | [], h => absurd rfl h
  | c :: l, h => by
    by_cases hc : c = 59
    · subst hc; exact ⟨l, rfl⟩
    · have e : notSemi (c :: l) = c :: notSemi l := by
        show (c :: l).takeWhile _ = _
        rw [List.takeWhile_cons, if_pos (by simpa using hc)]
      rw [e] at h ⊢
      obtain ⟨rest, hr⟩ := semi_split l (by simpa using h)
      exact ⟨rest, by rw [List.cons_append, ← hr]⟩

/-- What the reader takes for a reference. -/
def lookOf (s : K.St) : Nat × Nat := if (namedOf s).2 = 0 then numberedOf (U.n8 s.1) else namedOf s
theorem n8_small_take {l : List Nat} {k : Nat} (h : Small (l.take k)) (hk : k ≤ l.length) : (U.n8 (l.take k)).length = k := by
  rw [K.n8_length_small _ h, List.length_take]; omega
/-- A name that stands here is the body of a reference. -/
theorem named_body {r : List Nat} {p : K.Pl} (q : List Nat × Nat) (hq : q ∈ ent) (h : K.sees q.1 (38 :: r, p) = true) : K.refOf r = some (q.2, q.1.length) ∧ q.1.length ≤ r.length + 1 := by
  obtain ⟨rest, hr⟩ := List.isPrefixOf_iff_prefix.1 h
  simp only [ent, List.mem_cons, List.not_mem_nil, or_false] at hq
  rcases hq with rfl | rfl | rfl | rfl | rfl
  all_goals
    simp only [List.cons_append, List.nil_append, List.cons.injEq, true_and] at hr
    subst hr
    refine ⟨?_, by simp⟩
    simp [K.refOf, K.meant, List.takeWhile]
theorem named_cases (s : K.St) : (∃ q ∈ ent, K.sees q.1 s = true ∧ namedOf s = (q.2, q.1.length)) ∨ (namedOf s = (0, 0) ∧ ∀ q ∈ ent, K.sees q.1 s = false) := by
  by_cases h : ∃ q ∈ ent, K.sees q.1 s = true
  · obtain ⟨q, hq, hs⟩ := h
    exact .inl ⟨q, hq, hs, named_one hq hs⟩
  · have h2 : ∀ q ∈ ent, K.sees q.1 s = false := by
      intro q hq
      cases hs : K.sees q.1 s with
      | false => rfl
      | true => exact absurd ⟨q, hq, hs⟩ h
    exact .inr ⟨named_none h2, h2⟩
theorem meant_names {r rest : List Nat} {p : K.Pl} (hr : r = notSemi r ++ 59 :: rest) (h : ∀ q ∈ ent, K.sees q.1 (38 :: r, p) = false) :
    K.meant (notSemi r) = match notSemi r with
      | 35 :: ds => K.numOf ds
      | _ => none := by
  generalize notSemi r = b at hr ⊢
  subst hr
  have hs : ∀ q ∈ ent, ∀ body : List Nat, q.1 = 38 :: (body ++ [59]) → b ≠ body := by
    rintro q hq body e rfl
    have := h q hq
    unfold K.sees at this
    rw [e, List.isPrefixOf_iff_prefix.2 ⟨rest, by simp⟩] at this
    cases this
  unfold K.meant
  rw [if_neg (hs _ (by simp [ent] : ([38, 108, 116, 59], 60) ∈ ent) [108, 116] rfl), if_neg (hs _ (by simp [ent] : ([38, 103, 116, 59], 62) ∈ ent) [103, 116] rfl), if_neg (hs _ (by simp [ent] : ([38, 97, 109, 112, 59], 38) ∈ ent) [97, 109, 112] rfl),
    if_neg (hs _ (by simp [ent] : ([38, 113, 117, 111, 116, 59], 34) ∈ ent) [113, 117, 111, 116] rfl), if_neg (hs _ (by simp [ent] : ([38, 97, 112, 111, 115, 59], 39) ∈ ent) [97, 112, 111, 115] rfl)]
  cases b with
  | nil => rfl
  | cons c b =>
    by_cases hc : c = 35
    · subst hc; rfl
    · simp only [List.cons.injEq, hc, false_and, imp_false, not_false_eq_true, implies_true]

theorem pre2 (l : List Nat) (hs : K.Sc l) (t : List Nat) (ht : Small t) : Lib.hasPrefix (U.n8 l) (K.b8 t) = t.isPrefixOf l := K.pre_n8 t l ht hs
theorem sc_of_append {a b : List Nat} (h : K.Sc (a ++ b)) : K.Sc a ∧ K.Sc b := ⟨fun x hx => h x (List.mem_append_left _ hx), fun x hx => h x (List.mem_append_right _ hx)⟩
theorem num_end {base : Nat} (hb : 1 ≤ base) {ds : List Nat} (hs : K.Sc ds) (n : Nat) :
    (∃ v, K.numIn base ds = some v ∧ numEnd (if (U.n8 ds).length = 0 then .error false else pu base (U.n8 ds) 0) n = (v, n) ∧ Small ds) ∨
    (K.numIn base ds = none ∧ numEnd (if (U.n8 ds).length = 0 then .error false else pu base (U.n8 ds) 0) n = (0, 0)) := by
  by_cases h0 : ds = []
  · subst h0
    right
    exact ⟨rfl, rfl⟩
  · have h1 : ¬ (U.n8 ds).length = 0 := fun h => h0 (K.n8_eq_nil.1 (List.eq_nil_of_length_eq_zero h))
    rw [if_neg h1]
    have hp := pu_num base hb ds 0 hs
    unfold K.numIn
    rw [if_neg h0]
    cases hr : pu base (U.n8 ds) 0 with
    | ok v =>
      rw [hr] at hp
      obtain ⟨hv, hsm⟩ := hp
      rw [hv]
      simp only [numEnd]
      by_cases ha : (K.allowed v || decide (v = 13)) = true
      · left; exact ⟨v, by rw [if_pos ha], by rw [if_pos ha], hsm⟩
      · right; exact ⟨by rw [if_neg ha], by rw [if_neg ha]⟩
    | error k =>
      rw [hr] at hp
      right
      refine ⟨?_, rfl⟩
      cases hn : K.numF base ds 0 with
      | none => rfl
      | some v =>
        have hv := hp v hn
        have ha : (K.allowed v || decide (v = 13)) = false := by
          unfold K.allowed
          rw [if_neg (by omega)]
          simp
          omega
        simp only
        rw [if_neg (by rw [ha]; decide)]

/-- What the reader takes for a reference is what the chapter says that it is. -/
theorem look_ref (r : List Nat) (p : K.Pl) (hs : K.Sc (38 :: r)) :
    ((lookOf (38 :: r, p)).2 = 0 ∧ K.refOf r = none) ∨
    (∃ k, (lookOf (38 :: r, p)).2 ≠ 0 ∧ K.refOf r = some ((lookOf (38 :: r, p)).1, k) ∧ (U.n8 ((38 :: r).take k)).length = (lookOf (38 :: r, p)).2) := by
  rcases named_cases (38 :: r, p) with ⟨q, hq, hsee, hn⟩ | ⟨hn, hno⟩
  · right
    obtain ⟨h1, h2⟩ := named_body q hq hsee
    have hl : lookOf (38 :: r, p) = (q.2, q.1.length) := by
      have hq0 : q.1.length ≠ 0 := by
        simp only [ent, List.mem_cons, List.not_mem_nil, or_false] at hq
        rcases hq with rfl | rfl | rfl | rfl | rfl <;> decide
      unfold lookOf
      rw [hn, if_neg hq0]
    rw [hl]
    have htk : (38 :: r).take q.1.length = q.1 := (List.prefix_iff_eq_take.1 (List.isPrefixOf_iff_prefix.1 hsee)).symm
    refine ⟨q.1.length, ?_, h1, ?_⟩
    · simp only [ent, List.mem_cons, List.not_mem_nil, or_false] at hq
      rcases hq with rfl | rfl | rfl | rfl | rfl <;> decide
    · rw [htk, K.n8_length_small _ (ent_small hq)]
  · have hl : lookOf (38 :: r, p) = numberedOf (U.n8 (38 :: r)) := by unfold lookOf; rw [hn, if_pos rfl]
    rw [hl]
    have hix := index_semi (38 :: r) hs
    have hns : notSemi (38 :: r) = 38 :: notSemi r := rfl
    rw [hns, List.length_cons, List.length_cons] at hix
    by_cases hsemi : (notSemi r).length = r.length
    · left
      rw [if_pos (by omega)] at hix
      refine ⟨?_, ?_⟩
      · unfold numberedOf numFirst
        rw [hix, if_pos (.inr (by split <;> decide))]
      · unfold K.refOf
        rw [if_pos hsemi]
    · rw [if_neg (by omega)] at hix
      obtain ⟨rest, hr⟩ := semi_split r hsemi
      have hm := meant_names hr hno
      have href : K.refOf r = match K.meant (notSemi r) with
        | none => none
        | some c => some (c, (notSemi r).length + 2) := by
        unfold K.refOf
        rw [if_neg hsemi]
        show (match K.meant (notSemi r) with
          | none => none
          | some c => some (c, (notSemi r).length + 2)) = _
        cases K.meant (notSemi r) <;> rfl
      rw [href, hm]
      clear hm href hno hn hl hns hsemi
      generalize notSemi r = b at hr hix ⊢
      subst hr
      cases b with
      | nil =>
        left
        refine ⟨?_, rfl⟩
        have h2 : Lib.hasPrefix (U.n8 (38 :: ([] ++ 59 :: rest))) [38, 35] = false := pre2 _ hs [38, 35] (by unfold Small; decide)
        unfold numberedOf
        rw [if_pos (.inl h2)]
      | cons c ds =>
        by_cases hc : c = 35
        · subst hc
          have h2 : Lib.hasPrefix (U.n8 (38 :: (35 :: ds ++ 59 :: rest))) [38, 35] = true := by
            refine (pre2 _ hs [38, 35] (by unfold Small; decide)).trans ?_
            simp
          have hsc : K.Sc ds := fun x hx => hs x (by simp [hx])
          by_cases hx : ∃ d2, ds = 120 :: d2
          · obtain ⟨d2, rfl⟩ := hx
            have h3 : Lib.hasPrefix (U.n8 (38 :: (35 :: 120 :: d2 ++ 59 :: rest))) [38, 35, 120] = true := by
              refine (pre2 _ hs [38, 35, 120] (by unfold Small; decide)).trans ?_
              simp
            have hf : numFirst (U.n8 (38 :: (35 :: 120 :: d2 ++ 59 :: rest))) = 3 := by unfold numFirst; rw [if_pos h3]
            have hb : numBase (U.n8 (38 :: (35 :: 120 :: d2 ++ 59 :: rest))) = 16 := by unfold numBase; rw [if_pos h3]
            have hl : (U.n8 (38 :: 35 :: 120 :: d2)).length = 3 + (U.n8 d2).length := by
              rw [U.n8_cons, U.n8_cons, U.n8_cons, K.enc_low (by decide), K.enc_low (by decide), K.enc_low (by decide)]
              simp
              omega
            rw [hl] at hix
            have hd : numDigits (U.n8 (38 :: (35 :: 120 :: d2 ++ 59 :: rest))) = U.n8 d2 := by
              unfold numDigits
              rw [hf, hix]
              have e : U.n8 (38 :: (35 :: 120 :: d2 ++ 59 :: rest)) = 38 :: 35 :: 120 :: (U.n8 d2 ++ U.n8 (59 :: rest)) := by
                rw [List.cons_append, List.cons_append, U.n8_cons, U.n8_cons, U.n8_cons, U.n8_append, K.enc_low (by decide), K.enc_low (by decide), K.enc_low (by decide)]
                rfl
              rw [e, show ((((3 + (U.n8 d2).length : Nat) : Int)).toNat - 3) = (U.n8 d2).length by omega]
              exact List.take_left' rfl
            have hnum : numberedOf (U.n8 (38 :: (35 :: 120 :: d2 ++ 59 :: rest))) = numEnd (if (U.n8 d2).length = 0 then .error false else pu 16 (U.n8 d2) 0) ((U.n8 d2).length + 4) := by
              unfold numberedOf
              rw [hf, hb, hd, hix, h2, if_neg (by rintro (h | h); cases h; omega), show (((3 + (U.n8 d2).length : Nat) : Int)).toNat + 1 = (U.n8 d2).length + 4 by omega]
            rw [hnum]
            show _ ∨ (∃ k, _ ∧ (match K.numIn 16 d2 with | none => none | some c => some (c, (35 :: 120 :: d2).length + 2)) = _ ∧ _)
            rcases num_end (base := 16) (by decide) (fun x hx => hsc x (List.mem_cons_of_mem _ hx)) ((U.n8 d2).length + 4) (ds := d2) with ⟨v, hv, he, hsm⟩ | ⟨hv, he⟩
            · right
              rw [he, hv]
              refine ⟨_, by simp, rfl, ?_⟩
              have ht : (38 :: (35 :: 120 :: d2 ++ 59 :: rest)).take ((35 :: 120 :: d2).length + 2) = 38 :: 35 :: 120 :: (d2 ++ [59]) := by
                simp [List.take_append]
                exact List.take_of_length_le (by omega)
              rw [ht, K.n8_length_small _ (by intro x hx; simp at hx; rcases hx with rfl | rfl | rfl | hx | rfl <;> first | decide | exact hsm x hx), K.n8_length_small _ hsm]
              simp
            · left
              rw [he]
              refine ⟨rfl, ?_⟩
              show (match K.numIn 16 d2 with | none => none | some c => some (c, (35 :: 120 :: d2).length + 2)) = _
              rw [hv]
          · have hnx : ∀ d2, ds ≠ 120 :: d2 := fun d2 e => hx ⟨d2, e⟩
            have hof : K.numOf ds = K.numIn 10 ds := by
              cases ds with
              | nil => rfl
              | cons x d2 =>
                have hx1 : x ≠ 120 := fun e => hnx d2 (by rw [e])
                unfold K.numOf
                split
                · rename_i h; exact absurd (List.cons.inj h).1 hx1
                · rfl
            have h3 : Lib.hasPrefix (U.n8 (38 :: (35 :: ds ++ 59 :: rest))) [38, 35, 120] = false := by
              refine (pre2 _ hs [38, 35, 120] (by unfold Small; decide)).trans ?_
              cases ds with
              | nil => simp [List.isPrefixOf]
              | cons x d2 =>
                have hx1 : x ≠ 120 := fun e => hnx d2 (by rw [e])
                simp [List.isPrefixOf]
                exact fun h => hx1 h.symm
            have hf : numFirst (U.n8 (38 :: (35 :: ds ++ 59 :: rest))) = 2 := by unfold numFirst; rw [if_neg (by rw [h3]; decide)]
            have hb : numBase (U.n8 (38 :: (35 :: ds ++ 59 :: rest))) = 10 := by unfold numBase; rw [if_neg (by rw [h3]; decide)]
            have hl : (U.n8 (38 :: 35 :: ds)).length = 2 + (U.n8 ds).length := by
              rw [U.n8_cons, U.n8_cons, K.enc_low (by decide), K.enc_low (by decide)]
              simp
              omega
            rw [hl] at hix
            have hd : numDigits (U.n8 (38 :: (35 :: ds ++ 59 :: rest))) = U.n8 ds := by
              unfold numDigits
              rw [hf, hix]
              have e : U.n8 (38 :: (35 :: ds ++ 59 :: rest)) = 38 :: 35 :: (U.n8 ds ++ U.n8 (59 :: rest)) := by
                rw [List.cons_append, U.n8_cons, U.n8_cons, U.n8_append, K.enc_low (by decide), K.enc_low (by decide)]
                rfl
              rw [e, show ((((2 + (U.n8 ds).length : Nat) : Int)).toNat - 2) = (U.n8 ds).length by omega]
              exact List.take_left' rfl
            have hnum : numberedOf (U.n8 (38 :: (35 :: ds ++ 59 :: rest))) = numEnd (if (U.n8 ds).length = 0 then .error false else pu 10 (U.n8 ds) 0) ((U.n8 ds).length + 3) := by
              unfold numberedOf
              rw [hf, hb, hd, hix, h2, if_neg (by rintro (h | h); cases h; omega), show (((2 + (U.n8 ds).length : Nat) : Int)).toNat + 1 = (U.n8 ds).length + 3 by omega]
            rw [hnum]
            show _ ∨ (∃ k, _ ∧ (match K.numOf ds with | none => none | some c => some (c, (35 :: ds).length + 2)) = _ ∧ _)
            rcases num_end (base := 10) (by decide) hsc ((U.n8 ds).length + 3) with ⟨v, hv, he, hsm⟩ | ⟨hv, he⟩
            · right
              rw [he, hof, hv]
              refine ⟨_, by simp, rfl, ?_⟩
              have ht : (38 :: (35 :: ds ++ 59 :: rest)).take ((35 :: ds).length + 2) = 38 :: 35 :: (ds ++ [59]) := by
                simp [List.take_append]
                exact List.take_of_length_le (by omega)
              rw [ht, K.n8_length_small _ (by intro x hx; simp at hx; rcases hx with rfl | rfl | hx | rfl <;> first | decide | exact hsm x hx), K.n8_length_small _ hsm]
              simp
            · left
              rw [he]
              refine ⟨rfl, ?_⟩
              show (match K.numOf ds with | none => none | some c => some (c, (35 :: ds).length + 2)) = _
              rw [hof, hv]
        · left
          refine ⟨?_, ?_⟩
          · have h2 : Lib.hasPrefix (U.n8 (38 :: (c :: ds ++ 59 :: rest))) [38, 35] = false := by
              refine (pre2 _ hs [38, 35] (by unfold Small; decide)).trans ?_
              simp [List.isPrefixOf]
              exact fun h => hc h.symm
            unfold numberedOf
            rw [if_pos (.inl h2)]
          · simp only [List.cons.injEq, hc, false_and, imp_false, not_false_eq_true, implies_true]
end Go.Proofs.YtdilngjolhmjnaaGreatDoor
namespace Go.Proofs.YtdilngjolhmjnaaGreatDoor
open Go.RowKit
set_option linter.all false

theorem NamesAt.keep {m : Nat} {w w' : World} (h : NamesAt m w) (e : w'.heap[m]? = w.heap[m]?) : NamesAt m w' := by
  obtain ⟨es, clock, hb, r⟩ := h
  exact ⟨es, clock, e.trans hb, r⟩
/-- What stands round the reader in block b: the five names in block m, the library's variables. -/
structure Env (b m : Nat) (x : X6) (w : World) : Prop where
  names : x.1 = .map (some m)
  lies : NamesAt m w
  low : Low w
  hb : 12 ≤ b
  hm : m ≠ b
theorem Env.lt {b m : Nat} {x : X6} {w : World} (h : Env b m x w) : m < w.heap.size := World.ownsMap.lt h.lies
theorem Env.bar {b m : Nat} {x : X6} {w w' : World} (h : Env b m x w) (k : Bar b w w') (hs : b < w.heap.size) : Env b m x w' :=
  ⟨h.names, h.lies.keep (k.block m h.lt h.hm), h.low.bar k h.hb (by have := h.hb; omega), h.hb, h.hm⟩
theorem Rd.lt {b : Nat} {s : K.St} {x : X6} {w : World} (h : Rd b s x w) : b < w.heap.size := lt_of_heap h.2
abbrev runeRet : Nat → Value := fun c => .int .i32 (c : Int)
theorem rd_below {b : Nat} {s : K.St} {x : X6} {w w' : World} {B : Nat} (h : Rd b s x w) (k : Below B w w') (hB : b < B) : Rd b s x w' := ⟨h.1, (k.block b hB).trans h.2⟩

set_option maxHeartbeats 4000000 in
theorem reference_any (b m : Nat) (r : List Nat) (p : K.Pl) (x : X6) (w : World) (h : Rd b (38 :: r, p) x w) (he : Env b m x w) :
    Calls Tryz.prog 94 #[.pointer (some ⟨b, 0, none⟩)] w (Step b x w runeRet (K.reference (38 :: r, p))) := by
  have hnam := named_any b m (38 :: r, p) x w h he.names he.lies
  have hlt := h.lt
  have hb12 := he.hb
  have hnum : ∀ W, Below w.heap.size w W → Calls Tryz.prog 105 #[.string (bs (U.n8 (38 :: r)))] W fun e w' => e = .returned (.tuple #[.int .i32 ((numberedOf (U.n8 (38 :: r))).1 : Int), .int .i64 ((numberedOf (U.n8 (38 :: r))).2 : Int)]) ∧ Below W.heap.size W w' :=
    fun W hW => numbered_any _ h.1.len W (he.low.below hW (by omega)) (by have := hW.size; omega)
  have hlook := look_ref r p h.1.sc
  have hdef : lookOf (38 :: r, p) = if (namedOf (38 :: r, p)).2 = 0 then numberedOf (U.n8 (38 :: r)) else namedOf (38 :: r, p) := rfl
  have href : K.reference (38 :: r, p) = match K.refOf r with
    | some (c, n) => .ok (c, K.skip (38 :: r, p) n)
    | none => .error (22, p) := rfl
  have hcells : ∀ W, Below w.heap.size w W → W.cell? ⟨b, 0, none⟩ = some (.string (bs (U.n8 (38 :: r)))) ∧ W.cell? ⟨b, 1, none⟩ = some (.int .i64 (p.1 : Int)) ∧ W.cell? ⟨b, 2, none⟩ = some (.int .i64 (p.2 : Int)) :=
    fun W hW => (h.below hW).cells
  have htake : ∀ W k, Below w.heap.size w W → Calls Tryz.prog 61 #[.pointer (some ⟨b, 0, none⟩), .int .i64 ((U.n8 ((38 :: r).take k)).length : Int)] W (Took b (38 :: r, p) x k W) :=
    fun W k hW => take_any k b (38 :: r, p) x W (h.below hW) _ rfl
  rw [href]
  have hlen := h.1.len
  have hnle : (lookOf (38 :: r, p)).2 ≤ 65536 := by
    rcases hlook with ⟨h1, _⟩ | ⟨k, h1, h2, h3⟩
    · omega
    · have := n8_take_le (38 :: r) k
      simp only at hlen
      omega
  generalize lookOf (38 :: r, p) = lk at hlook hdef hnle
  have HC := Lib.hid hcells
  have HT := Lib.hid htake
  have HN := Lib.hid hnum
  have HL := Lib.hid hlook
  clear hcells htake hnum hlook href h he hlen
  obtain ⟨⟨nc, nn⟩, hnm⟩ : ∃ q, namedOf (38 :: r, p) = q := ⟨_, rfl⟩
  rw [hnm] at hnam hdef
  clear hnm
  by_cases h0 : nn = 0
  · subst h0
    rw [if_pos rfl] at hdef
    rw [← hdef] at HN
    obtain ⟨lc, ln⟩ := lk
    clear hdef
    rcases HL.out with ⟨h1, h2⟩ | ⟨k, h1, h2, h3⟩
    · have h1 : ln = 0 := h1
      subst h1
      rw [h2]
      clear h2
      go_enter Tryz.func94, Tryz.ntmps94
      go_wp2_with (first
        | (go_at_call 104; refine hnam.mono ?_; rintro e w1 ⟨rfl, hb1⟩; obtain ⟨d0, _, _⟩ := HC.out _ hb1; have hn1 := HN.out _ hb1; have HB1 := Lib.hid hb1; clear hb1)
        | (go_at_call 105; refine hn1.mono ?_; rintro e w2 ⟨rfl, hb2⟩; have HB2 := Lib.hid (HB1.out.trans (hb2.mono HB1.out.size)); clear hb2; obtain ⟨f0, f1, f2⟩ := HC.out _ HB2.out)
        | (go_at_call 17; refine (fail_lit _ 22 rfl p.1 p.2 _).mono ?_; rintro e w' ⟨⟨fb, rfl, hfc⟩, hfb⟩))
      exact ⟨rfl, ⟨_, rfl, hfc⟩, (Below.bar HB2.out).bel hfb⟩
    · have hk3 : (U.n8 ((38 :: r).take k)).length = ln := h3
      have hln : ((ln : Int) == 0) = false := by have : ln ≠ 0 := h1; simp; omega
      rw [h2]
      clear h1 h2 h3
      go_enter Tryz.func94, Tryz.ntmps94
      go_wp2_with (first
        | (go_at_call 104; refine hnam.mono ?_; rintro e w1 ⟨rfl, hb1⟩; obtain ⟨d0, _, _⟩ := HC.out _ hb1; have hn1 := HN.out _ hb1; have HB1 := Lib.hid hb1; clear hb1)
        | (go_at_call 105; refine hn1.mono ?_; rintro e w2 ⟨rfl, hb2⟩; have HB2 := Lib.hid (HB1.out.trans (hb2.mono HB1.out.size)); clear hb2; obtain ⟨f0, f1, f2⟩ := HC.out _ HB2.out; have htk := HT.out _ k HB2.out; rw [hk3] at htk)
        | (go_at_call 61; refine htk.mono ?_; rintro e w3 ⟨rfl, hR3, hB3⟩; have HR3 := Lib.hid hR3; clear hR3))
      go_ret
      exact ⟨rfl, HR3.out, (Below.bar HB2.out).trans hB3⟩
  · rw [if_neg h0] at hdef
    subst hdef
    rcases HL.out with ⟨h1, h2⟩ | ⟨k, h1, h2, h3⟩
    · exact absurd h1 h0
    · have hk3 : (U.n8 ((38 :: r).take k)).length = nn := h3
      have hln : ((nn : Int) == 0) = false := by simp; omega
      rw [h2]
      clear h1 h2 h3 h0
      go_enter Tryz.func94, Tryz.ntmps94
      go_wp2_with (first
        | (go_at_call 104; refine hnam.mono ?_; rintro e w1 ⟨rfl, hb1⟩; have htk := HT.out _ k hb1; rw [hk3] at htk; have HB1 := Lib.hid hb1; clear hb1)
        | (go_at_call 61; refine htk.mono ?_; rintro e w3 ⟨rfl, hR3, hB3⟩; have HR3 := Lib.hid hR3; clear hR3))
      go_ret
      exact ⟨rfl, HR3.out, (Below.bar HB1.out).trans hB3⟩
end Go.Proofs.YtdilngjolhmjnaaGreatDoor
