/- Plain facts on UTF-8 and on units of 16 bits: lists of bytes, no program. What a character at a list's head is, its bytes, its units; that they go there and back. No conditions but those that each fact names. Bytes as a Go string; what keeps all blocks but one; the small looks of package eslex at a byte and at a character; how many bytes are such. Conditions: those that each theorem names. -/
import Derived.Lib.DecodeN
import Derived.Lib.Index
import Derived.Test.YtmhoebbdapjpeaaDoorChecked
import Derived.WalkKit
import Derived.WalkLawsBesides
import Derived.Outline
import Derived.LoopTactic
import Derived.Lib.Builder
import Derived.Lib.Hide
import Derived.Lib.Strings
namespace Go.Proofs.YtmhoebbdapjpeaaDoor
namespace U
open Go.Lib (decodeN)

def g (l : List UInt8) (k : Nat) : Nat := (l.getD k 0).toNat
def decL (l : List UInt8) : Nat × Nat := decodeN l.length (g l 0) (g l 1) (g l 2) (g l 3)
/-- The character at a list's head and how many bytes it has; 0 bytes: none. -/
def dec (l : List UInt8) : Nat × Nat := if l = [] ∨ decL l = (65533, 1) then (0, 0) else decL l
def enc (c : Nat) : List UInt8 :=
  if c < 128 then [UInt8.ofNat c]
  else if c < 2048 then [UInt8.ofNat (192 + c / 64), UInt8.ofNat (128 + c % 64)]
  else if c < 65536 then [UInt8.ofNat (224 + c / 4096), UInt8.ofNat (128 + c / 64 % 64), UInt8.ofNat (128 + c % 64)]
  else [UInt8.ofNat (240 + c / 262144), UInt8.ofNat (128 + c / 4096 % 64), UInt8.ofNat (128 + c / 64 % 64), UInt8.ofNat (128 + c % 64)]
def scalar (c : Nat) : Prop := c < 55296 ∨ (57344 ≤ c ∧ c ≤ 1114111)

theorem g_lt (l : List UInt8) (k : Nat) : g l k < 256 := UInt8.toNat_lt _

theorem ofNat_toNat (n : Nat) (h : n < 256) : (UInt8.ofNat n).toNat = n := by
  simp [UInt8.toNat_ofNat', Nat.mod_eq_of_lt h]

theorem enc_length (c : Nat) : (enc c).length = if c < 128 then 1 else if c < 2048 then 2 else if c < 65536 then 3 else 4 := by
  unfold enc
  repeat' split
  all_goals rfl

theorem dec_enc (c : Nat) (r : List UInt8) (h : scalar c) : dec (enc c ++ r) = (c, (enc c).length) := by
  unfold scalar at h
  have hd : decL (enc c ++ r) = (c, (enc c).length) := by
    rw [enc_length]
    unfold decL
    by_cases h1 : c < 128
    · simp only [enc, if_pos h1, g, List.cons_append, List.nil_append, List.getD_cons_zero, List.length_cons]
      rw [ofNat_toNat _ (by omega)]
      unfold decodeN
      rw [if_pos h1]
    · by_cases h2 : c < 2048
      · simp only [enc, if_neg h1, if_pos h2, g, List.cons_append, List.nil_append, List.getD_cons_zero, List.getD_cons_succ, List.length_cons]
        rw [ofNat_toNat _ (by omega), ofNat_toNat _ (by omega)]
        unfold decodeN
        rw [if_neg (by omega), if_pos ⟨by omega, by omega, by omega⟩, if_pos (by omega)]
        apply Prod.ext <;> simp only <;> omega
      · by_cases h3 : c < 65536
        · simp only [enc, if_neg h1, if_neg h2, if_pos h3, g, List.cons_append, List.nil_append, List.getD_cons_zero, List.getD_cons_succ, List.length_cons]
          rw [ofNat_toNat _ (by omega), ofNat_toNat _ (by omega), ofNat_toNat _ (by omega)]
          unfold decodeN
          rw [if_neg (by omega), if_neg (by omega), if_pos ⟨by omega, ⟨by omega, by omega⟩, by omega, by omega⟩, if_pos ⟨by omega, by omega⟩]
          apply Prod.ext <;> simp only <;> omega
        · simp only [enc, if_neg h1, if_neg h2, if_neg h3, g, List.cons_append, List.nil_append, List.getD_cons_zero, List.getD_cons_succ, List.length_cons]
          rw [ofNat_toNat _ (by omega), ofNat_toNat _ (by omega), ofNat_toNat _ (by omega), ofNat_toNat _ (by omega)]
          unfold decodeN
          rw [if_neg (by omega), if_neg (by omega), if_neg (by omega), if_pos ⟨by omega, ⟨by omega, by omega⟩, ⟨by omega, by omega⟩, by omega, by omega⟩, if_pos ⟨by omega, by omega⟩]
          apply Prod.ext <;> simp only <;> omega
  unfold dec
  rw [hd, if_neg]
  rintro (h0 | h0)
  · have := congrArg List.length h0
    rw [List.length_append, enc_length] at this
    simp only [List.length_nil] at this
    split at this <;> (try split at this) <;> (try split at this) <;> omega
  · rw [enc_length] at h0
    injection h0 with h1 h2
    subst h1
    simp at h2

theorem ofNat_g (l : List UInt8) (k n : Nat) (hk : k < l.length) (h : n = g l k) : UInt8.ofNat n = l[k] := by
  subst h
  unfold g
  rw [List.getD_eq_getElem?_getD, List.getElem?_eq_getElem hk]
  simp

/-- A list's first n places, one by one. -/
theorem take_one (l : List UInt8) (h : 0 < l.length) : l = [l[0]] ++ l.drop 1 := by
  match l, h with
  | a :: r, _ => simp
theorem take_two (l : List UInt8) (h : 1 < l.length) : l = [l[0], l[1]] ++ l.drop 2 := by
  match l, h with
  | a :: b :: r, _ => simp
theorem take_three (l : List UInt8) (h : 2 < l.length) : l = [l[0], l[1], l[2]] ++ l.drop 3 := by
  match l, h with
  | a :: b :: c :: r, _ => simp
theorem take_four (l : List UInt8) (h : 3 < l.length) : l = [l[0], l[1], l[2], l[3]] ++ l.drop 4 := by
  match l, h with
  | a :: b :: c :: d :: r, _ => simp

set_option maxHeartbeats 1000000 in
theorem enc_dec (l : List UInt8) (c n : Nat) (h : dec l = (c, n + 1)) : scalar c ∧ (enc c).length = n + 1 ∧ l = enc c ++ l.drop (n + 1) := by
  unfold dec at h
  by_cases hl : l = []
  · rw [if_pos (.inl hl)] at h; cases h
  by_cases hb : decL l = (65533, 1)
  · rw [if_pos (.inr hb)] at h; cases h
  rw [if_neg (by simp [hl, hb])] at h
  have hlen : 0 < l.length := List.length_pos_iff.2 hl
  have b0 := g_lt l 0
  have b1 := g_lt l 1
  have b2 := g_lt l 2
  have b3 := g_lt l 3
  unfold decL decodeN at h hb
  unfold scalar
  by_cases h1 : g l 0 < 128
  · rw [if_pos h1] at h
    injection h with hc hn
    obtain rfl : n = 0 := by omega
    refine ⟨by omega, by rw [enc_length, if_pos (by omega)], ?_⟩
    unfold enc
    rw [if_pos (by omega), ofNat_g l 0 c hlen (by omega)]
    exact take_one l hlen
  rw [if_neg h1] at h hb
  by_cases h2 : g l 0 / 32 = 6 ∧ (1 < l.length ∧ g l 1 / 64 = 2)
  · rw [if_pos h2] at h hb
    by_cases h3 : g l 0 % 32 * 64 + g l 1 % 64 ≥ 128
    · rw [if_pos h3] at h
      injection h with hc hn
      obtain rfl : n = 1 := by omega
      refine ⟨by omega, by rw [enc_length, if_neg (by omega), if_pos (by omega)], ?_⟩
      unfold enc
      rw [if_neg (by omega), if_pos (by omega), ofNat_g l 0 _ hlen (by omega), ofNat_g l 1 _ h2.2.1 (by omega)]
      exact take_two l h2.2.1
    · rw [if_neg h3] at hb; exact absurd rfl hb
  rw [if_neg h2] at h hb
  by_cases h4 : g l 0 / 16 = 14 ∧ (1 < l.length ∧ g l 1 / 64 = 2) ∧ (2 < l.length ∧ g l 2 / 64 = 2)
  · rw [if_pos h4] at h hb
    split at h
    · rename_i h5
      injection h with hc hn
      obtain rfl : n = 2 := by omega
      refine ⟨by omega, by rw [enc_length, if_neg (by omega), if_neg (by omega), if_pos (by omega)], ?_⟩
      unfold enc
      rw [if_neg (by omega), if_neg (by omega), if_pos (by omega), ofNat_g l 0 _ hlen (by omega), ofNat_g l 1 _ h4.2.1.1 (by omega), ofNat_g l 2 _ h4.2.2.1 (by omega)]
      exact take_three l h4.2.2.1
    · rename_i h5
      rw [if_neg h5] at hb; exact absurd rfl hb
  rw [if_neg h4] at h hb
  by_cases h6 : g l 0 / 8 = 30 ∧ (1 < l.length ∧ g l 1 / 64 = 2) ∧ (2 < l.length ∧ g l 2 / 64 = 2) ∧ (3 < l.length ∧ g l 3 / 64 = 2)
  · rw [if_pos h6] at h hb
    split at h
    · rename_i h7
      injection h with hc hn
      obtain rfl : n = 3 := by omega
      refine ⟨by omega, by rw [enc_length, if_neg (by omega), if_neg (by omega), if_neg (by omega)], ?_⟩
      unfold enc
      rw [if_neg (by omega), if_neg (by omega), if_neg (by omega), ofNat_g l 0 _ hlen (by omega), ofNat_g l 1 _ h6.2.1.1 (by omega), ofNat_g l 2 _ h6.2.2.1.1 (by omega), ofNat_g l 3 _ h6.2.2.2.1 (by omega)]
      exact take_four l h6.2.2.2.1
    · rename_i h7
      rw [if_neg h7] at hb; exact absurd rfl hb
  rw [if_neg h6] at hb
  exact absurd rfl hb

theorem dec_le (l : List UInt8) : (dec l).2 ≤ l.length := by
  obtain ⟨c, n, h⟩ : ∃ c n, dec l = (c, n) := ⟨_, _, rfl⟩
  rw [h]
  match n, h with
  | 0, _ => exact Nat.zero_le _
  | n + 1, h =>
    obtain ⟨_, h2, h3⟩ := enc_dec l c n h
    have := congrArg List.length h3
    rw [List.length_append] at this
    simp only
    omega

/-- The characters from a list's head on, as long as there are, and how many bytes they take. -/
def scanF : Nat → List UInt8 → List Nat × Nat
  | 0, _ => ([], 0)
  | f + 1, l => if (dec l).2 = 0 then ([], 0) else ((dec l).1 :: (scanF f (l.drop (dec l).2)).1, (dec l).2 + (scanF f (l.drop (dec l).2)).2)
def scan (l : List UInt8) : List Nat × Nat := scanF l.length l

theorem dec_nil : dec [] = (0, 0) := rfl

theorem scanF_enough : ∀ (f k : Nat) (l : List UInt8), l.length ≤ f → l.length ≤ k → scanF f l = scanF k l
  | 0, 0, _, _, _ => rfl
  | 0, k + 1, l, h, _ => by
    obtain rfl : l = [] := List.eq_nil_of_length_eq_zero (by omega)
    simp [scanF, dec_nil]
  | f + 1, 0, l, _, h => by
    obtain rfl : l = [] := List.eq_nil_of_length_eq_zero (by omega)
    simp [scanF, dec_nil]
  | f + 1, k + 1, l, h1, h2 => by
    unfold scanF
    by_cases h : (dec l).2 = 0
    · rw [if_pos h, if_pos h]
    · rw [if_neg h, if_neg h]
      have hl := dec_le l
      rw [scanF_enough f k (l.drop (dec l).2) (by rw [List.length_drop]; omega) (by rw [List.length_drop]; omega)]

theorem scan_stop (l : List UInt8) (h : (dec l).2 = 0) : scan l = ([], 0) := by
  unfold scan
  cases hl : l.length with
  | zero => rfl
  | succ n => simp [scanF, h]
theorem scan_step (l : List UInt8) (h : (dec l).2 ≠ 0) : scan l = ((dec l).1 :: (scan (l.drop (dec l).2)).1, (dec l).2 + (scan (l.drop (dec l).2)).2) := by
  have hl := dec_le l
  unfold scan
  cases hn : l.length with
  | zero => omega
  | succ n =>
    rw [scanF_enough (l.drop (dec l).2).length n _ (Nat.le_refl _) (by rw [List.length_drop]; omega)]
    simp [scanF, h]
theorem scan_nil : scan [] = ([], 0) := rfl

/-- All bytes of characters. -/
def n8 (cs : List Nat) : List UInt8 := cs.flatMap enc
theorem n8_cons (c : Nat) (cs : List Nat) : n8 (c :: cs) = enc c ++ n8 cs := rfl
theorem n8_append (a b : List Nat) : n8 (a ++ b) = n8 a ++ n8 b := by simp [n8]

theorem enc_pos (c : Nat) : 0 < (enc c).length := by
  rw [enc_length]
  repeat' split
  all_goals omega

theorem scan_n8 : ∀ (cs : List Nat) (r : List UInt8), (∀ c ∈ cs, scalar c) → scan (n8 cs ++ r) = (cs ++ (scan r).1, (n8 cs).length + (scan r).2)
  | [], r, _ => by simp [n8]
  | c :: cs, r, h => by
    have hd := dec_enc c (n8 cs ++ r) (h c (List.mem_cons_self ..))
    have hp := enc_pos c
    rw [n8_cons, List.append_assoc, scan_step _ (by rw [hd]; simp only; omega), hd]
    simp only [List.drop_left, List.length_append]
    rw [scan_n8 cs r (fun x hx => h x (List.mem_cons_of_mem _ hx))]
    simp only [List.cons_append, Nat.add_assoc]

/-- What has been read are the bytes of scalar characters; behind them none begins. -/
theorem scan_parts : ∀ (n : Nat) (l : List UInt8), l.length ≤ n → (∀ c ∈ (scan l).1, scalar c) ∧ l = n8 (scan l).1 ++ l.drop (scan l).2 ∧ (n8 (scan l).1).length = (scan l).2 ∧ (dec (l.drop (scan l).2)).2 = 0
  | n, l, hn => by
    by_cases h : (dec l).2 = 0
    · rw [scan_stop l h]
      simp [n8, h]
    · obtain ⟨c, k, hd⟩ : ∃ c k, dec l = (c, k + 1) := ⟨(dec l).1, (dec l).2 - 1, by apply Prod.ext <;> simp only <;> omega⟩
      obtain ⟨h1, h2, h3⟩ := enc_dec l c k hd
      have hl := dec_le l
      rw [hd] at hl
      simp only at hl
      match n, hn with
      | 0, hn => omega
      | n + 1, hn =>
        obtain ⟨i1, i2, i3, i4⟩ := scan_parts n (l.drop (k + 1)) (by rw [List.length_drop]; omega)
        rw [scan_step l h, hd]
        simp only
        refine ⟨?_, ?_, ?_, ?_⟩
        · intro x hx
          rcases List.mem_cons.1 hx with rfl | hx
          · exact h1
          · exact i1 x hx
        · have e : l.drop (k + 1 + (scan (l.drop (k + 1))).2) = (l.drop (k + 1)).drop (scan (l.drop (k + 1))).2 := by rw [List.drop_drop]
          rw [n8_cons, List.append_assoc, e, ← i2]
          exact h3
        · rw [n8_cons, List.length_append, h2, i3]
        · have e : l.drop (k + 1 + (scan (l.drop (k + 1))).2) = (l.drop (k + 1)).drop (scan (l.drop (k + 1))).2 := by rw [List.drop_drop]
          rw [e]
          exact i4

theorem scan_full (l : List UInt8) (h : (scan l).2 = l.length) : l = n8 (scan l).1 ∧ ∀ c ∈ (scan l).1, scalar c := by
  obtain ⟨h1, h2, _, _⟩ := scan_parts _ l (Nat.le_refl _)
  rw [h, List.drop_length, List.append_nil] at h2
  exact ⟨h2, h1⟩
theorem scan_le (l : List UInt8) : (scan l).2 ≤ l.length := by
  obtain ⟨_, h2, h3, _⟩ := scan_parts _ l (Nat.le_refl _)
  have := congrArg List.length h2
  rw [List.length_append, h3] at this
  omega

/-- A character's units, two bytes a unit. -/
def units (c : Nat) : List Nat := if c < 65536 then [c] else [55296 + (c - 65536) / 1024, 56320 + (c - 65536) % 1024]
def be (u : Nat) : List UInt8 := [UInt8.ofNat (u / 256), UInt8.ofNat (u % 256)]
def w8 (cs : List Nat) : List UInt8 := cs.flatMap fun c => (units c).flatMap be
theorem w8_cons (c : Nat) (cs : List Nat) : w8 (c :: cs) = (units c).flatMap be ++ w8 cs := rfl
theorem w8_append (a b : List Nat) : w8 (a ++ b) = w8 a ++ w8 b := by simp [w8]

/-- The units of a wide text. -/
def us : List UInt8 → List Nat
  | a :: b :: r => (a.toNat * 256 + b.toNat) :: us r
  | _ => []
theorem us_be (u : Nat) (r : List UInt8) (h : u < 65536) : us (be u ++ r) = u :: us r := by
  simp only [be, List.cons_append, List.nil_append, us]
  rw [ofNat_toNat _ (by omega), ofNat_toNat _ (by omega)]
  congr 1
  omega
theorem us_bes : ∀ (l : List Nat) (r : List UInt8), (∀ u ∈ l, u < 65536) → us (l.flatMap be ++ r) = l ++ us r
  | [], _, _ => rfl
  | u :: l, r, h => by
    rw [List.flatMap_cons, List.append_assoc, us_be u _ (h u (List.mem_cons_self ..)), us_bes l r (fun x hx => h x (List.mem_cons_of_mem _ hx))]
    rfl
theorem units_lt (c : Nat) (h : scalar c) : ∀ u ∈ units c, u < 65536 := by
  unfold scalar at h
  unfold units
  split
  · intro u hu
    simp only [List.mem_singleton] at hu
    omega
  · intro u hu
    simp only [List.mem_cons, List.not_mem_nil, or_false] at hu
    omega
theorem us_w8 : ∀ (cs : List Nat), (∀ c ∈ cs, scalar c) → us (w8 cs) = cs.flatMap units
  | [], _ => rfl
  | c :: cs, h => by
    rw [w8_cons, us_bes _ _ (units_lt c (h c (List.mem_cons_self ..))), us_w8 cs (fun x hx => h x (List.mem_cons_of_mem _ hx))]
    rfl

/-- The character at the head of units, and its units. -/
def headU : List Nat → Nat × Nat
  | [] => (0, 0)
  | [u] => if u < 55296 ∨ 57343 < u then (u, 1) else (65533, 1)
  | u :: v :: _ => if u < 55296 ∨ 57343 < u then (u, 1) else if u < 56320 ∧ 56320 ≤ v ∧ v ≤ 57343 then (65536 + (u - 55296) * 1024 + (v - 56320), 2) else (65533, 1)
def charsF : Nat → List Nat → List Nat
  | 0, _ => []
  | _ + 1, [] => []
  | f + 1, u :: r => (headU (u :: r)).1 :: charsF f ((u :: r).drop (headU (u :: r)).2)
def chars (l : List Nat) : List Nat := charsF l.length l
theorem headU_pos (u : Nat) (r : List Nat) : 1 ≤ (headU (u :: r)).2 ∧ (headU (u :: r)).2 ≤ (u :: r).length := by
  cases r with
  | nil =>
    simp only [headU]
    by_cases h : u < 55296 ∨ 57343 < u
    · simp [if_pos h]
    · simp [if_neg h]
  | cons v r =>
    simp only [headU]
    by_cases h : u < 55296 ∨ 57343 < u
    · simp [if_pos h]
    · by_cases h2 : u < 56320 ∧ 56320 ≤ v ∧ v ≤ 57343
      · simp [if_neg h, if_pos h2]
      · simp [if_neg h, if_neg h2]
theorem charsF_enough : ∀ (f k : Nat) (l : List Nat), l.length ≤ f → l.length ≤ k → charsF f l = charsF k l
  | 0, 0, _, _, _ => rfl
  | 0, k + 1, l, h, _ => by
    obtain rfl : l = [] := List.eq_nil_of_length_eq_zero (by omega)
    rfl
  | f + 1, 0, l, _, h => by
    obtain rfl : l = [] := List.eq_nil_of_length_eq_zero (by omega)
    rfl
  | f + 1, k + 1, [], _, _ => rfl
  | f + 1, k + 1, u :: r, h1, h2 => by
    have hp := headU_pos u r
    unfold charsF
    rw [charsF_enough f k _ (by rw [List.length_drop]; simp only [List.length_cons] at *; omega) (by rw [List.length_drop]; simp only [List.length_cons] at *; omega)]
theorem chars_nil : chars [] = [] := rfl
theorem chars_cons (u : Nat) (r : List Nat) : chars (u :: r) = (headU (u :: r)).1 :: chars ((u :: r).drop (headU (u :: r)).2) := by
  have hp := headU_pos u r
  unfold chars
  rw [charsF_enough ((u :: r).drop (headU (u :: r)).2).length r.length _ (Nat.le_refl _) (by rw [List.length_drop]; simp only [List.length_cons] at *; omega)]
  rfl

theorem headU_units (c : Nat) (h : scalar c) (r : List Nat) : headU (units c ++ r) = (c, (units c).length) := by
  unfold scalar at h
  unfold units
  by_cases h1 : c < 65536
  · rw [if_pos h1]
    cases r with
    | nil =>
      simp only [List.cons_append, List.nil_append, headU]
      rw [if_pos (by omega)]; rfl
    | cons v r =>
      simp only [List.cons_append, List.nil_append, headU]
      rw [if_pos (by omega)]; rfl
  · rw [if_neg h1]
    simp only [List.cons_append, List.nil_append, headU]
    rw [if_neg (by omega), if_pos (by omega)]
    apply Prod.ext
    · simp only; omega
    · rfl
theorem chars_units : ∀ (cs : List Nat), (∀ c ∈ cs, scalar c) → chars (cs.flatMap units) = cs
  | [], _ => rfl
  | c :: cs, h => by
    have hc := headU_units c (h c (List.mem_cons_self ..)) (cs.flatMap units)
    rw [List.flatMap_cons]
    obtain ⟨u, r, hur⟩ : ∃ u r, units c ++ cs.flatMap units = u :: r := by
      unfold units
      split <;> exact ⟨_, _, rfl⟩
    rw [hur, chars_cons, ← hur, hc]
    simp only [List.drop_left]
    rw [chars_units cs (fun x hx => h x (List.mem_cons_of_mem _ hx))]

/-- Units that stand for others: the same, or FFFD for one of a pair. -/
inductive Like : List Nat → List Nat → Prop
  | nil : Like [] []
  | cons {a c : Nat} {l k : List Nat} : (a = c ∨ (c = 65533 ∧ 55296 ≤ a ∧ a ≤ 57343)) → Like l k → Like (a :: l) (c :: k)
theorem Like.length {l k : List Nat} (h : Like l k) : k.length = l.length := by
  induction h with
  | nil => rfl
  | cons _ _ ih => simp [ih]
theorem Like.at {l k : List Nat} (h : Like l k) : ∀ i, i < l.length → (l.getD i 0 = k.getD i 0 ∨ (k.getD i 0 = 65533 ∧ 55296 ≤ l.getD i 0 ∧ l.getD i 0 ≤ 57343)) := by
  induction h with
  | nil => intro i hi; simp at hi
  | cons h0 _ ih =>
    intro i hi
    cases i with
    | zero => simpa using h0
    | succ i => simpa using ih i (by simpa using hi)

theorem units_one (c : Nat) (h : c < 65536) : units c = [c] := if_pos h
theorem units_two (u v : Nat) (h1 : 55296 ≤ u) (h2 : u < 56320) (h3 : 56320 ≤ v) (h4 : v ≤ 57343) : units (65536 + (u - 55296) * 1024 + (v - 56320)) = [u, v] := by
  unfold units
  rw [if_neg (by omega)]
  have e1 : 55296 + (65536 + (u - 55296) * 1024 + (v - 56320) - 65536) / 1024 = u := by omega
  have e2 : 56320 + (65536 + (u - 55296) * 1024 + (v - 56320) - 65536) % 1024 = v := by omega
  rw [e1, e2]
theorem chars_like : ∀ (n : Nat) (l : List Nat), l.length ≤ n → (∀ u ∈ l, u < 65536) → (∀ c ∈ chars l, scalar c) ∧ Like l ((chars l).flatMap units)
  | _, [], _, _ => ⟨fun c hc => by simp [chars_nil] at hc, Like.nil⟩
  | 0, u :: r, h, _ => by simp at h
  | n + 1, [u], h, hu => by
    have h0 := hu u (List.mem_cons_self ..)
    rw [chars_cons]
    simp only [headU]
    split
    · refine ⟨fun c hc => ?_, ?_⟩
      · simp [chars_nil] at hc
        subst hc
        unfold scalar; omega
      · simp only [List.drop_succ_cons, List.drop_nil, chars_nil, List.flatMap_cons, List.flatMap_nil, List.append_nil, units, if_pos h0]
        exact .cons (.inl rfl) .nil
    · refine ⟨fun c hc => ?_, ?_⟩
      · simp [chars_nil] at hc
        subst hc
        unfold scalar; omega
      · simp only [List.drop_succ_cons, List.drop_nil, chars_nil, List.flatMap_cons, List.flatMap_nil, List.append_nil]
        rw [units_one 65533 (by omega)]
        exact .cons (.inr ⟨rfl, by omega, by omega⟩) .nil
  | n + 1, u :: v :: r, h, hu => by
    have h0 := hu u (List.mem_cons_self ..)
    have hv := hu v (List.mem_cons_of_mem _ (List.mem_cons_self ..))
    obtain ⟨i1, i2⟩ := chars_like n (v :: r) (by simpa using h) (fun x hx => hu x (List.mem_cons_of_mem _ hx))
    rw [chars_cons]
    simp only [headU]
    split
    · simp only [List.drop_succ_cons, List.drop_zero]
      refine ⟨fun c hc => ?_, ?_⟩
      · rcases List.mem_cons.1 hc with rfl | hc
        · unfold scalar; omega
        · exact i1 c hc
      · rw [List.flatMap_cons]
        simp only [units, if_pos h0]
        exact .cons (.inl rfl) i2
    · split
      · obtain ⟨j1, j2⟩ := chars_like n r (by simp at h; omega) (fun x hx => hu x (List.mem_cons_of_mem _ (List.mem_cons_of_mem _ hx)))
        simp only [List.drop_succ_cons, List.drop_zero]
        refine ⟨fun c hc => ?_, ?_⟩
        · rcases List.mem_cons.1 hc with he | hc
          · unfold scalar; omega
          · exact j1 c hc
        · rw [List.flatMap_cons]
          rw [units_two u v (by omega) (by omega) (by omega) (by omega)]
          exact .cons (.inl rfl) (.cons (.inl rfl) j2)
      · simp only [List.drop_succ_cons, List.drop_zero]
        refine ⟨fun c hc => ?_, ?_⟩
        · rcases List.mem_cons.1 hc with he | hc
          · unfold scalar; omega
          · exact i1 c hc
        · rw [List.flatMap_cons, units_one 65533 (by omega)]
          exact .cons (.inr ⟨rfl, by omega, by omega⟩) i2

end U
end Go.Proofs.YtmhoebbdapjpeaaDoor
namespace Go.Proofs.YtmhoebbdapjpeaaDoor
namespace U
open Go.Lib (decodeN)

theorem dec_of_bad (l : List UInt8) (h : decL l = (65533, 1)) : dec l = (0, 0) := by
  unfold dec; rw [if_pos (.inr h)]
theorem dec_of_good (l : List UInt8) (c n : Nat) (h : decL l = (c, n)) (hl : l ≠ []) (hn : n ≠ 1 ∨ c ≠ 65533) : dec l = (c, n) := by
  unfold dec
  rw [if_neg, h]
  rintro (h0 | h0)
  · exact hl h0
  · rw [h] at h0
    injection h0 with h1 h2
    rcases hn with hn | hn <;> contradiction
theorem dec_ascii (l : List UInt8) (hl : l ≠ []) (h : g l 0 < 128) : dec l = (g l 0, 1) := by
  apply dec_of_good _ _ _ _ hl (.inr (by omega))
  unfold decL decodeN
  rw [if_pos h]
theorem dec_badlead (l : List UInt8) (h : (128 ≤ g l 0 ∧ g l 0 < 192) ∨ 248 ≤ g l 0) : dec l = (0, 0) := by
  apply dec_of_bad
  have := g_lt l 0
  unfold decL decodeN
  rw [if_neg (by omega), if_neg (by omega), if_neg (by omega), if_neg (by omega)]

/-- What a first byte says: how many bytes, the first bits, the least number. -/
def Lead (b n c low : Nat) : Prop :=
  (192 ≤ b ∧ b < 224 ∧ n = 2 ∧ c = b - 192 ∧ low = 128) ∨ (224 ≤ b ∧ b < 240 ∧ n = 3 ∧ c = b - 224 ∧ low = 2048) ∨ (240 ≤ b ∧ b < 248 ∧ n = 4 ∧ c = b - 240 ∧ low = 65536)
def val (l : List UInt8) (c : Nat) : Nat → Nat
  | 0 => c
  | m + 1 => val l c m * 64 + g l (m + 1) - 128

theorem dec_short (l : List UInt8) (n c low : Nat) (hL : Lead (g l 0) n c low) (h : l.length < n) : dec l = (0, 0) := by
  apply dec_of_bad
  unfold decL decodeN
  rcases hL with ⟨h1, h2, e1, e2, e3⟩ | ⟨h1, h2, e1, e2, e3⟩ | ⟨h1, h2, e1, e2, e3⟩ <;>
    rw [if_neg (by omega), if_neg (by omega), if_neg (by omega), if_neg (by omega)]
theorem dec_cont (l : List UInt8) (n c low m : Nat) (hL : Lead (g l 0) n c low) (h1 : 1 ≤ m) (h2 : m < n) (h : g l m < 128 ∨ 192 ≤ g l m) : dec l = (0, 0) := by
  apply dec_of_bad
  unfold decL decodeN
  have hm : m = 1 ∨ m = 2 ∨ m = 3 := by
    rcases hL with hL | hL | hL <;> omega
  rcases hL with ⟨h1, h2, e1, e2, e3⟩ | ⟨h1, h2, e1, e2, e3⟩ | ⟨h1, h2, e1, e2, e3⟩ <;> rcases hm with rfl | rfl | rfl <;> first
    | omega
    | rw [if_neg (by omega), if_neg (by omega), if_neg (by omega), if_neg (by omega)]

set_option maxRecDepth 100000 in
theorem dec_full (l : List UInt8) (n c low : Nat) (hL : Lead (g l 0) n c low) (hn : n ≤ l.length) (hc : ∀ m, 1 ≤ m → m < n → 128 ≤ g l m ∧ g l m < 192) :
    dec l = if val l c (n - 1) < low ∨ 1114111 < val l c (n - 1) ∨ (55296 ≤ val l c (n - 1) ∧ val l c (n - 1) < 57344) then (0, 0) else (val l c (n - 1), n) := by
  rcases hL with ⟨h1, h2, e1, e2, e3⟩ | ⟨h1, h2, e1, e2, e3⟩ | ⟨h1, h2, e1, e2, e3⟩
  all_goals subst e1 e2
  · have c1 := hc 1 (by omega) (by omega)
    have hl : l ≠ [] := by intro e; subst e; simp at hn
    have hv : val l (g l 0 - 192) (2 - 1) = g l 0 % 32 * 64 + g l 1 % 64 := by
      show (g l 0 - 192) * 64 + g l 1 - 128 = _
      omega
    rw [hv]
    have hd : decL l = if g l 0 % 32 * 64 + g l 1 % 64 ≥ 128 then (g l 0 % 32 * 64 + g l 1 % 64, 2) else (65533, 1) := by
      unfold decL decodeN
      rw [if_neg (by omega), if_pos ⟨by omega, by omega, by omega⟩]
    by_cases hb : g l 0 % 32 * 64 + g l 1 % 64 ≥ 128
    · rw [if_pos hb] at hd
      rw [if_neg (by omega)]
      exact dec_of_good _ _ _ hd hl (.inl (by omega))
    · rw [if_neg hb] at hd
      rw [if_pos (by omega)]
      exact dec_of_bad _ hd
  · have c1 := hc 1 (by omega) (by omega)
    have c2 := hc 2 (by omega) (by omega)
    have hl : l ≠ [] := by intro e; subst e; simp at hn
    have hv : val l (g l 0 - 224) (3 - 1) = g l 0 % 16 * 4096 + g l 1 % 64 * 64 + g l 2 % 64 := by
      show ((g l 0 - 224) * 64 + g l 1 - 128) * 64 + g l 2 - 128 = _
      omega
    rw [hv]
    obtain ⟨v, hv'⟩ : ∃ v, g l 0 % 16 * 4096 + g l 1 % 64 * 64 + g l 2 % 64 = v := ⟨_, rfl⟩
    have hd : decL l = if v ≥ 2048 ∧ (v < 55296 ∨ (57344 ≤ v ∧ v ≤ 1114111)) then (v, 3) else (65533, 1) := by
      unfold decL decodeN
      rw [if_neg (by omega), if_neg (by omega), if_pos ⟨by omega, ⟨by omega, by omega⟩, by omega, by omega⟩, hv']
    rw [hv']
    by_cases hb : v ≥ 2048 ∧ (v < 55296 ∨ (57344 ≤ v ∧ v ≤ 1114111))
    · rw [if_pos hb] at hd
      rw [if_neg (by omega)]
      exact dec_of_good _ _ _ hd hl (.inl (by omega))
    · rw [if_neg hb] at hd
      rw [if_pos (by omega)]
      exact dec_of_bad _ hd
  · have c1 := hc 1 (by omega) (by omega)
    have c2 := hc 2 (by omega) (by omega)
    have c3 := hc 3 (by omega) (by omega)
    have hl : l ≠ [] := by intro e; subst e; simp at hn
    have hv : val l (g l 0 - 240) (4 - 1) = g l 0 % 8 * 262144 + g l 1 % 64 * 4096 + g l 2 % 64 * 64 + g l 3 % 64 := by
      show (((g l 0 - 240) * 64 + g l 1 - 128) * 64 + g l 2 - 128) * 64 + g l 3 - 128 = _
      omega
    rw [hv]
    obtain ⟨v, hv'⟩ : ∃ v, g l 0 % 8 * 262144 + g l 1 % 64 * 4096 + g l 2 % 64 * 64 + g l 3 % 64 = v := ⟨_, rfl⟩
    have hd : decL l = if v ≥ 65536 ∧ (v < 55296 ∨ (57344 ≤ v ∧ v ≤ 1114111)) then (v, 4) else (65533, 1) := by
      unfold decL decodeN
      rw [if_neg (by omega), if_neg (by omega), if_neg (by omega), if_pos ⟨by omega, ⟨by omega, by omega⟩, ⟨by omega, by omega⟩, by omega, by omega⟩, hv']
    rw [hv']
    by_cases hb : v ≥ 65536 ∧ (v < 55296 ∨ (57344 ≤ v ∧ v ≤ 1114111))
    · rw [if_pos hb] at hd
      rw [if_neg (by omega)]
      exact dec_of_good _ _ _ hd hl (.inl (by omega))
    · rw [if_neg hb] at hd
      rw [if_pos (by omega)]
      exact dec_of_bad _ hd
theorem val_lt (l : List UInt8) (c : Nat) (hc : c < 64) : ∀ m, m ≤ 3 → val l c m < 64 ^ (m + 1) * 8 := by
  intro m hm
  have g1 := g_lt l 1
  have g2 := g_lt l 2
  have g3 := g_lt l 3
  match m, hm with
  | 0, _ => show c < _; omega
  | 1, _ => show c * 64 + g l 1 - 128 < _; omega
  | 2, _ => show (c * 64 + g l 1 - 128) * 64 + g l 2 - 128 < _; omega
  | 3, _ => show ((c * 64 + g l 1 - 128) * 64 + g l 2 - 128) * 64 + g l 3 - 128 < _; omega
end U
end Go.Proofs.YtmhoebbdapjpeaaDoor
namespace Go.Proofs.YtmhoebbdapjpeaaDoor
open Go.RowKit
set_option linter.all false
theorem ret_bool {a b : Bool} (h : a = b) : Ending.returned (.bool a) = .returned (.bool b) := by rw [h]
theorem ret_int {k : IntKind} {a b : Int} (h : a = b) : Ending.returned (.int k a) = .returned (.int k b) := by rw [h]

/-- Bytes as a Go string. -/
def bs (l : List UInt8) : ByteArray := ⟨l.toArray⟩
theorem bs_list (l : List UInt8) : (bs l).data.toList = l := rfl
theorem bs_size (l : List UInt8) : (bs l).size = l.length := by show l.toArray.size = _; simp
theorem bs_data (s : ByteArray) : bs s.data.toList = s := Lib.mk_data s
theorem bs_get (l : List UInt8) (i : Nat) (h : i < (bs l).size) (h2 : i < l.length) : (bs l)[i] = l[i] := by
  show (bs l).data[i] = _
  simp [bs]
theorem bs_g (l : List UInt8) (i : Nat) (h : i < (bs l).size) : ((bs l)[i]).toNat = U.g l i := by
  have h2 : i < l.length := by rw [← bs_size]; exact h
  refine (congrArg UInt8.toNat (bs_get l i h h2)).trans ?_
  unfold U.g
  rw [List.getD_eq_getElem?_getD, List.getElem?_eq_getElem h2]
  rfl
theorem g_out (l : List UInt8) (i : Nat) (h : l.length ≤ i) : U.g l i = 0 := by
  unfold U.g
  rw [List.getD_eq_getElem?_getD, List.getElem?_eq_none h]
  rfl
theorem g_drop (l : List UInt8) (i k : Nat) : U.g (l.drop i) k = U.g l (i + k) := by
  unfold U.g
  simp [List.getD_eq_getElem?_getD, List.getElem?_drop]
theorem bs_extract (l : List UInt8) (a b : Nat) : (bs l).extract a b = bs ((l.drop a).take (b - a)) := Lib.extract_eq (bs l) a b
theorem bs_drop (l : List UInt8) (a : Nat) : (bs l).extract a (bs l).size = bs (l.drop a) := by
  rw [bs_extract, bs_size, List.take_of_length_le (by rw [List.length_drop]; exact Nat.le_refl _)]
theorem bs_take (l : List UInt8) (a : Nat) : (bs l).extract 0 a = bs (l.take a) := by rw [bs_extract]; rfl

/-- All blocks that there were, but block b, are as they were. -/
structure Bar (b : Nat) (w w' : World) : Prop where
  os : w'.os = w.os
  tape : w'.tape = w.tape
  output : w'.output = w.output
  size : w.heap.size ≤ w'.heap.size
  block : ∀ k, k < w.heap.size → k ≠ b → w'.heap[k]? = w.heap[k]?
theorem Bar.refl (b : Nat) (w : World) : Bar b w w := ⟨rfl, rfl, rfl, Nat.le_refl _, fun _ _ _ => rfl⟩
theorem Bar.trans {b : Nat} {w w1 w2 : World} (h : Bar b w w1) (k : Bar b w1 w2) : Bar b w w2 :=
  ⟨k.os.trans h.os, k.tape.trans h.tape, k.output.trans h.output, Nat.le_trans h.size k.size, fun i hi hb => (k.block i (Nat.lt_of_lt_of_le hi h.size) hb).trans (h.block i hi hb)⟩
theorem Bar.of_below {b : Nat} {w w' : World} (h : Below w.heap.size w w') : Bar b w w' := ⟨h.os, h.tape, h.output, h.size, fun k hk _ => h.block k hk⟩
theorem Bar.below {b B : Nat} {w w' : World} (h : Bar b w w') (hb : B ≤ b) (hB : B ≤ w.heap.size) : Below B w w' := ⟨h.os, h.tape, h.output, h.size, fun k hk => h.block k (by omega) (by omega)⟩
theorem Bar.set {b : Nat} (w : World) (o : Nat) (v : Value) : Bar b w (w.setCell ⟨b, o, none⟩ v) := ⟨rfl, rfl, rfl, by simp [World.setCell], fun k _ hk => Below.heap_setCell _ _ _ _ hk⟩
theorem Bar.bel {b : Nat} {w w1 w2 : World} (h : Bar b w w1) (k : Below w1.heap.size w1 w2) : Bar b w w2 := h.trans (.of_below k)
theorem Bar.keep {b : Nat} {w w' : World} (h : Bar b w w') {k : Nat} (hk : k ≠ b) {o : Obj} (ho : w.heap[k]? = some o) : w'.heap[k]? = some o := by
  have hlt : k < w.heap.size := by
    rcases Nat.lt_or_ge k w.heap.size with h' | h'
    · exact h'
    · rw [Array.getElem?_eq_none h'] at ho; cases ho
  rw [h.block k hlt hk]; exact ho
theorem lt_of_heap {w : World} {k : Nat} {o : Obj} (ho : w.heap[k]? = some o) : k < w.heap.size := by
  rcases Nat.lt_or_ge k w.heap.size with h' | h'
  · exact h'
  · rw [Array.getElem?_eq_none h'] at ho; cases ho
theorem Below.keep {w w' : World} (h : Below w.heap.size w w') {k : Nat} {o : Obj} (ho : w.heap[k]? = some o) : w'.heap[k]? = some o := by
  rw [h.block k (lt_of_heap ho)]; exact ho
theorem heap_set {w : World} {b : Nat} {c : Array Value} {T : TypeId} {f : Nat × Nat} (h : w.heap[b]? = some (.cells c T f)) (i : Nat) (v : Value) : (w.setCell ⟨b, i, none⟩ v).heap[b]? = some (.cells (c.setIfInBounds i v) T f) := by
  simp [World.setCell, Array.getElem?_modify, h]
theorem heap_new (w : World) (o : Obj) : (w.alloc o).heap[w.heap.size]? = some o := by show (w.heap.push o)[w.heap.size]? = _; simp
theorem heap_size (w : World) (o : Obj) : (w.alloc o).heap.size = w.heap.size + 1 := by show (w.heap.push o).size = _; simp

end Go.Proofs.YtmhoebbdapjpeaaDoor
