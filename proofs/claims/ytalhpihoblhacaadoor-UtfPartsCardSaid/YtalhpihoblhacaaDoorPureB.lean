/- Plain facts on UTF-8, more: what a character at a list's head is, by its first byte and those behind it. -/
import Derived.Test.YtalhpihoblhacaaDoorPure
namespace Go.Proofs.YtalhpihoblhacaaDoor
namespace U
open Go.Lib (decodeN)

theorem dec_of_bad (l : List UInt8) (h : decL l = (65533, 1)) : dec l = (0, 0) := by
  unfold dec; rw [if_pos (.inr h)]
theorem dec_of_good (l : List UInt8) (c n : Nat) (h : decL l = (c, n)) (hl : l ≠ []) (hn : n ≠ 1 ∨ c ≠ 65533) : dec l = (c, n) := by
  unfold dec
  rw [if_neg, h]
  rintro (h0 | h0)
  · exact hl h0
  · rw [h] at h0
    injection h0 with h1 h2
    rcases hn with hn | hn <;> contradiction
theorem dec_ascii (l : List UInt8) (hl : l ≠ []) (h : g l 0 < 128) : dec l = (g l 0, 1) := by
  apply dec_of_good _ _ _ _ hl (.inr (by omega))
  unfold decL decodeN
  rw [if_pos h]
theorem dec_badlead (l : List UInt8) (h : (128 ≤ g l 0 ∧ g l 0 < 192) ∨ 248 ≤ g l 0) : dec l = (0, 0) := by
  apply dec_of_bad
  have := g_lt l 0
  unfold decL decodeN
  rw [if_neg (by omega), if_neg (by omega), if_neg (by omega), if_neg (by omega)]

/-- What a first byte says: how many bytes, the first bits, the least number. -/
def Lead (b n c low : Nat) : Prop :=
  (192 ≤ b ∧ b < 224 ∧ n = 2 ∧ c = b - 192 ∧ low = 128) ∨ (224 ≤ b ∧ b < 240 ∧ n = 3 ∧ c = b - 224 ∧ low = 2048) ∨ (240 ≤ b ∧ b < 248 ∧ n = 4 ∧ c = b - 240 ∧ low = 65536)
def val (l : List UInt8) (c : Nat) : Nat → Nat
  | 0 => c
  | m + 1 => val l c m * 64 + g l (m + 1) - 128

theorem dec_short (l : List UInt8) (n c low : Nat) (hL : Lead (g l 0) n c low) (h : l.length < n) : dec l = (0, 0) := by
  apply dec_of_bad
  unfold decL decodeN
  rcases hL with ⟨h1, h2, e1, e2, e3⟩ | ⟨h1, h2, e1, e2, e3⟩ | ⟨h1, h2, e1, e2, e3⟩ <;>
    rw [if_neg (by omega), if_neg (by omega), if_neg (by omega), if_neg (by omega)]
theorem dec_cont (l : List UInt8) (n c low m : Nat) (hL : Lead (g l 0) n c low) (h1 : 1 ≤ m) (h2 : m < n) (h : g l m < 128 ∨ 192 ≤ g l m) : dec l = (0, 0) := by
  apply dec_of_bad
  unfold decL decodeN
  have hm : m = 1 ∨ m = 2 ∨ m = 3 := by
    rcases hL with hL | hL | hL <;> omega
  rcases hL with ⟨h1, h2, e1, e2, e3⟩ | ⟨h1, h2, e1, e2, e3⟩ | ⟨h1, h2, e1, e2, e3⟩ <;> rcases hm with rfl | rfl | rfl <;> first
    | omega
    | rw [if_neg (by omega), if_neg (by omega), if_neg (by omega), if_neg (by omega)]

set_option maxRecDepth 100000 in
theorem dec_full (l : List UInt8) (n c low : Nat) (hL : Lead (g l 0) n c low) (hn : n ≤ l.length) (hc : ∀ m, 1 ≤ m → m < n → 128 ≤ g l m ∧ g l m < 192) :
    dec l = if val l c (n - 1) < low ∨ 1114111 < val l c (n - 1) ∨ (55296 ≤ val l c (n - 1) ∧ val l c (n - 1) < 57344) then (0, 0) else (val l c (n - 1), n) := by
  rcases hL with ⟨h1, h2, e1, e2, e3⟩ | ⟨h1, h2, e1, e2, e3⟩ | ⟨h1, h2, e1, e2, e3⟩
  all_goals subst e1 e2
  · have c1 := hc 1 (by omega) (by omega)
    have hl : l ≠ [] := by intro e; subst e; simp at hn
    have hv : val l (g l 0 - 192) (2 - 1) = g l 0 % 32 * 64 + g l 1 % 64 := by
      show (g l 0 - 192) * 64 + g l 1 - 128 = _
      omega
    rw [hv]
    have hd : decL l = if g l 0 % 32 * 64 + g l 1 % 64 ≥ 128 then (g l 0 % 32 * 64 + g l 1 % 64, 2) else (65533, 1) := by
      unfold decL decodeN
      rw [if_neg (by omega), if_pos ⟨by omega, by omega, by omega⟩]
    by_cases hb : g l 0 % 32 * 64 + g l 1 % 64 ≥ 128
    · rw [if_pos hb] at hd
      rw [if_neg (by omega)]
      exact dec_of_good _ _ _ hd hl (.inl (by omega))
    · rw [if_neg hb] at hd
      rw [if_pos (by omega)]
      exact dec_of_bad _ hd
  · have c1 := hc 1 (by omega) (by omega)
    have c2 := hc 2 (by omega) (by omega)
    have hl : l ≠ [] := by intro e; subst e; simp at hn
    have hv : val l (g l 0 - 224) (3 - 1) = g l 0 % 16 * 4096 + g l 1 % 64 * 64 + g l 2 % 64 := by
      show ((g l 0 - 224) * 64 + g l 1 - 128) * 64 + g l 2 - 128 = _
      omega
    rw [hv]
    obtain ⟨v, hv'⟩ : ∃ v, g l 0 % 16 * 4096 + g l 1 % 64 * 64 + g l 2 % 64 = v := ⟨_, rfl⟩
    have hd : decL l = if v ≥ 2048 ∧ (v < 55296 ∨ (57344 ≤ v ∧ v ≤ 1114111)) then (v, 3) else (65533, 1) := by
      unfold decL decodeN
      rw [if_neg (by omega), if_neg (by omega), if_pos ⟨by omega, ⟨by omega, by omega⟩, by omega, by omega⟩, hv']
    rw [hv']
    by_cases hb : v ≥ 2048 ∧ (v < 55296 ∨ (57344 ≤ v ∧ v ≤ 1114111))
    · rw [if_pos hb] at hd
      rw [if_neg (by omega)]
      exact dec_of_good _ _ _ hd hl (.inl (by omega))
    · rw [if_neg hb] at hd
      rw [if_pos (by omega)]
      exact dec_of_bad _ hd
  · have c1 := hc 1 (by omega) (by omega)
    have c2 := hc 2 (by omega) (by omega)
    have c3 := hc 3 (by omega) (by omega)
    have hl : l ≠ [] := by intro e; subst e; simp at hn
    have hv : val l (g l 0 - 240) (4 - 1) = g l 0 % 8 * 262144 + g l 1 % 64 * 4096 + g l 2 % 64 * 64 + g l 3 % 64 := by
      show (((g l 0 - 240) * 64 + g l 1 - 128) * 64 + g l 2 - 128) * 64 + g l 3 - 128 = _
      omega
    rw [hv]
    obtain ⟨v, hv'⟩ : ∃ v, g l 0 % 8 * 262144 + g l 1 % 64 * 4096 + g l 2 % 64 * 64 + g l 3 % 64 = v := ⟨_, rfl⟩
    have hd : decL l = if v ≥ 65536 ∧ (v < 55296 ∨ (57344 ≤ v ∧ v ≤ 1114111)) then (v, 4) else (65533, 1) := by
      unfold decL decodeN
      rw [if_neg (by omega), if_neg (by omega), if_neg (by omega), if_pos ⟨by omega, ⟨by omega, by omega⟩, ⟨by omega, by omega⟩, by omega, by omega⟩, hv']
    rw [hv']
    by_cases hb : v ≥ 65536 ∧ (v < 55296 ∨ (57344 ≤ v ∧ v ≤ 1114111))
    · rw [if_pos hb] at hd
      rw [if_neg (by omega)]
      exact dec_of_good _ _ _ hd hl (.inl (by omega))
    · rw [if_neg hb] at hd
      rw [if_pos (by omega)]
      exact dec_of_bad _ hd
theorem val_lt (l : List UInt8) (c : Nat) (hc : c < 64) : ∀ m, m ≤ 3 → val l c m < 64 ^ (m + 1) * 8 := by
  intro m hm
  have g1 := g_lt l 1
  have g2 := g_lt l 2
  have g3 := g_lt l 3
  match m, hm with
  | 0, _ => show c < _; omega
  | 1, _ => show c * 64 + g l 1 - 128 < _; omega
  | 2, _ => show (c * 64 + g l 1 - 128) * 64 + g l 2 - 128 < _; omega
  | 3, _ => show ((c * 64 + g l 1 - 128) * 64 + g l 2 - 128) * 64 + g l 3 - 128 < _; omega
end U
end Go.Proofs.YtalhpihoblhacaaDoor
