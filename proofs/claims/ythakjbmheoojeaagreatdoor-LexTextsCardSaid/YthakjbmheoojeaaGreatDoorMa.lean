/- Units written by their numbers, in quotes, are one lexeme, the units' text. No program. -/
import Derived.Test.YthakjbmheoojeaaGreatDoorL1
namespace Go.Proofs.YthakjbmheoojeaaGreatDoor
set_option linter.all false
namespace X
/-- A digit of sixteen as the statement writes it. -/
def hd (d : Nat) : UInt8 := [48, 49, 50, 51, 52, 53, 54, 55, 56, 57, 97, 66, 99, 68, 101, 70].getD d 0
def hx (b : UInt8) : List UInt8 := [hd (b.toNat / 16), hd (b.toNat % 16)]
def codeOf : List UInt8 → List UInt8
  | a :: b :: r => 92 :: 117 :: (hx a ++ hx b ++ codeOf r)
  | _ => []
theorem hexd_hd : ∀ d, d < 16 → hexd (hd d).toNat = some d := by decide
theorem hexv_4 (a b : UInt8) : hexv (hx a ++ hx b) 0 = some (a.toNat * 256 + b.toNat) := by
  have ha := a.toNat_lt
  have hb := b.toNat_lt
  show hexv [hd (a.toNat / 16), hd (a.toNat % 16), hd (b.toNat / 16), hd (b.toNat % 16)] 0 = _
  simp only [hexv]
  rw [hexd_hd (a.toNat / 16) (by omega), hexd_hd (a.toNat % 16) (by omega), hexd_hd (b.toNat / 16) (by omega), hexd_hd (b.toNat % 16) (by omega)]
  simp only [Option.some.injEq]
  omega
theorem dec_a (b : UInt8) (r : List UInt8) (h : b.toNat < 128) : U.dec (b :: r) = (b.toNat, 1) := U.dec_ascii (b :: r) (by simp) h
theorem be_ab (a b : UInt8) : U.be (a.toNat * 256 + b.toNat) = [a, b] := by
  have hb := b.toNat_lt
  unfold U.be
  rw [show (a.toNat * 256 + b.toNat) / 256 = a.toNat by omega, show (a.toNat * 256 + b.toNat) % 256 = b.toNat by omega, UInt8.ofNat_toNat, UInt8.ofNat_toNat]
theorem coded_4 (a b : UInt8) (r : List UInt8) : coded (117 :: (hx a ++ hx b ++ r)) 4 = some ([a, b], 5) := by
  unfold coded
  have hl : ¬ (117 :: (hx a ++ hx b ++ r)).length < 1 + 4 := by
    show ¬ r.length + 1 + 1 + 1 + 1 + 1 < 5
    omega
  rw [if_neg hl]
  have ht : ((117 :: (hx a ++ hx b ++ r)).drop 1).take 4 = hx a ++ hx b := rfl
  rw [ht, hexv_4]
  show some (U.be (a.toNat * 256 + b.toNat), 5) = _
  rw [be_ab]
theorem escaped_code (a b : UInt8) (r : List UInt8) : escaped (117 :: (hx a ++ hx b ++ r)) = some ([a, b], 5) := by
  unfold escaped
  rw [dec_a 117 _ (by decide), if_neg (by decide), if_neg (by show ¬ (false = true); decide), if_neg (by decide), if_neg (fun h => absurd h.1 (by decide)), if_neg (by show ¬ (false = true); decide), if_neg (by decide), if_pos (by decide), coded_4]
theorem said_code (a b : UInt8) (r : List UInt8) : said (92 :: 117 :: (hx a ++ hx b ++ r)) = some ([a, b], 6) := by
  unfold said
  rw [dec_a 92 _ (by decide), if_neg (by decide), if_pos (by decide)]
  show (escaped (117 :: (hx a ++ hx b ++ r))).map _ = _
  rw [escaped_code]
  rfl
theorem textF_code (q : Nat) (hq : q = 34 ∨ q = 39) (c : UInt8) (hc : c.toNat = q) : ∀ (w : List UInt8), w.length % 2 = 0 → ∀ f, (codeOf w ++ [c]).length ≤ f → textF f q (codeOf w ++ [c]) = some (w, (codeOf w).length + 1)
  | [], _, f, hf => by
    obtain ⟨f, rfl⟩ : ∃ n, f = n + 1 := ⟨f - 1, by have : 1 ≤ f := hf; omega⟩
    show textF (f + 1) q [c] = _
    unfold textF
    rw [if_pos (by exact hc)]
    rfl
  | [_], h, _, _ => by simp at h
  | a :: b :: r, h, f, hf => by
    have hlen : (codeOf (a :: b :: r)).length = 6 + (codeOf r).length := by
      show ((hx a ++ hx b ++ codeOf r).length + 1) + 1 = _
      rw [List.length_append]
      show 4 + _ + 1 + 1 = _
      omega
    rw [List.length_append, hlen] at hf
    simp only [List.length_cons, List.length_nil] at hf h
    obtain ⟨f, rfl⟩ : ∃ n, f = n + 1 := ⟨f - 1, by omega⟩
    have ih := textF_code q hq c hc r (by omega) f (by rw [List.length_append, List.length_singleton]; omega)
    have e : codeOf (a :: b :: r) ++ [c] = 92 :: 117 :: (hx a ++ hx b ++ (codeOf r ++ [c])) := by
      show 92 :: 117 :: (hx a ++ hx b ++ codeOf r ++ [c]) = _
      rw [List.append_assoc (hx a ++ hx b)]
    rw [e]
    unfold textF
    rw [if_neg (by show ¬ 92 = q; omega), said_code]
    show (textF f q (codeOf r ++ [c])).map _ = _
    rw [ih, hlen]
    show some (a :: b :: r, 6 + ((codeOf r).length + 1)) = _
    congr 2
    first | done | omega
theorem gap_quote (c : UInt8) (hc : c.toNat = 34 ∨ c.toNat = 39) (r : List UInt8) : gap (c :: r) = (0, false, true) := by
  have h1 : (c == 47) = false := by
    rw [beq_eq_false_iff_ne]
    rintro rfl
    rcases hc with h | h <;> exact absurd h (by decide)
  have p1 : [47, 47].isPrefixOf (c :: r) = false := by
    show ((47 : UInt8) == c && _) = false
    rw [show ((47 : UInt8) == c) = false by rw [beq_eq_false_iff_ne] at h1 ⊢; exact fun e => h1 e.symm]
    rfl
  have p2 : [47, 42].isPrefixOf (c :: r) = false := by
    show ((47 : UInt8) == c && _) = false
    rw [show ((47 : UInt8) == c) = false by rw [beq_eq_false_iff_ne] at h1 ⊢; exact fun e => h1 e.symm]
    rfl
  unfold gap
  show gapF (r.length + 1 + 1) (c :: r) false = _
  unfold gapF
  rw [p1, p2, dec_a c r (by omega), if_neg (by decide), if_neg (by decide), if_neg]
  rintro ⟨_, h | h⟩
  · rcases hc with e | e <;> rw [e] at h <;> exact absurd h (by decide)
  · rcases hc with e | e <;> rw [e] at h <;> exact absurd h (by decide)
theorem lex_code (num : List UInt8 → Option Nat) (c : UInt8) (hc : c.toNat = 34 ∨ c.toNat = 39) (w : List UInt8) (hw : w.length % 2 = 0) : lex num (c :: (codeOf w ++ [c])) = .ok [⟨4, w, 0, 0, false⟩] := by
  have hg := gap_quote c hc (codeOf w ++ [c])
  have ht := textF_code c.toNat hc c rfl w hw (codeOf w ++ [c]).length.succ (by omega)
  have hf : first num (c :: (codeOf w ++ [c])) = .yes 4 w 0 (1 + ((codeOf w).length + 1)) := by
    unfold first
    have ho : opens (U.g (c :: (codeOf w ++ [c])) 0) = false := by
      show opens c.toNat = false
      rcases hc with e | e <;> rw [e] <;> decide
    rw [ho, if_neg (by decide), if_pos (by exact hc)]
    unfold text
    show (match textF (codeOf w ++ [c]).length.succ c.toNat (codeOf w ++ [c]) with | none => Ans.no | some (u, n) => .yes 4 u 0 (1 + n)) = _
    rw [ht]
  unfold lex
  show lexF num ((codeOf w ++ [c]).length + 1 + 1) (c :: (codeOf w ++ [c])) 0 = _
  unfold lexF
  rw [hg, if_neg (by decide), if_neg (by simp)]
  show (match first num (c :: (codeOf w ++ [c])) with | .unknown => Out.unknown | .no => .fault 0 | .yes k t v n => match lexF num ((codeOf w ++ [c]).length + 1) ((c :: (codeOf w ++ [c])).drop (0 + n)) (0 + 0 + n) with | .ok r => Out.ok (⟨k, t, v, 0, false⟩ :: r) | o => o) = _
  rw [hf]
  have hd : (c :: (codeOf w ++ [c])).drop (0 + (1 + ((codeOf w).length + 1))) = [] := by
    apply List.drop_eq_nil_of_le
    simp only [List.length_cons, List.length_append, List.length_nil]
    omega
  show (match lexF num ((codeOf w ++ [c]).length + 1) ((c :: (codeOf w ++ [c])).drop (0 + (1 + ((codeOf w).length + 1)))) (0 + 0 + (1 + ((codeOf w).length + 1))) with | .ok r => Out.ok (⟨4, w, 0, 0, false⟩ :: r) | o => o) = _
  rw [hd]
  rfl
end X
end Go.Proofs.YthakjbmheoojeaaGreatDoor
