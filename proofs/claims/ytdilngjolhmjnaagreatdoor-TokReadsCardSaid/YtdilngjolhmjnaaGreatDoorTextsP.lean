/- The chapter's own answer on a text whose marks are escaped. Plain facts. No conditions but those that each fact names. -/
import Derived.Test.YtdilngjolhmjnaaGreatDoorEscaped
import Derived.Test.YtdilngjolhmjnaaGreatDoorPlainL
namespace Go.Proofs.YtdilngjolhmjnaaGreatDoor
open Go.RowKit Go.Shelf
set_option linter.all false

/-- What stands for one character. -/
def escC (v : Bool) (c : Nat) : List Nat :=
  if c = 60 then [38, 108, 116, 59] else if c = 38 then [38, 97, 109, 112, 59] else if c = 62 then [38, 35, 54, 50, 59] else if c = 34 then [38, 35, 120, 50, 50, 59]
  else if c = 13 then [38, 35, 49, 51, 59] else if v = true ∧ c = 9 then [38, 35, 48, 57, 59] else if v = true ∧ c = 10 then [38, 35, 49, 48, 59] else [c]
def escN (v : Bool) (cs : List Nat) : List Nat := cs.flatMap (escC v)
theorem escN_cons (v : Bool) (c : Nat) (cs : List Nat) : escN v (c :: cs) = escC v c ++ escN v cs := rfl
theorem esc1_high (v : Bool) : ∀ b : UInt8, 128 ≤ b.toNat → esc1 v b = [b] := by
  intro b hb
  have h : ∀ k : UInt8, k.toNat < 128 → ¬ b = k := by
    rintro k hk rfl
    omega
  unfold esc1
  rw [if_neg (h 60 (by decide)), if_neg (h 38 (by decide)), if_neg (h 62 (by decide)), if_neg (h 34 (by decide)), if_neg (h 13 (by decide)), if_neg (fun e => h 9 (by decide) e.2), if_neg (fun e => h 10 (by decide) e.2)]
theorem esc_high (v : Bool) : ∀ l : List UInt8, (∀ b ∈ l, 128 ≤ b.toNat) → esc v l = l
  | [], _ => rfl
  | b :: l, h => by
    show esc1 v b ++ esc v l = b :: l
    rw [esc1_high v b (h b List.mem_cons_self), esc_high v l (fun x hx => h x (List.mem_cons_of_mem _ hx))]
    rfl
theorem esc_low : ∀ c : Nat, c < 128 → ∀ v : Bool, esc v (U.enc c) = U.n8 (escC v c) := by decide +kernel
theorem escC_high (v : Bool) (c : Nat) (h : 128 ≤ c) : escC v c = [c] := by
  unfold escC
  rw [if_neg (by omega), if_neg (by omega), if_neg (by omega), if_neg (by omega), if_neg (by omega), if_neg (by omega), if_neg (by omega)]
theorem esc_n8 (v : Bool) : ∀ cs : List Nat, (∀ c ∈ cs, U.scalar c) → esc v (U.n8 cs) = U.n8 (escN v cs)
  | [], _ => rfl
  | c :: cs, h => by
    rw [U.n8_cons, esc_append, escN_cons, U.n8_append, esc_n8 v cs (fun x hx => h x (List.mem_cons_of_mem _ hx))]
    congr 1
    rcases Nat.lt_or_ge c 128 with hc | hc
    · exact esc_low c hc v
    · have hs := h c List.mem_cons_self
      rw [escC_high v c hc, esc_high v _ (K.enc_high_all hc hs)]
      simp [U.n8]
theorem CF_n8 : ∀ (cs : List Nat) (r : List UInt8) (p : K.Pl) (acc : List Nat), (∀ c ∈ cs, U.scalar c ∧ K.allowed c = true) → CF (U.n8 cs ++ r) p acc = CF r (K.advs p cs) (acc ++ cs)
  | [], r, p, acc, _ => by simp [U.n8, K.advs]
  | c :: cs, r, p, acc, h => by
    obtain ⟨h1, h2⟩ := h c List.mem_cons_self
    have hd := U.dec_enc c (U.n8 cs ++ r) h1
    have hp := U.enc_pos c
    have h13 : c ≠ 13 := by rintro rfl; revert h2; decide
    have hc : ch1 (U.enc c ++ (U.n8 cs ++ r)) = .ok (c, (U.enc c).length) := by
      unfold ch1
      rw [hd, if_neg (by simp only; omega), if_neg h13, if_pos h2]
    rw [U.n8_cons, List.append_assoc, CF_ok (by intro e; rw [List.append_eq_nil_iff] at e; rw [e.1] at hp; simp at hp) hc, List.drop_left, CF_n8 cs r _ _ (fun x hx => h x (List.mem_cons_of_mem _ hx)), List.append_assoc]
    rfl
/-- No mark stands in an escaped text. -/
theorem esc_no62 (v : Bool) : ∀ cs : List Nat, 62 ∉ escN v cs
  | [] => by simp [escN]
  | c :: cs => by
    rw [escN_cons, List.mem_append]
    rintro (h | h)
    · unfold escC at h
      (repeat' split at h) <;> simp at h <;> omega
    · exact esc_no62 v cs h
theorem no_end (c : Nat) (cs r : List Nat) (p : K.Pl) : ¬ K.sees [93, 93, 62] (c :: (escN false cs ++ 60 :: r), p) = true := by
  intro h
  unfold K.sees at h
  have h62 := esc_no62 false cs
  cases hl : escN false cs with
  | nil => rw [hl] at h; simp [List.isPrefixOf] at h
  | cons a l =>
    rw [hl] at h h62
    cases l with
    | nil => simp [List.isPrefixOf] at h
    | cons b l =>
      simp [List.isPrefixOf] at h
      obtain ⟨_, _, rfl⟩ := h
      exact h62 (by simp)
theorem escC_cases (v : Bool) (c : Nat) : (escC v c = [c] ∧ c ≠ 60 ∧ c ≠ 38 ∧ c ≠ 34 ∧ c ≠ 62 ∧ c ≠ 13 ∧ (v = true → c ≠ 9 ∧ c ≠ 10)) ∨ ∃ B, escC v c = 38 :: (B ++ [59]) ∧ (∀ y ∈ B, (y != 59) = true) ∧ K.meant B = some c := by
  by_cases h60 : c = 60
  · subst h60; exact .inr ⟨[108, 116], rfl, by decide, rfl⟩
  by_cases h38 : c = 38
  · subst h38; exact .inr ⟨[97, 109, 112], rfl, by decide, rfl⟩
  by_cases h62 : c = 62
  · subst h62; exact .inr ⟨[35, 54, 50], rfl, by decide, rfl⟩
  by_cases h34 : c = 34
  · subst h34; exact .inr ⟨[35, 120, 50, 50], rfl, by decide, rfl⟩
  by_cases h13 : c = 13
  · subst h13; exact .inr ⟨[35, 49, 51], rfl, by decide, rfl⟩
  by_cases h9 : v = true ∧ c = 9
  · obtain ⟨rfl, rfl⟩ := h9; exact .inr ⟨[35, 48, 57], rfl, by decide, rfl⟩
  by_cases h10 : v = true ∧ c = 10
  · obtain ⟨rfl, rfl⟩ := h10; exact .inr ⟨[35, 49, 48], rfl, by decide, rfl⟩
  refine .inl ⟨?_, h60, h38, h34, h62, h13, fun h => ⟨fun e => h9 ⟨h, e⟩, fun e => h10 ⟨h, e⟩⟩⟩
  unfold escC
  rw [if_neg h60, if_neg h38, if_neg h62, if_neg h34, if_neg h13, if_neg h9, if_neg h10]
theorem ref_body (B r : List Nat) (x : Nat) (p : K.Pl) (hB : ∀ y ∈ B, (y != 59) = true) (hm : K.meant B = some x) : K.reference (38 :: (B ++ 59 :: r), p) = .ok (x, (r, K.advs p (38 :: (B ++ [59])))) := by
  have ht : (B ++ 59 :: r).takeWhile (fun c => c != 59) = B := by
    rw [List.takeWhile_append_of_pos hB]
    simp
  have hr : K.refOf (B ++ 59 :: r) = some (x, B.length + 2) := by
    unfold K.refOf
    rw [ht, if_neg (by simp), hm]
  unfold K.reference
  rw [show (38 :: (B ++ 59 :: r), p).1.tail = B ++ 59 :: r from rfl, hr]
  unfold K.skip
  have h1 : (38 :: (B ++ 59 :: r)).drop (B.length + 2) = r := by
    rw [show 38 :: (B ++ 59 :: r) = (38 :: (B ++ [59])) ++ r by simp, List.drop_left' (by simp)]
  have h2 : (38 :: (B ++ 59 :: r)).take (B.length + 2) = 38 :: (B ++ [59]) := by
    rw [show 38 :: (B ++ 59 :: r) = (38 :: (B ++ [59])) ++ r by simp, List.take_left' (by simp)]
  simp only [h1, h2]
theorem valueF_esc : ∀ (cs r : List Nat) (p : K.Pl) (acc : List Nat) (f : Nat), (escN true cs).length < f →
    K.valueF 34 f (escN true cs ++ 34 :: r, p) acc = .ok (acc ++ cs, (r, K.adv (K.advs p (escN true cs)) 34))
  | [], r, p, acc, 0, hf => by simp at hf
  | [], r, p, acc, f + 1, hf => by
    show K.valueF 34 (f + 1) (34 :: r, p) acc = _
    unfold K.valueF
    rw [if_pos rfl, List.append_nil]
    rfl
  | c :: cs, r, p, acc, 0, hf => by omega
  | c :: cs, r, p, acc, f + 1, hf => by
    rw [escN_cons] at hf ⊢
    rcases escC_cases true c with ⟨e, h60, h38, h34, h62, h13, h9⟩ | ⟨B, e, hB, hm⟩
    · rw [e] at hf ⊢
      show K.valueF 34 (f + 1) (c :: (escN true cs ++ 34 :: r), p) acc = _
      unfold K.valueF
      have hb : (if K.blank c = true then 32 else c) = c := by
        split
        · rename_i hb
          have := h9 rfl
          simp [K.blank] at hb
          omega
        · rfl
      rw [if_neg h34, if_neg h38, if_neg h60, hb, valueF_esc cs r _ _ f (by simp at hf; omega), List.append_assoc]
      rfl
    · have hx : (escC true c ++ escN true cs) ++ 34 :: r = 38 :: (B ++ 59 :: (escN true cs ++ 34 :: r)) := by rw [e]; simp
      rw [hx]
      unfold K.valueF
      rw [if_neg (by decide), if_pos rfl, ref_body B _ c p hB hm]
      simp only
      rw [valueF_esc cs r _ _ f (by rw [e] at hf; simp at hf; omega), List.append_assoc, e, K.advs_append]
      rfl
theorem wordsF_esc : ∀ (cs r : List Nat) (p : K.Pl) (acc : List Nat) (f : Nat), (escN false cs).length < f → 
    K.wordsF f (escN false cs ++ 60 :: r, p) acc = .ok (acc ++ cs, (60 :: r, K.advs p (escN false cs)))
  | [], r, p, acc, 0, hf => by simp at hf
  | [], r, p, acc, f + 1, hf => by
    show K.wordsF (f + 1) (60 :: r, p) acc = _
    unfold K.wordsF
    rw [if_pos rfl, List.append_nil]
    rfl
  | c :: cs, r, p, acc, 0, hf => by omega
  | c :: cs, r, p, acc, f + 1, hf => by
    rw [escN_cons] at hf ⊢
    rcases escC_cases false c with ⟨e, h60, h38, h34, h62, h13, h9⟩ | ⟨B, e, hB, hm⟩
    · rw [e] at hf ⊢
      show K.wordsF (f + 1) (c :: (escN false cs ++ 60 :: r), p) acc = _
      unfold K.wordsF
      rw [if_neg h60, if_neg (no_end c cs r p), if_neg h38, wordsF_esc cs r _ _ f (by simp at hf; omega), List.append_assoc]
      rfl
    · have hx : (escC false c ++ escN false cs) ++ 60 :: r = 38 :: (B ++ 59 :: (escN false cs ++ 60 :: r)) := by rw [e]; simp
      rw [hx]
      unfold K.wordsF
      rw [if_neg (by decide), if_neg (by unfold K.sees; simp [List.isPrefixOf]), if_pos rfl, ref_body B _ c p hB hm]
      simp only
      rw [wordsF_esc cs r _ _ f (by rw [e] at hf; simp at hf; omega), List.append_assoc, e, K.advs_append]
      rfl
end Go.Proofs.YtdilngjolhmjnaaGreatDoor
