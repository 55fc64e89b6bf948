/- awake: the lexemes of two scripts. Conditions: those that each theorem names. Units written by their numbers, in quotes, are one lexeme, the units' text. No program. The statement LexTexts: a text of numbered units is told as it is. Conditions: those that each theorem names. The statement LexMoves: a blank ahead moves all lexemes, and the place of a fault, by one. Conditions: those that each theorem names. -/
import Derived.Test.YtelphbcdjfdjpaaGreatDoorZ19
import Derived.Test.YtelphbcdjfdjpaaGreatDoorZ26
import Derived.Test.YtelphbcdjfdjpaaGreatDoorZ1
import Derived.Test.YtelphbcdjfdjpaaGreatDoorZ25
namespace Go.Proofs.YtelphbcdjfdjpaaGreatDoor
open Go.RowKit
set_option linter.all false

theorem own_cell {w : World} {g m : Nat} {cur : Array Value} {e : TypeId} {fr : Nat × Nat} {xs : List Value} (h : w.heap[g]? = some (.cells cur e fr)) (ht : cur.toList.take m = xs) (i : Nat) (hi : i < m) (v : Value) (hv : xs[i]? = some v) : w.cell? ⟨g, i, none⟩ = some v := by
  rw [Lib.cell_of_heap h, ← hv, ← ht, List.getElem?_take, if_pos hi, Array.getElem?_toList]

def d1 : List X.Lx := [⟨1, [97, 49], 0, 0, false⟩, ⟨5, [43, 61], 0, 2, false⟩, ⟨3, [], b31, 4, false⟩, ⟨4, [0, 65], 0, 15, true⟩]
def Four (g b : Nat) (w : World) : Prop :=
    w.cell? ⟨g, 1, none⟩ = some (.string ⟨#[97, 49]⟩) ∧ w.cell? ⟨g, 6, none⟩ = some (.string ⟨#[43, 61]⟩) ∧ w.cell? ⟨g, 12, none⟩ = some (.float .f64 b) ∧ w.cell? ⟨g, 19, none⟩ = some (.bool true) ∧ w.cell? ⟨g, 16, none⟩ = some (.string ⟨#[0, 65]⟩)
theorem lst_four {B : Nat} {lv : Value} {w : World} (h : Lst B d1 lv w) : ∃ g cap, lv = .slice (some ⟨g, 0, none⟩) 4 cap ∧ ∀ w', Below w.heap.size w w' → Four g b31 w' := by
  rcases h.2 with hn | ⟨g, cap, cur, hv, hg, hh, rest⟩
  · exact absurd hn.2 (by decide)
  · refine ⟨g, cap, hv, fun w' hb => ?_⟩
    have hh2 := Below.keep hb hh
    refine ⟨?_, ?_, ?_, ?_, ?_⟩ <;> exact own_cell hh2 rest.2.2.2 _ (by decide) _ (by kernel_rfl)

set_option maxHeartbeats 4000000 in
theorem awake_any (N : Nat) (w : World) (hl : Low N w) :
    Calls Tryz.prog 9 #[] w fun e w' => e = .returned (.bool true) ∧ Below w.heap.size w w' := by
  have h1 : ∀ W, Low N W → Calls Tryz.prog 10 #[.string ⟨#[97, 49, 43, 61, 48, 120, 49, 70, 32, 47, 42, 10, 42, 47, 32, 34, 92, 120, 52, 49, 34]⟩] W fun e w' => (∃ g cap, e = .returned (.tuple #[.slice (some ⟨g, 0, none⟩) 4 cap, .int .i64 0, .int .i64 0]) ∧ ∀ w2, Below w'.heap.size w' w2 → Four g b31 w2) ∧ Below W.heap.size W w' := by
    intro W hW
    have h := lex_any X.hexNum N (numOk_hex N) [97, 49, 43, 61, 48, 120, 49, 70, 32, 47, 42, 10, 42, 47, 32, 34, 92, 120, 52, 49, 34] (by decide) (by rw [try1]; intro h; cases h) W hW
    rw [try1] at h
    refine h.mono ?_
    rintro e w' ⟨⟨lv, rfl, hls⟩, hb⟩
    obtain ⟨g, cap, rfl, h4⟩ := lst_four hls
    exact ⟨⟨g, cap, rfl, h4⟩, hb⟩
  have h2 : ∀ W, Low N W → Calls Tryz.prog 10 #[.string ⟨#[120, 32, 48, 49]⟩] W fun e w' => e = .returned (.tuple #[.slice none 0 0, .int .i64 2, .int .i64 50]) ∧ Below W.heap.size W w' := by
    intro W hW
    have h := lex_any X.hexNum N (numOk_hex N) [120, 32, 48, 49] (by decide) (by rw [try2]; intro h; cases h) W hW
    rw [try2] at h
    exact h
  have h3 : ∀ W, Low N W → Calls Tryz.prog 13 #[.string ⟨#[105, 102]⟩] W fun e w' => e = .returned (.bool true) ∧ W = w' := fun W hW => word_any N [105, 102] (by decide) W hW.words
  have h4 : ∀ W, Low N W → Calls Tryz.prog 15 #[.string ⟨#[105, 102]⟩] W fun e w' => e = .returned (.bool false) ∧ W = w' := fun W hW => nameF_any N [105, 102] (by decide) W hW.words
  have hfl : (FloatKind.f64.format.order b31 4629418941960159232 == some Ordering.eq) = true := by kernel_rfl
  have hB := hl.size
  generalize b31 = b at h1 hfl
  have H3 := Lib.hid h3
  have H4 := Lib.hid h4
  have HL := Lib.hid hl
  clear h3 h4 hl
  go_enter Tryz.func9, Tryz.ntmps9
  go_wp2_with (first
    | ((with_reducible refine (h1 _ HL.out).mono ?_); rintro e w1 ⟨⟨g, cap, rfl, hfo⟩, hb1⟩; have HL1 := Lib.hid (HL.out.below hb1 hB); have HF := Lib.hid hfo; have HB1 := Lib.hid hb1; clear hfo hb1)
    | ((with_reducible refine (h2 _ HL1.out).mono ?_); rintro e w2 ⟨rfl, hb2⟩; obtain ⟨c1, c2, c3, c4, c5⟩ := HF.out _ hb2; have HB2 := Lib.hid hb2; have HL2 := Lib.hid (HL1.out.bel hb2); clear hb2)
    | ((with_reducible refine (H3.out _ HL2.out).mono ?_); rintro e w3 ⟨rfl, rfl⟩)
    | ((with_reducible refine (H4.out _ HL2.out).mono ?_); rintro e w3 ⟨rfl, rfl⟩))
  go_ret
  exact ⟨rfl, HB1.out.trans (HB2.out.mono HB1.out.size)⟩
end Go.Proofs.YtelphbcdjfdjpaaGreatDoor
namespace Go.Proofs.YtelphbcdjfdjpaaGreatDoor
set_option linter.all false
namespace X
/-- A digit of sixteen as the statement writes it. -/
def hd (d : Nat) : UInt8 := [48, 49, 50, 51, 52, 53, 54, 55, 56, 57, 97, 66, 99, 68, 101, 70].getD d 0
def hx (b : UInt8) : List UInt8 := [hd (b.toNat / 16), hd (b.toNat % 16)]
def codeOf : List UInt8 → List UInt8
  | a :: b :: r => 92 :: 117 :: (hx a ++ hx b ++ codeOf r)
  | _ => []
theorem hexd_hd : ∀ d, d < 16 → hexd (hd d).toNat = some d := by decide
theorem hexv_4 (a b : UInt8) : hexv (hx a ++ hx b) 0 = some (a.toNat * 256 + b.toNat) := by
  have ha := a.toNat_lt
  have hb := b.toNat_lt
  show hexv [hd (a.toNat / 16), hd (a.toNat % 16), hd (b.toNat / 16), hd (b.toNat % 16)] 0 = _
  simp only [hexv]
  rw [hexd_hd (a.toNat / 16) (by omega), hexd_hd (a.toNat % 16) (by omega), hexd_hd (b.toNat / 16) (by omega), hexd_hd (b.toNat % 16) (by omega)]
  simp only [Option.some.injEq]
  omega
theorem dec_a (b : UInt8) (r : List UInt8) (h : b.toNat < 128) : U.dec (b :: r) = (b.toNat, 1) := U.dec_ascii (b :: r) (by simp) h
theorem be_ab (a b : UInt8) : U.be (a.toNat * 256 + b.toNat) = [a, b] := by
  have hb := b.toNat_lt
  unfold U.be
  rw [show (a.toNat * 256 + b.toNat) / 256 = a.toNat by omega, show (a.toNat * 256 + b.toNat) % 256 = b.toNat by omega, UInt8.ofNat_toNat, UInt8.ofNat_toNat]
theorem coded_4 (a b : UInt8) (r : List UInt8) : coded (117 :: (hx a ++ hx b ++ r)) 4 = some ([a, b], 5) := by
  unfold coded
  have hl : ¬ (117 :: (hx a ++ hx b ++ r)).length < 1 + 4 := by
    show ¬ r.length + 1 + 1 + 1 + 1 + 1 < 5
    omega
  rw [if_neg hl]
  have ht : ((117 :: (hx a ++ hx b ++ r)).drop 1).take 4 = hx a ++ hx b := rfl
  rw [ht, hexv_4]
  show some (U.be (a.toNat * 256 + b.toNat), 5) = _
  rw [be_ab]
theorem escaped_code (a b : UInt8) (r : List UInt8) : escaped (117 :: (hx a ++ hx b ++ r)) = some ([a, b], 5) := by
  unfold escaped
  rw [dec_a 117 _ (by decide), if_neg (by decide), if_neg (by show ¬ (false = true); decide), if_neg (by decide), if_neg (fun h => absurd h.1 (by decide)), if_neg (by show ¬ (false = true); decide), if_neg (by decide), if_pos (by decide), coded_4]
theorem said_code (a b : UInt8) (r : List UInt8) : said (92 :: 117 :: (hx a ++ hx b ++ r)) = some ([a, b], 6) := by
  unfold said
  rw [dec_a 92 _ (by decide), if_neg (by decide), if_pos (by decide)]
  show (escaped (117 :: (hx a ++ hx b ++ r))).map _ = _
  rw [escaped_code]
  rfl
theorem textF_code (q : Nat) (hq : q = 34 ∨ q = 39) (c : UInt8) (hc : c.toNat = q) : ∀ (w : List UInt8), w.length % 2 = 0 → ∀ f, (codeOf w ++ [c]).length ≤ f → textF f q (codeOf w ++ [c]) = some (w, (codeOf w).length + 1)
  | [], _, f, hf => by
    obtain ⟨f, rfl⟩ : ∃ n, f = n + 1 := ⟨f - 1, by have : 1 ≤ f := hf; omega⟩
    show textF (f + 1) q [c] = _
    unfold textF
    rw [if_pos (by exact hc)]
    rfl
  | [_], h, _, _ => by simp at h
  | a :: b :: r, h, f, hf => by
    have hlen : (codeOf (a :: b :: r)).length = 6 + (codeOf r).length := by
      show ((hx a ++ hx b ++ codeOf r).length + 1) + 1 = _
      rw [List.length_append]
      show 4 + _ + 1 + 1 = _
      omega
    rw [List.length_append, hlen] at hf
    simp only [List.length_cons, List.length_nil] at hf h
    obtain ⟨f, rfl⟩ : ∃ n, f = n + 1 := ⟨f - 1, by omega⟩
    have ih := textF_code q hq c hc r (by omega) f (by rw [List.length_append, List.length_singleton]; omega)
    have e : codeOf (a :: b :: r) ++ [c] = 92 :: 117 :: (hx a ++ hx b ++ (codeOf r ++ [c])) := by
      show 92 :: 117 :: (hx a ++ hx b ++ codeOf r ++ [c]) = _
      rw [List.append_assoc (hx a ++ hx b)]
    rw [e]
    unfold textF
    rw [if_neg (by show ¬ 92 = q; omega), said_code]
    show (textF f q (codeOf r ++ [c])).map _ = _
    rw [ih, hlen]
    show some (a :: b :: r, 6 + ((codeOf r).length + 1)) = _
    congr 2
    first | done | omega
theorem gap_quote (c : UInt8) (hc : c.toNat = 34 ∨ c.toNat = 39) (r : List UInt8) : gap (c :: r) = (0, false, true) := by
  have h1 : (c == 47) = false := by
    rw [beq_eq_false_iff_ne]
    rintro rfl
    rcases hc with h | h <;> exact absurd h (by decide)
  have p1 : [47, 47].isPrefixOf (c :: r) = false := by
    show ((47 : UInt8) == c && _) = false
    rw [show ((47 : UInt8) == c) = false by rw [beq_eq_false_iff_ne] at h1 ⊢; exact fun e => h1 e.symm]
    rfl
  have p2 : [47, 42].isPrefixOf (c :: r) = false := by
    show ((47 : UInt8) == c && _) = false
    rw [show ((47 : UInt8) == c) = false by rw [beq_eq_false_iff_ne] at h1 ⊢; exact fun e => h1 e.symm]
    rfl
  unfold gap
  show gapF (r.length + 1 + 1) (c :: r) false = _
  unfold gapF
  rw [p1, p2, dec_a c r (by omega), if_neg (by decide), if_neg (by decide), if_neg]
  rintro ⟨_, h | h⟩
  · rcases hc with e | e <;> rw [e] at h <;> exact absurd h (by decide)
  · rcases hc with e | e <;> rw [e] at h <;> exact absurd h (by decide)
theorem lex_code (num : List UInt8 → Option Nat) (c : UInt8) (hc : c.toNat = 34 ∨ c.toNat = 39) (w : List UInt8) (hw : w.length % 2 = 0) : lex num (c :: (codeOf w ++ [c])) = .ok [⟨4, w, 0, 0, false⟩] := by
  have hg := gap_quote c hc (codeOf w ++ [c])
  have ht := textF_code c.toNat hc c rfl w hw (codeOf w ++ [c]).length.succ (by omega)
  have hf : first num (c :: (codeOf w ++ [c])) = .yes 4 w 0 (1 + ((codeOf w).length + 1)) := by
    unfold first
    have ho : opens (U.g (c :: (codeOf w ++ [c])) 0) = false := by
      show opens c.toNat = false
      rcases hc with e | e <;> rw [e] <;> decide
    rw [ho, if_neg (by decide), if_pos (by exact hc)]
    unfold text
    show (match textF (codeOf w ++ [c]).length.succ c.toNat (codeOf w ++ [c]) with | none => Ans.no | some (u, n) => .yes 4 u 0 (1 + n)) = _
    rw [ht]
  unfold lex
  show lexF num ((codeOf w ++ [c]).length + 1 + 1) (c :: (codeOf w ++ [c])) 0 = _
  unfold lexF
  rw [hg, if_neg (by decide), if_neg (by simp)]
  show (match first num (c :: (codeOf w ++ [c])) with | .unknown => Out.unknown | .no => .fault 0 | .yes k t v n => match lexF num ((codeOf w ++ [c]).length + 1) ((c :: (codeOf w ++ [c])).drop (0 + n)) (0 + 0 + n) with | .ok r => Out.ok (⟨k, t, v, 0, false⟩ :: r) | o => o) = _
  rw [hf]
  have hd : (c :: (codeOf w ++ [c])).drop (0 + (1 + ((codeOf w).length + 1))) = [] := by
    apply List.drop_eq_nil_of_le
    simp only [List.length_cons, List.length_append, List.length_nil]
    omega
  show (match lexF num ((codeOf w ++ [c]).length + 1) ((c :: (codeOf w ++ [c])).drop (0 + (1 + ((codeOf w).length + 1)))) (0 + 0 + (1 + ((codeOf w).length + 1))) with | .ok r => Out.ok (⟨4, w, 0, 0, false⟩ :: r) | o => o) = _
  rw [hd]
  rfl
end X
end Go.Proofs.YtelphbcdjfdjpaaGreatDoor
namespace Go.Proofs.YtelphbcdjfdjpaaGreatDoor
open Go.RowKit
set_option linter.all false

theorem dig : ∀ k, k < 16 → (ByteArray.extract ⟨#[48, 49, 50, 51, 52, 53, 54, 55, 56, 57, 97, 66, 99, 68, 101, 70]⟩ k (k + 1)) = bs [X.hd k] := by
  intro k hk
  rcases (by omega : k = 0 ∨ k = 1 ∨ k = 2 ∨ k = 3 ∨ k = 4 ∨ k = 5 ∨ k = 6 ∨ k = 7 ∨ k = 8 ∨ k = 9 ∨ k = 10 ∨ k = 11 ∨ k = 12 ∨ k = 13 ∨ k = 14 ∨ k = 15) with rfl | rfl | rfl | rfl | rfl | rfl | rfl | rfl | rfl | rfl | rfl | rfl | rfl | rfl | rfl | rfl <;> kernel_rfl
theorem bs_app (a b : List UInt8) : bs a ++ bs b = bs (a ++ b) := by
  apply ByteArray.ext
  show (bs a ++ bs b).data = (a ++ b).toArray
  simp [bs, ByteArray.data_append]
set_option maxHeartbeats 4000000 in
theorem hex_any (n : Nat) (h : n < 256) (w : World) : Calls Tryz.prog 17 #[.int .u8 (n : Int)] w fun e w' => e = .returned (.string (bs [X.hd (n / 16), X.hd (n % 16)])) ∧ ∃ m, w' = w.drewN m := by
  have e1 : IntKind.u8.wrap ((n : Int) / 16 + 1) = (n : Int) / 16 + 1 := IntWalk.u8_in _ (by omega)
  have e2 : IntKind.u8.wrap ((n : Int) % 16 + 1) = (n : Int) % 16 + 1 := IntWalk.u8_in _ (by omega)
  have e0 : IntKind.u8.wrap ((n : Int) / 16) = (n : Int) / 16 := IntWalk.u8_in _ (by omega)
  have e3 : IntKind.u8.wrap ((n : Int) % 16) = (n : Int) % 16 := IntWalk.u8_in _ (by omega)
  have g1 : 0 ≤ (n : Int) / 16 := by omega
  have g2 : (n : Int) / 16 ≤ (n : Int) / 16 + 1 := by omega
  have g3 : (n : Int) / 16 + 1 ≤ 16 := by omega
  have k1 : 0 ≤ (n : Int) % 16 := by omega
  have k2 : (n : Int) % 16 ≤ (n : Int) % 16 + 1 := by omega
  have k3 : (n : Int) % 16 + 1 ≤ 16 := by omega
  have hsz : ByteArray.size ⟨#[48, 49, 50, 51, 52, 53, 54, 55, 56, 57, 97, 66, 99, 68, 101, 70]⟩ = 16 := rfl
  go_enter Tryz.func17, Tryz.ntmps17
  go_wp2
  go_quiet (fail)
  go_wp2
  go_ret
  refine ⟨?_, _, rfl⟩
  show Ending.returned (.string (ByteArray.extract ⟨#[48, 49, 50, 51, 52, 53, 54, 55, 56, 57, 97, 66, 99, 68, 101, 70]⟩ (n / 16) (n / 16 + 1) ++ ByteArray.extract ⟨#[48, 49, 50, 51, 52, 53, 54, 55, 56, 57, 97, 66, 99, 68, 101, 70]⟩ (n % 16) (n % 16 + 1))) = _
  rw [dig (n / 16) (by omega), dig (n % 16) (by omega), bs_app]
  rfl
end Go.Proofs.YtelphbcdjfdjpaaGreatDoor
namespace Go.Proofs.YtelphbcdjfdjpaaGreatDoor
open Go.RowKit
set_option linter.all false

theorem gapF_le : ∀ (f : Nat) (l : List UInt8) (ln : Bool), (X.gapF f l ln).1 ≤ l.length
  | 0, l, ln => Nat.zero_le _
  | f + 1, l, ln => by
    rw [gap_step]
    split
    · have h1 : (X.short l).1 ≤ l.length := shortF_le _ _
      split
      · have h2 := gapF_le f (l.drop (X.short l).1) ln
        rw [List.length_drop] at h2
        show (X.short l).1 + _ ≤ _
        omega
      · exact h1
    split
    · cases hg : X.long l with
      | none => exact Nat.zero_le _
      | some q =>
        obtain ⟨n, b⟩ := q
        have h1 := long_some hg
        have h2 := gapF_le f (l.drop n) (ln || b)
        rw [List.length_drop] at h2
        show n + _ ≤ _
        omega
    split
    · have h1 := U.dec_le l
      have h2 := gapF_le f (l.drop (U.dec l).2) (ln || X.ends (U.dec l).1)
      rw [List.length_drop] at h2
      show (U.dec l).2 + _ ≤ _
      omega
    · exact Nat.zero_le _
theorem gap_le (l : List UInt8) : (X.gap l).1 ≤ l.length := gapF_le _ _ _
theorem fault_le (num : List UInt8 → Option Nat) : ∀ (f : Nat) (l : List UInt8) (p q : Nat), X.lexF num f l p = .fault q → q ≤ p + l.length
  | 0, l, p, q, h => by cases h
  | f + 1, l, p, q, h => by
    have hg := gap_le l
    rw [lexF_step] at h
    split at h
    · cases h; omega
    split at h
    · cases h
    rename_i hne
    have hpos : 0 < (l.drop (X.gap l).1).length := List.length_pos_iff.2 hne
    cases hf : X.first num (l.drop (X.gap l).1) with
    | unknown => rw [hf] at h; cases h
    | no => rw [hf] at h; cases h; omega
    | yes k t v n =>
      rw [hf] at h
      simp only at h
      have hn := first_some hpos hf
      rw [List.length_drop] at hpos hn
      cases hr : X.lexF num f (l.drop ((X.gap l).1 + n)) (p + (X.gap l).1 + n) with
      | ok r => rw [hr] at h; cases h
      | unknown => rw [hr] at h; cases h
      | fault q' =>
        rw [hr] at h
        cases h
        have := fault_le num f _ _ _ hr
        rw [List.length_drop] at this
        omega
theorem stands_len (s : List UInt8) : ∀ (r : List X.Lx) (p : Nat), Stands s p r → r.length ≤ s.length - p
  | [], _, _ => Nat.zero_le _
  | x :: r, p, H => by
    have ih := stands_len s r _ H.2.2.2.2
    have h1 := H.1
    have h2 := H.2.1
    rw [List.length_cons]
    omega
theorem lxsCells_get : ∀ (l : List X.Lx) (i : Nat) (x : X.Lx), l[i]? = some x → ∀ j, j < 5 → (lxsCells l)[i * 5 + j]? = (lxCells x)[j]?
  | [], i, x, h, j, hj => by simp at h
  | y :: l, 0, x, h, j, hj => by
    simp only [List.getElem?_cons_zero, Option.some.injEq] at h
    subst h
    show (lxCells y ++ lxsCells l)[0 * 5 + j]? = _
    rw [Nat.zero_mul, Nat.zero_add, List.getElem?_append_left (by show j < 5; exact hj)]
  | y :: l, i + 1, x, h, j, hj => by
    have ih := lxsCells_get l i x (by simpa using h) j hj
    show (lxCells y ++ lxsCells l)[(i + 1) * 5 + j]? = _
    rw [List.getElem?_append_right (by show 5 ≤ _; omega), ← ih]
    congr 1
    show (i + 1) * 5 + j - 5 = _
    omega
/-- A lexeme in memory. -/
structure LxAt (g i : Nat) (x : X.Lx) (w : World) : Prop where
  kind : w.cell? ⟨g, i * 5, none⟩ = some (.int .i64 (x.kind : Int))
  text : w.cell? ⟨g, i * 5 + 1, none⟩ = some (.string (bs x.text))
  num : w.cell? ⟨g, i * 5 + 2, none⟩ = some (.float .f64 x.num)
  place : w.cell? ⟨g, i * 5 + 3, none⟩ = some (.int .i64 (x.place : Int))
  line : w.cell? ⟨g, i * 5 + 4, none⟩ = some (.bool x.line)
theorem Lst.form {B : Nat} {l : List X.Lx} {lv : Value} {w : World} (h : Lst B l lv w) : l.length ≤ maxLen ∧ ∃ p cap, lv = .slice p l.length cap ∧ (l ≠ [] → ∃ g, p = some ⟨g, 0, none⟩ ∧ ∀ w', Below w.heap.size w w' → ∀ i x, l[i]? = some x → LxAt g i x w') := by
  rcases h.2 with ⟨h1, h2⟩ | ⟨g, cap, cur, hv, hg, hh, hnc, hcm, hcs, htake⟩
  · refine ⟨by rw [h2]; exact Nat.zero_le _, none, 0, by rw [h1, h2], fun hne => absurd (List.eq_nil_of_length_eq_zero h2) hne⟩
  · refine ⟨Nat.le_trans hnc hcm, some ⟨g, 0, none⟩, cap, hv, fun hne => ⟨g, rfl, fun w' hb i x hx => ?_⟩⟩
    have hh2 := Below.keep hb hh
    have hi : i < l.length := by
      rcases Nat.lt_or_ge i l.length with h' | h'
      · exact h'
      · rw [List.getElem?_eq_none h'] at hx; cases hx
    have key : ∀ j, j < 5 → ∀ v, (lxCells x)[j]? = some v → w'.cell? ⟨g, i * 5 + j, none⟩ = some v := fun j hj v hv => own_cell hh2 htake (i * 5 + j) (by omega) v (by rw [lxsCells_get l i x hx j hj]; exact hv)
    exact ⟨key 0 (by omega) _ rfl, key 1 (by omega) _ rfl, key 2 (by omega) _ rfl, key 3 (by omega) _ rfl, key 4 (by omega) _ rfl⟩
theorem blank_cons (s : List UInt8) : (⟨#[32]⟩ : ByteArray) ++ bs s = bs (32 :: s) := by
  exact bs_app [32] s
set_option maxHeartbeats 4000000 in
theorem law_moves_long (N : Nat) (s : List UInt8) (hs : 8000 < s.length) (hl : s.length ≤ 140737488355328) (w : World) (hw : Low N w) :
    Calls Tryz.prog 8 #[.string (bs s)] w fun e w' => e = .returned (.bool true) ∧ Below w.heap.size w w' := by
  have haw := awake_any N w hw
  have hsz := bs_size s
  have e1 : (8000 : Int) < ((bs s).size : Int) := by omega
  have e2 : (bs s).size ≤ 140737488355328 := by omega
  clear hw hsz hs hl
  generalize bs s = S at *
  go_enter Tryz.func8, Tryz.ntmps8
  go_wp2_with ((with_reducible refine haw.mono ?_); rintro e w1 ⟨rfl, hb1⟩)
  go_ret
  exact ⟨rfl, hb1⟩
set_option maxHeartbeats 4000000 in
theorem law_moves_fault (N : Nat) (s : List UInt8) (hs : s.length ≤ 8000) (p : Nat) (hp : X.lex numAll s = .fault p) (w : World) (hw : Low N w) :
    Calls Tryz.prog 8 #[.string (bs s)] w fun e w' => e = .returned (.bool true) ∧ Below w.heap.size w w' := by
  have haw := awake_any N w hw
  have hsz := bs_size s
  have hple : p ≤ 8000 := by
    have := fault_le numAll _ _ _ _ hp
    omega
  have hA : ∀ W, Low N W → Calls Tryz.prog 10 #[.string (bs s)] W fun e w' => e = .returned (.tuple #[.slice none 0 0, .int .i64 (p : Int), .int .i64 50]) ∧ Below W.heap.size W w' := by
    intro W hW
    have := lex_all N s (by omega) W hW
    rw [hp] at this
    exact this
  have hB : ∀ W, Low N W → Calls Tryz.prog 10 #[.string ((⟨#[32]⟩ : ByteArray) ++ bs s)] W fun e w' => e = .returned (.tuple #[.slice none 0 0, .int .i64 ((p : Int) + 1), .int .i64 50]) ∧ Below W.heap.size W w' := by
    intro W hW
    have := lex_all N (32 :: s) (by simp; omega) W hW
    rw [lex_blank numAll_total, hp] at this
    rw [blank_cons]
    exact this
  have HW := Lib.hid hw
  have e1 : ¬ (8000 : Int) < ((bs s).size : Int) := by omega
  have e2 : (bs s).size ≤ 8000 := by omega
  have e3 : IntKind.i64.wrap ((p : Int) + 1) = (p : Int) + 1 := IntWalk.i64_in _ (by omega)
  have HA := Lib.hid hA
  have HB := Lib.hid hB
  clear hw hsz hs hA hB hp
  generalize bs s = S at *
  go_enter Tryz.func8, Tryz.ntmps8
  go_wp2_with (first
    | ((with_reducible refine haw.mono ?_); rintro e w1 ⟨rfl, hb1⟩; have HB1 := Lib.hid hb1; have HL1 := Lib.hid (HW.out.bel hb1); clear hb1)
    | ((with_reducible refine (HA.out _ HL1.out).mono ?_); rintro e w2 ⟨rfl, hb2⟩; have HB2 := Lib.hid (HB1.out.trans (hb2.mono HB1.out.size)); have HL2 := Lib.hid (HL1.out.bel hb2); clear hb2)
    | ((with_reducible refine (HB.out _ HL2.out).mono ?_); rintro e w3 ⟨rfl, hb3⟩; have HB3 := Lib.hid (HB2.out.trans (hb3.mono HB2.out.size)); clear hb3)
    | fail)
  go_loopg [9, 50] 0 (fun g v9 v50 wr => v50 = .int .i64 0 ∧ wr = w3)
  case atStart => exact ⟨rfl, rfl⟩
  case round =>
    obtain ⟨rfl, rfl⟩ := hrel
    go_wp2
    go_ret
    exact ⟨rfl, HB3.out⟩
set_option maxHeartbeats 4000000 in
set_option maxRecDepth 100000 in
theorem law_moves_ok (N : Nat) (s : List UInt8) (hs : s.length ≤ 8000) (L : List X.Lx) (hp : X.lex numAll s = .ok L) (w : World) (hw : Low N w) :
    Calls Tryz.prog 8 #[.string (bs s)] w fun e w' => e = .returned (.bool true) ∧ Below w.heap.size w w' := by
  have haw := awake_any N w hw
  have hsz := bs_size s
  have hst := lexF_stands numAll s _ 0 L (show X.lexF numAll (s.length + 1) (s.drop 0) 0 = .ok L from hp)
  have hA : ∀ W, Low N W → Calls Tryz.prog 10 #[.string (bs s)] W fun e w' => (∃ p cap, e = .returned (.tuple #[.slice p L.length cap, .int .i64 0, .int .i64 0]) ∧ L.length ≤ maxLen ∧ (L ≠ [] → ∃ g, p = some ⟨g, 0, none⟩ ∧ ∀ w2, Below w'.heap.size w' w2 → ∀ i x, L[i]? = some x → LxAt g i x w2)) ∧ Below W.heap.size W w' := by
    intro W hW
    have := lex_all N s (by omega) W hW
    rw [hp] at this
    refine this.mono ?_
    rintro e w' ⟨⟨lv, rfl, hls⟩, hb⟩
    obtain ⟨h1, p, cap, rfl, h2⟩ := hls.form
    exact ⟨⟨p, cap, rfl, h1, h2⟩, hb⟩
  have hB : ∀ W, Low N W → Calls Tryz.prog 10 #[.string ((⟨#[32]⟩ : ByteArray) ++ bs s)] W fun e w' => (∃ p cap, e = .returned (.tuple #[.slice p L.length cap, .int .i64 0, .int .i64 0]) ∧ (L ≠ [] → ∃ g, p = some ⟨g, 0, none⟩ ∧ ∀ w2, Below w'.heap.size w' w2 → ∀ i x, L[i]? = some x → LxAt g i (moveX 1 x) w2)) ∧ Below W.heap.size W w' := by
    intro W hW
    have := lex_all N (32 :: s) (by simp; omega) W hW
    rw [lex_blank numAll_total, hp] at this
    rw [blank_cons]
    refine this.mono ?_
    rintro e w' ⟨⟨lv, rfl, hls⟩, hb⟩
    obtain ⟨h1, p, cap, rfl, h2⟩ := hls.form
    rw [List.length_map]
    refine ⟨⟨p, cap, rfl, fun hne => ?_⟩, hb⟩
    obtain ⟨g, hg, hc⟩ := h2 (by simpa using hne)
    exact ⟨g, hg, fun w2 hb2 i x hx => hc w2 hb2 i (moveX 1 x) (by rw [List.getElem?_map, hx]; rfl)⟩
  have hpl : ∀ (i : Nat) (x : X.Lx), L[i]? = some x → x.place < s.length := by
    have : ∀ (r : List X.Lx) (q : Nat), Stands s q r → ∀ (i : Nat) (x : X.Lx), r[i]? = some x → x.place < s.length := by
      intro r
      induction r with
      | nil => intro q _ i x h; simp at h
      | cons y r ih =>
        intro q H i x h
        cases i with
        | zero => simp at h; subst h; exact H.2.1
        | succ i => exact ih _ H.2.2.2.2 i x (by simpa using h)
    exact this L 0 hst
  have hLn := stands_len s L 0 hst
  have HW := Lib.hid hw
  have HPL := Lib.hid hpl
  have e1 : ¬ (8000 : Int) < ((bs s).size : Int) := by omega
  have e2 : (bs s).size ≤ 8000 := by omega
  have HA := Lib.hid hA
  have HB := Lib.hid hB
  have HS := Lib.hid hs
  clear hw hsz hs hA hB hp hst hpl
  generalize bs s = S at *
  go_enter Tryz.func8, Tryz.ntmps8
  go_wp2_with (first
    | ((with_reducible refine haw.mono ?_); rintro e w1 ⟨rfl, hb1⟩; have HB1 := Lib.hid hb1; have HL1 := Lib.hid (HW.out.bel hb1); clear hb1)
    | ((with_reducible refine (HA.out _ HL1.out).mono ?_); rintro e w2 ⟨⟨p1, cap1, rfl, hmax, hc1⟩, hb2⟩; have HC1 := Lib.hid hc1; have HMX := Lib.hid hmax; have HB2 := Lib.hid (HB1.out.trans (hb2.mono HB1.out.size)); have HL2 := Lib.hid (HL1.out.bel hb2); clear hb2 hc1 hmax)
    | ((with_reducible refine (HB.out _ HL2.out).mono ?_); rintro e w3 ⟨⟨p2, cap2, rfl, hc2⟩, hb3⟩; have HC2 := Lib.hid hc2; have HB3 := Lib.hid (HB2.out.trans (hb3.mono HB2.out.size)); have HB4 := Lib.hid hb3; clear hb3 hc2)
    | fail)
  obtain ⟨n, hn⟩ : ∃ n, n = L.length := ⟨_, rfl⟩
  rw [← hn]
  have HN := Lib.hid hn
  have hnm : n ≤ 8000 := by have := HS.out; omega
  clear hn
  go_loopg [9, 50] n (fun g v9 v50 wr => ∃ k : Nat, k + g = n ∧ v50 = .int .i64 k ∧ Below w3.heap.size w3 wr)
  case atStart => exact ⟨0, by omega, rfl, Below.refl _ _⟩
  case round =>
    obtain ⟨k, hk, rfl, hbr⟩ := hrel
    have HBR := Lib.hid hbr
    by_cases hkn : k < n
    · have hne : L ≠ [] := by
        rintro rfl
        have := HN.out
        simp at this
        omega
      obtain ⟨x, hx⟩ : ∃ x, L[k]? = some x := ⟨L[k]'(by rw [← HN.out]; exact hkn), List.getElem?_eq_getElem _⟩
      obtain ⟨g1, rfl, hx1⟩ := HC1.out hne
      obtain ⟨g2, rfl, hx2⟩ := HC2.out hne
      obtain ⟨a0, a1, a2, a3, a4⟩ := hx1 wr (HB4.out.trans (hbr.mono HB4.out.size)) k x hx
      obtain ⟨b0, b1, b2, b3, b4⟩ := hx2 wr hbr k x hx
      have hxp : (x.place : Int) < 8000 := by have := HPL.out k x hx; have := HS.out; omega
      have b3' : wr.cell? ⟨g2, k * 5 + 3, none⟩ = some (.int .i64 ((x.place : Int) + 1)) := b3
      have b0' : wr.cell? ⟨g2, k * 5, none⟩ = some (.int .i64 (x.kind : Int)) := b0
      have b1' : wr.cell? ⟨g2, k * 5 + 1, none⟩ = some (.string (bs x.text)) := b1
      clear a2 a4 b0 b1 b2 b3 b4 hx1 hx2 hx hne
      generalize hq : (x.place : Int) = q at *
      generalize (x.kind : Int) = kd at *
      generalize bs x.text = T at *
      have e3 : IntKind.i64.wrap (q + 1) = q + 1 := IntWalk.i64_in _ (by omega)
      have hq0 : 0 ≤ q := by omega
      clear hq
      have k1 : (k : Int) < (n : Int) := by omega
      have k2 : IntKind.i64.wrap ((k : Int) + 1) = (k : Int) + 1 := IntWalk.i64_in _ (by omega)
      go_wp2
      go_quiet (fail)
      go_wp2
      have hbn := belN HBR.out nq
      go_roundg (n - (k + 1))
      case measure => omega
      case rel => exact ⟨k + 1, by omega, by go_num, hbn⟩
    · have hkk : ¬ (k : Int) < (n : Int) := by omega
      go_wp2
      go_ret
      exact ⟨rfl, HB3.out.trans (HBR.out.mono HB3.out.size)⟩
theorem law_moves (N : Nat) (s : List UInt8) (hl : s.length ≤ 140737488355328) (w : World) (hw : Low N w) :
    Calls Tryz.prog 8 #[.string (bs s)] w fun e w' => e = .returned (.bool true) ∧ Below w.heap.size w w' := by
  by_cases h : s.length ≤ 8000
  · cases hO : X.lex numAll s with
    | unknown => exact absurd hO (lexF_known numAll_total _ _ _ (by omega))
    | fault p => exact law_moves_fault N s h p hO w hw
    | ok L => exact law_moves_ok N s h L hO w hw
  · exact law_moves_long N s (by omega) hl w hw
end Go.Proofs.YtelphbcdjfdjpaaGreatDoor
