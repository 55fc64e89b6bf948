/- What utf.Wide answers of every text of at most 1000000 bytes: the units of its characters, or the place of the first fault; below the call's own blocks nothing turns. Condition: the two tables of unicode/utf8 hold what they were laid with. Words in a list of words with blanks: a text without blanks stands among them just if it is one of them. No program. eslex.Word and Name, and the document's own. Conditions: those that each theorem names. The long way of package strconv from digits to a float, on functions from places to bytes: no program. Shifts to the left and to the right, what is cut off at the end, and what stays of a right number. No conditions. -/
import Derived.Test.YtelphbcdjfdjpaaGreatDoorZ2
import Derived.Test.YtelphbcdjfdjpaaGreatDoorZ1
import Derived.KernelRfl
namespace Go.Proofs.YtelphbcdjfdjpaaGreatDoor
open Go.RowKit Go.Shelf
set_option linter.unusedVariables false

def full (l : List UInt8) : Prop := (U.scan l).2 = l.length
instance (l : List UInt8) : Decidable (full l) := by unfold full; infer_instance
def wideL (l : List UInt8) : List UInt8 := if full l then U.w8 (U.scan l).1 else []
def wideAt (l : List UInt8) : Nat := if full l then 0 else (U.scan l).2
def wideErr (l : List UInt8) : Nat := if full l then 0 else 10

theorem builder_below {B b : Nat} {bs : List Value} {w w' : World} (h : Lib.IsBuilderF 89 5 B b bs w) (hb : Below w.heap.size w w') : Lib.IsBuilderF 89 5 B b bs w' := by
  have key : ∀ p, Lib.BuilderAtF 89 5 B b p bs w → Lib.BuilderAtF 89 5 B b p bs w' := by
    rintro p ⟨hB, v, hbk, hown, hne⟩
    have lt : ∀ {k : Nat} {o : Obj}, w.heap[k]? = some o → k < w.heap.size := fun h => (Array.getElem?_eq_some_iff.1 h).1
    refine ⟨hB, v, by rw [hb.block b (lt hbk)]; exact hbk, ⟨hown.1, ?_⟩, hne⟩
    rcases hown.2 with hn | ⟨g, cap, cur, fz, hv, hg, hh, rest⟩
    · exact .inl hn
    · exact .inr ⟨g, cap, cur, fz, hv, hg, by rw [hb.block g (lt hh)]; exact hh, rest⟩
  rcases h with h | h
  · exact .inl (key _ h)
  · exact .inr (key _ h)

theorem units_len (l : List UInt8) (c n : Nat) (h : U.dec l = (c, n + 1)) : ((U.units c).flatMap U.be).length ≤ 2 * (n + 1) := by
  obtain ⟨h1, h2, _⟩ := U.enc_dec l c n h
  rw [U.enc_length] at h2
  unfold U.units
  split
  · simp [U.be]; omega
  · rename_i hc
    simp only [List.flatMap_cons, List.flatMap_nil, List.append_nil, List.length_append, U.be, List.length_cons, List.length_nil]
    rw [if_neg (by omega), if_neg (by omega), if_neg hc] at h2
    omega

/-- Behind k bytes, cs read of them. -/
def WideRel (s : ByteArray) (B : Nat) (w : World) (iv : Value) (wr : World) : Prop :=
  ∃ (k : Nat) (cs : List Nat), k ≤ s.size ∧ iv = .int .i64 (k : Int) ∧ Lib.IsBuilderF 89 5 B B (Lib.byteCells (U.w8 cs)) wr ∧ Below B w wr ∧ B < wr.heap.size ∧ (U.w8 cs).length ≤ 2 * k ∧
    U.scan (ls s) = (cs ++ (U.scan ((ls s).drop k)).1, k + (U.scan ((ls s).drop k)).2)

theorem rel_next (s : ByteArray) (k c n : Nat) (cs : List Nat) (hk : k < s.size) (hs : U.scan (ls s) = (cs ++ (U.scan ((ls s).drop k)).1, k + (U.scan ((ls s).drop k)).2)) (hd : U.dec ((ls s).drop k) = (c, n + 1)) :
    k + (n + 1) ≤ s.size ∧ U.scan (ls s) = ((cs ++ [c]) ++ (U.scan ((ls s).drop (k + (n + 1)))).1, k + (n + 1) + (U.scan ((ls s).drop (k + (n + 1)))).2) := by
  have hl := U.dec_le ((ls s).drop k)
  rw [hd, List.length_drop, ls_length] at hl
  refine ⟨by simp only at hl; omega, ?_⟩
  rw [hs, U.scan_step ((ls s).drop k) (by rw [hd]; simp), hd]
  simp only [List.drop_drop, List.append_assoc, List.cons_append, List.nil_append, Nat.add_assoc]
theorem rel_stop (s : ByteArray) (k c : Nat) (cs : List Nat) (hk : k < s.size) (hs : U.scan (ls s) = (cs ++ (U.scan ((ls s).drop k)).1, k + (U.scan ((ls s).drop k)).2)) (hd : U.dec ((ls s).drop k) = (c, 0)) :
    wideL (ls s) = [] ∧ wideAt (ls s) = k ∧ wideErr (ls s) = 10 := by
  rw [U.scan_stop ((ls s).drop k) (by rw [hd])] at hs
  have hf : ¬ full (ls s) := by unfold full; rw [hs, ls_length]; simp only; omega
  unfold wideL wideAt wideErr
  rw [if_neg hf, if_neg hf, if_neg hf, hs]
  exact ⟨rfl, rfl, rfl⟩
theorem rel_end (s : ByteArray) (cs : List Nat) (hs : U.scan (ls s) = (cs ++ (U.scan ((ls s).drop s.size)).1, s.size + (U.scan ((ls s).drop s.size)).2)) :
    wideL (ls s) = U.w8 cs ∧ wideAt (ls s) = 0 ∧ wideErr (ls s) = 0 := by
  rw [List.drop_eq_nil_of_le (by rw [ls_length]; exact Nat.le_refl _), U.scan_nil] at hs
  simp only [List.append_nil, Nat.add_zero] at hs
  have hf : full (ls s) := by unfold full; rw [hs, ls_length]
  unfold wideL wideAt wideErr
  rw [if_pos hf, if_pos hf, if_pos hf, hs]
  exact ⟨rfl, rfl, rfl⟩

theorem ret_sii {a : ByteArray} {l : List UInt8} {b c : Int} {m n : Nat} (h1 : a = ⟨l.toArray⟩) (h2 : b = m) (h3 : c = n) : Ending.returned (.tuple #[.string a, .int .i64 b, .int .i64 c]) = .returned (.tuple #[.string ⟨l.toArray⟩, .int .i64 (m : Int), .int .i64 (n : Int)]) := by rw [h1, h2, h3]

set_option maxHeartbeats 4000000 in
theorem wide_any (s : ByteArray) (hs : s.size ≤ 1000000) (w : World) (hT : Lib.Utf8Tabs 3 4 w) :
    Calls Tryz.prog 81 #[.string s] w fun e w' => e = .returned (.tuple #[.string ⟨(wideL (ls s)).toArray⟩, .int .i64 (wideAt (ls s) : Int), .int .i64 (wideErr (ls s) : Int)]) ∧ Below w.heap.size w w' := by
  have HT := Lib.hid hT
  clear hT
  have Hst : WideRel s w.heap.size w (.int .i64 0) (w.alloc (.cells #[.pointer none, .slice none 0 0] 89)) :=
    ⟨0, [], Nat.zero_le _, rfl, .of (Lib.fresh_isBuilder 89 5 w), (Below.refl _ _).alloc (Nat.le_refl _) _, by simp, by simp [U.w8], by simp⟩
  obtain ⟨B, hB⟩ : ∃ B, w.heap.size = B := ⟨_, rfl⟩
  have HB := Lib.hid hB
  go_enter Tryz.func81, Tryz.ntmps81
  go_wp2
  go_loopw [6] (fun iv wr => WideRel s B w iv wr) (fun iv wr => s.size - (intOf iv).toNat)
  case atStart => exact HB.out ▸ Hst
  case round =>
    obtain ⟨k, cs, hk, rfl, hbuild, hbel, hlt, hlen, hscan⟩ := hrel
    have HS := Lib.hid hscan
    clear hscan
    by_cases hks : k < s.size
    · have hkz : (k : Int) < (s.size : Int) := by omega
      have hTr : Lib.Utf8Tabs 3 4 wr := Utf8Tabs_below HT.out (by rw [HB.out]; exact hbel)
      obtain ⟨c, m, hd⟩ : ∃ c m, U.dec ((ls s).drop k) = (c, m) := ⟨_, _, rfl⟩
      cases m with
      | zero =>
        have cn := next_no s (by omega) (k : Int) c (by rw [nextAt_in s k hks]; exact hd) wr hTr
        have HR := Lib.hid (rel_stop s k c cs hks HS.out hd)
        clear hd hTr
        go_wp2_with fail
        refine cn.mono ?_
        rintro e w1 ⟨rfl, hb1⟩
        go_wp2
        go_ret3
        exact ⟨ret_sii (by rw [HR.out.1]) (by rw [HR.out.2.1]) (by rw [HR.out.2.2]; rfl), by rw [HB.out]; exact hbel.trans (hb1.mono (by omega))⟩
      | succ m =>
        have cn := next_ok s (by omega) k hks c m hd wr hTr
        have HR := Lib.hid (rel_next s k c m cs hks HS.out hd)
        have HU := Lib.hid (units_len _ c m hd)
        have hkm : (k : Int) + ((m : Int) + 1) ≤ (s.size : Int) := by have := HR.out.1; omega
        have hc : c ≤ 1114111 := by
          obtain ⟨h1, _⟩ := U.enc_dec _ c m hd
          unfold U.scalar at h1
          omega
        clear hd hTr
        go_wp2_with fail
        refine cn.mono ?_
        rintro e w1 ⟨rfl, hb1⟩
        go_wp2_with fail
        refine (writeCharacter_any B B c hc _ _ (builder_below hbuild hb1) (by rw [Lib.byteCells_length]; omega) (by have := hb1.size; omega)).mono ?_
        rintro e w2 ⟨rfl, h2, hb2⟩
        go_wp2
        go_roundw
        case rel =>
          refine ⟨k + (m + 1), cs ++ [c], HR.out.1, by go_num, ?_, (hbel.trans (hb1.mono (by omega))).trans hb2, by have := hb1.size; have := hb2.size; omega, ?_, HR.out.2⟩
          · rw [U.w8_append, byteCells_append]
            simpa [U.w8] using h2
          · rw [U.w8_append, List.length_append]
            have := HU.out
            simp only [U.w8, List.flatMap_cons, List.flatMap_nil, List.append_nil] at this hlen ⊢
            omega
        case measure => have := HR.out.1; simp [intOf]; omega
    · obtain rfl : k = s.size := by omega
      have HR := Lib.hid (rel_end s cs HS.out)
      go_wp2_with fail
      refine (Tryz.Builder_String_any_f B B (U.w8 cs) _ hbuild (by omega)).mono ?_
      rintro e w1 ⟨rfl, h1, hb1⟩
      go_wp2
      go_ret3
      exact ⟨ret_sii (by rw [HR.out.1]) (by rw [HR.out.2.1]; rfl) (by rw [HR.out.2.2]; rfl), by rw [HB.out]; exact hbel.trans hb1⟩
end Go.Proofs.YtelphbcdjfdjpaaGreatDoor
namespace Go.Proofs.YtelphbcdjfdjpaaGreatDoor
set_option linter.all false
namespace X
/-- Does a text stand in a list, blanks at its sides? -/
def amongL (s : List UInt8) : List UInt8 → Bool
  | [] => false
  | b :: r => (b == 32 && (s ++ [32]).isPrefixOf r) || amongL s r
def spacedL (s : List UInt8) : Bool := s.any (· == 32)
def joined : List (List UInt8) → List UInt8
  | [] => []
  | w :: ws => w ++ 32 :: joined ws
theorem among_skip (s : List UInt8) : ∀ (a r : List UInt8), spacedL a = false → amongL s (a ++ r) = amongL s r
  | [], _, _ => rfl
  | b :: a, r, h => by
    simp only [spacedL, List.any_cons, Bool.or_eq_false_iff] at h
    show ((b == 32 && _) || amongL s (a ++ r)) = _
    rw [h.1, among_skip s a r h.2]
    rfl
theorem pre_word : ∀ (s w J : List UInt8), spacedL s = false → spacedL w = false → (s ++ [32]).isPrefixOf (w ++ 32 :: J) = (s == w)
  | [], [], J, _, _ => rfl
  | [], b :: w, J, _, h => by
    simp only [spacedL, List.any_cons, Bool.or_eq_false_iff] at h
    show ((32 == b) && _) = false
    have : ((32 : UInt8) == b) = false := by rw [beq_eq_false_iff_ne] at h ⊢; exact fun e => h.1 e.symm
    rw [this]; rfl
  | a :: s, [], J, h, _ => by
    simp only [spacedL, List.any_cons, Bool.or_eq_false_iff] at h
    show ((a == 32) && _) = false
    rw [h.1]; rfl
  | a :: s, b :: w, J, h, k => by
    simp only [spacedL, List.any_cons, Bool.or_eq_false_iff] at h k
    show ((a == b) && (s ++ [32]).isPrefixOf (w ++ 32 :: J)) = ((a == b) && (s == w))
    rw [pre_word s w J h.2 k.2]
theorem among_joined (s : List UInt8) (hs : spacedL s = false) : ∀ (ws : List (List UInt8)), (∀ w ∈ ws, spacedL w = false) → amongL s (32 :: joined ws) = ws.contains s
  | [], _ => by
    show ((32 == 32 && (s ++ [32]).isPrefixOf []) || false) = false
    cases s <;> rfl
  | w :: ws, h => by
    have ih := among_joined s hs ws (fun x hx => h x (List.mem_cons_of_mem _ hx))
    show (((32 : UInt8) == 32 && (s ++ [32]).isPrefixOf (w ++ 32 :: joined ws)) || amongL s (w ++ 32 :: joined ws)) = _
    rw [pre_word s w _ hs (h w (List.mem_cons_self ..)), among_skip s w _ (h w (List.mem_cons_self ..)), ih, List.contains_cons]
    rfl
def wordText : List UInt8 := 32 :: joined words
theorem words_flat : ∀ w ∈ words, spacedL w = false := by decide
/-- The document's own word. -/
def refWord (s : List UInt8) : Bool := !s.isEmpty && !spacedL s && amongL s wordText
theorem refWord_eq (s : List UInt8) : refWord s = word s := by
  unfold refWord word
  cases hs : spacedL s with
  | true =>
    have h1 : words.contains s = false := by
      rw [Bool.eq_false_iff]
      intro h
      have := words_flat s (List.contains_iff_mem.1 h)
      rw [hs] at this; cases this
    rw [h1]; simp
  | false =>
    unfold wordText
    rw [among_joined s hs words words_flat]
    cases s with
    | nil => rfl
    | cons a s => simp
/-- .. in a loop's terms: the first k places looked at, nothing found. -/
theorem among_iff (s : List UInt8) : ∀ (l : List UInt8), amongL s l = true ↔ ∃ i, i + s.length + 2 ≤ l.length ∧ l[i]? = some 32 ∧ (l.drop (i + 1)).take s.length = s ∧ l[i + 1 + s.length]? = some 32
  | [] => by simp [amongL]
  | b :: r => by
    unfold amongL
    rw [Bool.or_eq_true, among_iff s r, Bool.and_eq_true, beq_iff_eq, List.isPrefixOf_iff_prefix]
    constructor
    · rintro (⟨rfl, hp⟩ | ⟨i, h1, h2, h3, h4⟩)
      · obtain ⟨t, rfl⟩ := hp
        refine ⟨0, by simp, rfl, by simp, ?_⟩
        rw [show 0 + 1 + s.length = s.length + 1 by omega, List.getElem?_cons_succ, List.append_assoc, List.getElem?_append_right (Nat.le_refl _)]
        simp
      · refine ⟨i + 1, by simp only [List.length_cons]; omega, by simpa using h2, by simpa using h3, ?_⟩
        rw [show i + 1 + 1 + s.length = (i + 1 + s.length) + 1 by omega, List.getElem?_cons_succ]
        exact h4
    · rintro ⟨i, h1, h2, h3, h4⟩
      cases i with
      | zero =>
        left
        simp only [List.getElem?_cons_zero, Option.some.injEq] at h2
        refine ⟨h2, ?_⟩
        simp only [Nat.zero_add, List.drop_succ_cons, List.drop_zero] at h3
        rw [show 0 + 1 + s.length = s.length + 1 by omega, List.getElem?_cons_succ] at h4
        refine ⟨r.drop (s.length + 1), ?_⟩
        have e1 : r.take (s.length + 1) = s ++ [32] := by rw [List.take_succ, h3, h4]; rfl
        rw [← e1, List.take_append_drop]
      | succ i =>
        right
        refine ⟨i, by simp only [List.length_cons] at h1; omega, by simpa using h2, by simpa using h3, ?_⟩
        rw [show i + 1 + 1 + s.length = (i + 1 + s.length) + 1 by omega, List.getElem?_cons_succ] at h4
        exact h4
end X
end Go.Proofs.YtelphbcdjfdjpaaGreatDoor
namespace Go.Proofs.YtelphbcdjfdjpaaGreatDoor
open Go.RowKit
set_option linter.all false

/-- A package's table of texts: variable g holds a slice of them, in blocks below N. -/
def Tab (N g : Nat) (l : List (List UInt8)) (w : World) : Prop :=
  g < N ∧ ∃ b o cap, b < N ∧ w.cell? ⟨g, 0, none⟩ = some (.slice (some ⟨b, o, none⟩) l.length cap) ∧ ∀ i (h : i < l.length), w.cell? ⟨b, o + i, none⟩ = some (.string (bs l[i]))
theorem Tab.below {N B g : Nat} {l : List (List UInt8)} {w w' : World} (h : Tab N g l w) (k : Below B w w') (hB : N ≤ B) : Tab N g l w' := by
  obtain ⟨hg, b, o, cap, hb, hc, hs⟩ := h
  have e : ∀ j, j < N → ∀ i, w'.cell? ⟨j, i, none⟩ = w.cell? ⟨j, i, none⟩ := fun j hj i => by
    simp only [World.cell?]
    rw [k.block j (by omega)]
  exact ⟨hg, b, o, cap, hb, by rw [e g hg]; exact hc, fun i hi => by rw [e b hb]; exact hs i hi⟩

theorem beq_bs (a b : List UInt8) : ((bs a).toList == (bs b).toList) = (a == b) := by rw [Lib.toList_data, Lib.toList_data]; rfl
theorem word_any (N : Nat) (l : List UInt8) (hl : l.length ≤ 140737488355328) (w : World) (hT : Tab N 0 X.words w) :
    Calls Tryz.prog 13 #[.string (bs l)] w fun e w' => e = .returned (.bool (X.word l)) ∧ w = w' := by
  obtain ⟨hg, b, o, cap, hb, hc, hs⟩ := hT
  have hlen : X.words.length = 38 := rfl
  have hw : X.word l = X.words.contains l := rfl
  rw [hw]
  generalize X.words = ws at hc hs hlen ⊢
  rw [hlen] at hc
  go_enter Tryz.func13, Tryz.ntmps13
  go_wp2
  go_loop [7, 4] (fun vi _ => ∃ k : Nat, k ≤ 38 ∧ vi = .int .i64 (k : Int) ∧ ∀ j (h : j < ws.length), j < k → ws[j] ≠ l) (fun vi _ => 38 - (intOf vi).toNat)
  case atStart => exact ⟨0, by omega, rfl, fun j _ h => by omega⟩
  case round =>
    obtain ⟨k, hk, rfl, hno⟩ := hrel
    by_cases hk2 : k < 38
    · go_wp2
      · rename_i h3 _
        rw [beq_bs] at h3
        go_ret
        have hm : l ∈ ws := by
          have e : ws[k]'(by omega) = l := by simpa using h3
          rw [← e]; exact List.getElem_mem _
        exact ⟨by simp [hm], rfl⟩
      · rename_i h2
        rw [beq_bs] at h2
        go_round
        case rel =>
          refine ⟨k + 1, by omega, by go_num, fun j hj hjk => ?_⟩
          rcases Nat.lt_or_ge j k with h | h
          · exact hno j hj h
          · obtain rfl : j = k := by omega
            simpa using h2
        case measure => simp [intOf]; omega
    · obtain rfl : k = 38 := by omega
      have hm : ¬ l ∈ ws := by
        intro h
        obtain ⟨j, hj, e⟩ := List.getElem_of_mem h
        exact hno j hj (by omega) e
      go_wp2
      go_ret
      exact ⟨by simp [hm], rfl⟩
end Go.Proofs.YtelphbcdjfdjpaaGreatDoor
namespace Go.Proofs.YtelphbcdjfdjpaaGreatDoor
set_option linter.all false
namespace PF

def upd (D : Nat → Nat) (i x : Nat) : Nat → Nat := fun j => if j = i then x else D j
theorem upd_at (D : Nat → Nat) (i x : Nat) : upd D i x i = x := if_pos rfl
theorem upd_ne (D : Nat → Nat) (i x j : Nat) (h : j ≠ i) : upd D i x j = D j := if_neg h
/-- A digit's byte. -/
def Dg (x : Nat) : Prop := 48 ≤ x ∧ x ≤ 57
def trimN (D : Nat → Nat) : Nat → Nat
  | 0 => 0
  | n + 1 => if D n = 48 then trimN D n else n + 1
theorem trimN_le (D : Nat → Nat) : ∀ n, trimN D n ≤ n
  | 0 => Nat.le_refl _
  | n + 1 => by
    unfold trimN
    have := trimN_le D n
    split <;> omega
theorem trimN_pos (D : Nat → Nat) (h : D 0 ≠ 48) : ∀ n, 1 ≤ n → 1 ≤ trimN D n
  | 0, h0 => by omega
  | 1, _ => by unfold trimN; rw [if_neg h]; omega
  | n + 2, _ => by
    have := trimN_pos D h (n + 1) (by omega)
    unfold trimN
    split <;> omega

/-- The number that the first n digits say. -/
def val (D : Nat → Nat) : Nat → Nat
  | 0 => 0
  | n + 1 => 10 * val D n + (D n - 48)
theorem val_split (D : Nat → Nat) (n : Nat) (hD : ∀ i, i < n → Dg (D i)) (i j : Nat) (h : i + j ≤ n) : val D i * 10 ^ j ≤ val D (i + j) ∧ val D (i + j) < (val D i + 1) * 10 ^ j := by
  induction j with
  | zero => simp
  | succ j ih =>
    obtain ⟨h1, h2⟩ := ih (by omega)
    obtain ⟨d1, d2⟩ := hD (i + j) (by omega)
    have e : val D (i + (j + 1)) = 10 * val D (i + j) + (D (i + j) - 48) := rfl
    rw [e, Nat.pow_succ, ← Nat.mul_assoc, ← Nat.mul_assoc]
    generalize val D i * 10 ^ j = A at *
    generalize (val D i + 1) * 10 ^ j = B at *
    omega
theorem val_lt (D : Nat → Nat) (n : Nat) (hD : ∀ i, i < n → Dg (D i)) : val D n < 10 ^ n := by
  have h := (val_split D n hD 0 n (by omega)).2
  rw [Nat.zero_add] at h
  simpa [val] using h
theorem val_ge (D : Nat → Nat) (n : Nat) (hD : ∀ i, i < n → Dg (D i)) (h0 : D 0 ≠ 48) (hn : 1 ≤ n) : 10 ^ (n - 1) ≤ val D n := by
  have h := (val_split D n hD 1 (n - 1) (by omega)).1
  have d := hD 0 (by omega)
  unfold Dg at d
  rw [show 1 + (n - 1) = n by omega] at h
  have e : 1 ≤ val D 1 := by show 1 ≤ 10 * 0 + (D 0 - 48); omega
  exact Nat.le_trans (Nat.le_mul_of_pos_left _ e) h

/-- Do the first nd digits stand ahead of a text of L digits, from i on. -/
def pil (D S : Nat → Nat) (nd : Nat) : Nat → Nat → Bool
  | 0, _ => false
  | f + 1, i => if nd ≤ i then true else if D i ≠ S i then decide (D i < S i) else pil D S nd f (i + 1)
theorem pil_spec (D S : Nat → Nat) (nd L : Nat) (hD : ∀ i, i < nd → Dg (D i)) (hS : ∀ i, i < L → Dg (S i)) (hL : S (L - 1) ≠ 48) : ∀ f i, i + f = L → i ≤ nd → val D i = val S i →
    (pil D S nd f i = true → val D nd * 10 ^ L < val S L * 10 ^ nd) ∧ (pil D S nd f i = false → val S L * 10 ^ nd ≤ val D nd * 10 ^ L) := by
  intro f
  induction f with
  | zero =>
    intro i hi hn hv
    refine ⟨fun h => (nomatch h), fun _ => ?_⟩
    have hi' : i = L := by omega
    subst hi'
    rw [← hv]
    have h := (val_split D nd hD i (nd - i) (by omega)).1
    rw [show i + (nd - i) = nd by omega] at h
    have e : 10 ^ nd = 10 ^ (nd - i) * 10 ^ i := by rw [← Nat.pow_add]; congr 1; omega
    rw [e, ← Nat.mul_assoc]
    exact Nat.mul_le_mul_right _ h
  | succ f ih =>
    intro i hi hn hv
    unfold pil
    by_cases h1 : nd ≤ i
    · rw [if_pos h1]
      refine ⟨fun _ => ?_, fun h => (nomatch h)⟩
      have hi' : i = nd := by omega
      subst hi'
      rw [hv]
      have h := (val_split S L hS i (L - 1 - i) (by omega)).1
      rw [show i + (L - 1 - i) = L - 1 by omega] at h
      have hl := hS (L - 1) (by omega)
      unfold Dg at hl
      have e : val S L = 10 * val S (L - 1) + (S (L - 1) - 48) := by
        obtain ⟨M, rfl⟩ : ∃ M, L = M + 1 := ⟨L - 1, by omega⟩
        rfl
      have e2 : 10 ^ L = 10 ^ (L - 1 - i) * 10 * 10 ^ i := by
        rw [← Nat.pow_succ, ← Nat.pow_add]; congr 1; omega
      rw [e2, ← Nat.mul_assoc]
      refine Nat.mul_lt_mul_of_pos_right ?_ (Nat.pow_pos (by omega))
      rw [e, ← Nat.mul_assoc]
      generalize val S i * 10 ^ (L - 1 - i) = A at *
      omega
    · rw [if_neg h1]
      have dD := hD i (by omega)
      have dS := hS i (by omega)
      unfold Dg at dD dS
      have eD : val D (i + 1) = 10 * val D i + (D i - 48) := rfl
      have eS : val S (i + 1) = 10 * val S i + (S i - 48) := rfl
      have sD := val_split D nd hD (i + 1) (nd - (i + 1)) (by omega)
      have sS := val_split S L hS (i + 1) (L - (i + 1)) (by omega)
      rw [show i + 1 + (nd - (i + 1)) = nd by omega] at sD
      rw [show i + 1 + (L - (i + 1)) = L by omega] at sS
      have p : 10 ^ (nd - (i + 1)) * 10 ^ L = 10 ^ (L - (i + 1)) * 10 ^ nd := by
        rw [← Nat.pow_add, ← Nat.pow_add]; congr 1; omega
      by_cases h2 : D i ≠ S i
      · rw [if_pos h2]
        refine ⟨fun h => ?_, fun h => ?_⟩
        · have hlt := of_decide_eq_true h
          have hle : val D (i + 1) + 1 ≤ val S (i + 1) := by omega
          calc val D nd * 10 ^ L < (val D (i + 1) + 1) * 10 ^ (nd - (i + 1)) * 10 ^ L := Nat.mul_lt_mul_of_pos_right sD.2 (Nat.pow_pos (by omega))
            _ ≤ val S (i + 1) * 10 ^ (nd - (i + 1)) * 10 ^ L := Nat.mul_le_mul_right _ (Nat.mul_le_mul_right _ hle)
            _ = val S (i + 1) * 10 ^ (L - (i + 1)) * 10 ^ nd := by rw [Nat.mul_assoc, p, Nat.mul_assoc]
            _ ≤ val S L * 10 ^ nd := Nat.mul_le_mul_right _ sS.1
        · have hnl := of_decide_eq_false h
          have hle : val S (i + 1) + 1 ≤ val D (i + 1) := by omega
          refine Nat.le_of_lt ?_
          calc val S L * 10 ^ nd < (val S (i + 1) + 1) * 10 ^ (L - (i + 1)) * 10 ^ nd := Nat.mul_lt_mul_of_pos_right sS.2 (Nat.pow_pos (by omega))
            _ ≤ val D (i + 1) * 10 ^ (L - (i + 1)) * 10 ^ nd := Nat.mul_le_mul_right _ (Nat.mul_le_mul_right _ hle)
            _ = val D (i + 1) * 10 ^ (nd - (i + 1)) * 10 ^ L := by rw [Nat.mul_assoc, ← p, Nat.mul_assoc]
            _ ≤ val D nd * 10 ^ L := Nat.mul_le_mul_right _ sD.1
      · rw [if_neg h2]
        exact ih (i + 1) (by omega) (by omega) (by rw [eD, eS, hv]; omega)

/-- What the digits from r on say, of nd. -/
def tv (D : Nat → Nat) (nd : Nat) : Nat → Nat
  | 0 => 0
  | j + 1 => (D (nd - (j + 1)) - 48) * 10 ^ j + tv D nd j
theorem tv_succ (D : Nat → Nat) (nd j : Nat) : tv D nd (j + 1) = (D (nd - (j + 1)) - 48) * 10 ^ j + tv D nd j := rfl
theorem tv_lt (D : Nat → Nat) (nd : Nat) (hD : ∀ i, i < nd → Dg (D i)) : ∀ j, j ≤ nd → tv D nd j < 10 ^ j
  | 0, _ => by simp [tv]
  | j + 1, h => by
    have ih := tv_lt D nd hD j (by omega)
    obtain ⟨d1, d2⟩ := hD (nd - (j + 1)) (by omega)
    rw [tv_succ, Nat.pow_succ]
    have : (D (nd - (j + 1)) - 48) * 10 ^ j ≤ 9 * 10 ^ j := Nat.mul_le_mul_right _ (by omega)
    omega
theorem tv_val (D : Nat → Nat) (nd : Nat) : ∀ j, j ≤ nd → val D nd = val D (nd - j) * 10 ^ j + tv D nd j
  | 0, _ => by simp [tv]
  | j + 1, h => by
    rw [tv_val D nd j (by omega)]
    obtain ⟨m, hm⟩ : ∃ m, nd - j = m + 1 := ⟨nd - j - 1, by omega⟩
    have hm2 : nd - (j + 1) = m := by omega
    rw [tv_succ, hm, hm2, Nat.pow_succ]
    show (10 * val D m + (D m - 48)) * 10 ^ j + _ = _
    rw [Nat.add_mul, Nat.mul_comm 10, Nat.mul_assoc, Nat.mul_comm 10]
    omega

/-- The first half of a shift to the left: r digits are left to read. -/
def ls1 (k δ : Nat) : Nat → (Nat → Nat) → Nat → Bool → (Nat → Nat) × Nat × Bool
  | 0, D, n, t => (D, n, t)
  | r + 1, D, n, t => if r + δ < 800 then ls1 k δ r (upd D (r + δ) ((n + (D r - 48) * 2 ^ k) % 10 + 48)) ((n + (D r - 48) * 2 ^ k) / 10) t
    else ls1 k δ r D ((n + (D r - 48) * 2 ^ k) / 10) (t || (n + (D r - 48) * 2 ^ k) % 10 != 0)
/-- .. and the second: w places are left to write. -/
def ls2 : Nat → (Nat → Nat) → Nat → Bool → (Nat → Nat) × Bool
  | 0, D, _, t => (D, t)
  | w + 1, D, n, t => if n = 0 then (D, t) else if w < 800 then ls2 w (upd D w (n % 10 + 48)) (n / 10) t else ls2 w D (n / 10) (t || n % 10 != 0)

theorem ls1_step (T d k j : Nat) : (T * 2 ^ k / 10 ^ j + d * 2 ^ k) / 10 = (d * 10 ^ j + T) * 2 ^ k / 10 ^ (j + 1) := by
  have e : (d * 10 ^ j + T) * 2 ^ k = T * 2 ^ k + 10 ^ j * (d * 2 ^ k) := by
    rw [Nat.add_mul, Nat.add_comm, Nat.mul_comm d, Nat.mul_assoc]
  rw [e, Nat.pow_succ, ← Nat.div_div_eq_div_mul, Nat.add_mul_div_left _ _ (Nat.pow_pos (by omega))]
theorem ls1_n_lt (D : Nat → Nat) (nd k j : Nat) (hD : ∀ i, i < nd → Dg (D i)) (hj : j ≤ nd) : tv D nd j * 2 ^ k / 10 ^ j < 2 ^ k := by
  rw [Nat.div_lt_iff_lt_mul (Nat.pow_pos (by omega)), Nat.mul_comm]
  exact Nat.mul_lt_mul_of_pos_left (tv_lt D nd hD j hj) (Nat.pow_pos (by omega))
theorem ls1_spec (D0 : Nat → Nat) (k δ nd : Nat) (hD : ∀ i, i < nd → Dg (D0 i)) (hnd : nd ≤ 800) : ∀ r D t n, r ≤ nd → (∀ i, i < r → D i = D0 i) → n = tv D0 nd (nd - r) * 2 ^ k / 10 ^ (nd - r) →
    (∀ i, r + δ ≤ i → i < nd + δ → i < 800 → Dg (D i)) → (r = 0 → δ = 0 → 1 ≤ nd → D 0 = (tv D0 nd (nd - 1) * 2 ^ k / 10 ^ (nd - 1) + (D0 0 - 48) * 2 ^ k) % 10 + 48) →
    (ls1 k δ r D n t).2.1 = val D0 nd * 2 ^ k / 10 ^ nd ∧ (∀ i, δ ≤ i → i < nd + δ → i < 800 → Dg ((ls1 k δ r D n t).1 i)) ∧
      (δ = 0 → 1 ≤ nd → (ls1 k δ r D n t).1 0 = (tv D0 nd (nd - 1) * 2 ^ k / 10 ^ (nd - 1) + (D0 0 - 48) * 2 ^ k) % 10 + 48) := by
  intro r
  induction r with
  | zero =>
    intro D t n hr hs hn hw h0
    refine ⟨?_, fun i h1 h2 h3 => hw i (by omega) h2 h3, fun h1 h2 => h0 rfl h1 h2⟩
    show n = _
    rw [hn, Nat.sub_zero, tv_val D0 nd nd (Nat.le_refl _)]
    simp [val]
  | succ r ih =>
    intro D t n hr hs hn hw h0
    have hsr := hs r (by omega)
    have hstep : (n + (D r - 48) * 2 ^ k) / 10 = tv D0 nd (nd - r) * 2 ^ k / 10 ^ (nd - r) := by
      rw [hn, hsr, ls1_step, show nd - r = nd - (r + 1) + 1 by omega]
      rw [tv_succ, show nd - (nd - (r + 1) + 1) = r by omega]
    unfold ls1
    by_cases h8 : r + δ < 800
    · rw [if_pos h8]
      refine ih _ t _ (by omega) (fun i hi => ?_) hstep (fun i h1 h2 h3 => ?_) (fun h1 h2 h3 => ?_)
      · rw [upd_ne _ _ _ _ (by omega)]
        exact hs i (by omega)
      · by_cases he : i = r + δ
        · rw [he, upd_at]
          unfold Dg
          omega
        · rw [upd_ne _ _ _ _ he]
          exact hw i (by omega) h2 h3
      · subst h1 h2
        rw [upd_at, hn, hsr]
    · rw [if_neg h8]
      refine ih _ _ _ (by omega) (fun i hi => hs i (by omega)) hstep (fun i h1 h2 h3 => hw i (by omega) h2 h3) (fun h1 h2 h3 => by omega)
theorem ls2_spec : ∀ w D n t, w ≤ 800 → (w = 0 ∧ n = 0 ∨ 1 ≤ w ∧ 10 ^ (w - 1) ≤ n ∧ n < 10 ^ w) →
    (∀ i, i < w → Dg ((ls2 w D n t).1 i)) ∧ (∀ i, w ≤ i → (ls2 w D n t).1 i = D i) ∧ (1 ≤ w → 49 ≤ (ls2 w D n t).1 0) := by
  intro w
  induction w with
  | zero =>
    intro D n t _ _
    exact ⟨fun i h => by omega, fun i _ => rfl, fun h => by omega⟩
  | succ w ih =>
    intro D n t hw h
    have h : 10 ^ w ≤ n ∧ n < 10 ^ (w + 1) := by
      rcases h with ⟨h, _⟩ | ⟨_, h1, h2⟩
      · omega
      · exact ⟨h1, h2⟩
    have hpos : 1 ≤ 10 ^ w := Nat.pow_pos (by omega)
    have h1 : n ≠ 0 := by omega
    unfold ls2
    rw [if_neg h1, if_pos (show w < 800 by omega)]
    have hrec : w = 0 ∧ n / 10 = 0 ∨ 1 ≤ w ∧ 10 ^ (w - 1) ≤ n / 10 ∧ n / 10 < 10 ^ w := by
      have h2 := h.2
      rw [Nat.pow_succ] at h2
      by_cases h0 : w = 0
      · subst h0
        exact .inl ⟨rfl, by simp at h2; omega⟩
      · refine .inr ⟨by omega, ?_, by omega⟩
        have h3 := h.1
        rw [show w = w - 1 + 1 by omega, Nat.pow_succ] at h3
        omega
    obtain ⟨i1, i2, i3⟩ := ih (upd D w (n % 10 + 48)) (n / 10) t (by omega) hrec
    refine ⟨fun i hi => ?_, fun i hi => ?_, fun _ => ?_⟩
    · by_cases he : i = w
      · rw [he, i2 w (Nat.le_refl _), upd_at]
        unfold Dg
        omega
      · exact i1 i (by omega)
    · rw [i2 i (by omega), upd_ne _ _ _ _ (by omega)]
    · by_cases h0 : w = 0
      · subst h0
        rw [i2 0 (Nat.le_refl _), upd_at]
        have h2 := h.2
        simp at h2
        omega
      · exact i3 (by omega)
end PF
end Go.Proofs.YtelphbcdjfdjpaaGreatDoor
