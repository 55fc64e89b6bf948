/- The long way of package strconv, whole shifts: a right number stays one, and the point or the first digit turns. No conditions. The long way of package strconv: the cheat's rows, and the two loops that bring a number between a half and one. No conditions. -/
import Derived.Test.YtelphbcdjfdjpaaGreatDoorZ3
import GoSem.PinnedTables
namespace Go.Proofs.YtelphbcdjfdjpaaGreatDoor
set_option linter.all false
namespace PF

/-- A number in the long form: its digits, how many, the point, was any cut off. -/
structure Dc where
  D : Nat → Nat
  nd : Nat
  dp : Int
  tr : Bool
structure Good (c : Dc) : Prop where
  dg : ∀ i, i < c.nd → Dg (c.D i)
  pos : 1 ≤ c.nd
  top : c.nd ≤ 800
  first : c.D 0 ≠ 48
def cut (D : Nat → Nat) (n : Nat) (dp : Int) (t : Bool) : Dc := ⟨D, trimN D n, if trimN D n = 0 then 0 else dp, t⟩
theorem cut_good (D : Nat → Nat) (n : Nat) (dp : Int) (t : Bool) (hD : ∀ i, i < n → Dg (D i)) (h1 : 1 ≤ n) (h2 : n ≤ 800) (h0 : D 0 ≠ 48) : Good (cut D n dp t) ∧ (cut D n dp t).dp = dp ∧ (cut D n dp t).D = D := by
  have hp := trimN_pos D h0 n h1
  have hl := trimN_le D n
  refine ⟨⟨fun i hi => hD i (Nat.lt_of_lt_of_le hi hl), hp, Nat.le_trans hl h2, h0⟩, ?_, rfl⟩
  show (if trimN D n = 0 then 0 else dp) = dp
  rw [if_neg (by omega)]

/-- The cheat's row: a shift, its new digits, the text that is held against the digits. -/
structure Row where
  k : Nat
  δ : Nat
  S : Nat → Nat
  L : Nat
def newDigits (r : Row) (c : Dc) : Nat := if pil c.D r.S c.nd r.L 0 then r.δ - 1 else r.δ
def lshOf (k δ : Nat) (c : Dc) : Dc := cut (ls2 δ (ls1 k δ c.nd c.D 0 c.tr).1 (ls1 k δ c.nd c.D 0 c.tr).2.1 (ls1 k δ c.nd c.D 0 c.tr).2.2).1 (min (c.nd + δ) 800) (c.dp + (δ : Int)) (ls2 δ (ls1 k δ c.nd c.D 0 c.tr).1 (ls1 k δ c.nd c.D 0 c.tr).2.1 (ls1 k δ c.nd c.D 0 c.tr).2.2).2
def lsh (r : Row) (c : Dc) : Dc := lshOf r.k (newDigits r c) c
structure RowOk (r : Row) : Prop where
  k1 : 1 ≤ r.k
  d1 : 1 ≤ r.δ
  d2 : r.δ ≤ 19
  up : 2 ^ r.k ≤ 10 ^ r.δ
  low : 10 ^ (r.δ - 1) ≤ 2 ^ r.k
  len : r.L + r.δ = r.k + 1
  dg : ∀ i, i < r.L → Dg (r.S i)
  last : r.S (r.L - 1) ≠ 48
  say : val r.S r.L = 5 ^ r.k

theorem new_bounds (r : Row) (c : Dc) (hr : RowOk r) (h : Good c) : newDigits r c ≤ 19 ∧ val c.D c.nd * 2 ^ r.k < 10 ^ (c.nd + newDigits r c) ∧ 10 ^ (c.nd + newDigits r c - 1) ≤ val c.D c.nd * 2 ^ r.k := by
  have hp := pil_spec c.D r.S c.nd r.L h.dg hr.dg hr.last r.L 0 (by omega) (by omega) rfl
  have hlt := val_lt c.D c.nd h.dg
  have hge := val_ge c.D c.nd h.dg h.first h.pos
  have hpos := h.pos
  obtain ⟨k1, d1, d2, up, low, len, -, -, say⟩ := hr
  rw [say] at hp
  have e10 : 5 ^ r.k * 2 ^ r.k = 10 ^ r.k := by rw [← Nat.mul_pow]
  unfold newDigits
  generalize val c.D c.nd = V at *
  by_cases hb : pil c.D r.S c.nd r.L 0 = true
  · rw [if_pos hb]
    have h1 := hp.1 hb
    refine ⟨by omega, ?_, ?_⟩
    · have h2 : V * 2 ^ r.k * 10 ^ r.L < 10 ^ (c.nd + (r.δ - 1)) * 10 ^ r.L := by
        calc V * 2 ^ r.k * 10 ^ r.L = V * 10 ^ r.L * 2 ^ r.k := by rw [Nat.mul_assoc, Nat.mul_comm (2 ^ r.k), Nat.mul_assoc]
          _ < 5 ^ r.k * 10 ^ c.nd * 2 ^ r.k := Nat.mul_lt_mul_of_pos_right h1 (Nat.pow_pos (by omega))
          _ = 10 ^ r.k * 10 ^ c.nd := by rw [Nat.mul_assoc, Nat.mul_comm (10 ^ c.nd), ← Nat.mul_assoc, e10]
          _ = 10 ^ (c.nd + (r.δ - 1)) * 10 ^ r.L := by rw [← Nat.pow_add, ← Nat.pow_add]; congr 1; omega
      exact Nat.lt_of_mul_lt_mul_right h2
    · calc 10 ^ (c.nd + (r.δ - 1) - 1) = 10 ^ (c.nd - 1) * 10 ^ (r.δ - 1) := by rw [← Nat.pow_add]; congr 1; omega
        _ ≤ V * 2 ^ r.k := Nat.mul_le_mul hge low
  · rw [if_neg hb]
    have h1 := hp.2 (by simpa using hb)
    refine ⟨d2, ?_, ?_⟩
    · calc V * 2 ^ r.k < 10 ^ c.nd * 2 ^ r.k := Nat.mul_lt_mul_of_pos_right hlt (Nat.pow_pos (by omega))
        _ ≤ 10 ^ c.nd * 10 ^ r.δ := Nat.mul_le_mul_left _ up
        _ = 10 ^ (c.nd + r.δ) := by rw [← Nat.pow_add]
    · have h2 : 10 ^ (c.nd + r.δ - 1) * 10 ^ r.L ≤ V * 2 ^ r.k * 10 ^ r.L := by
        calc 10 ^ (c.nd + r.δ - 1) * 10 ^ r.L = 10 ^ r.k * 10 ^ c.nd := by rw [← Nat.pow_add, ← Nat.pow_add]; congr 1; omega
          _ = 5 ^ r.k * 10 ^ c.nd * 2 ^ r.k := by rw [Nat.mul_assoc, Nat.mul_comm (10 ^ c.nd), ← Nat.mul_assoc, e10]
          _ ≤ V * 10 ^ r.L * 2 ^ r.k := Nat.mul_le_mul_right _ h1
          _ = V * 2 ^ r.k * 10 ^ r.L := by rw [Nat.mul_assoc V, Nat.mul_comm (10 ^ r.L), ← Nat.mul_assoc]
      exact Nat.le_of_mul_le_mul_right h2 (Nat.pow_pos (by omega))

/-- What is left behind the first half of a shift has just the new digits. -/
theorem left_n (r : Row) (c : Dc) (hr : RowOk r) (h : Good c) : (ls1 r.k (newDigits r c) c.nd c.D 0 c.tr).2.1 = val c.D c.nd * 2 ^ r.k / 10 ^ c.nd ∧
    (newDigits r c = 0 ∧ val c.D c.nd * 2 ^ r.k / 10 ^ c.nd = 0 ∨ 1 ≤ newDigits r c ∧ 10 ^ (newDigits r c - 1) ≤ val c.D c.nd * 2 ^ r.k / 10 ^ c.nd ∧ val c.D c.nd * 2 ^ r.k / 10 ^ c.nd < 10 ^ newDigits r c) := by
  obtain ⟨b1, b2, b3⟩ := new_bounds r c hr h
  have hs := (ls1_spec c.D r.k (newDigits r c) c.nd h.dg h.top c.nd c.D c.tr 0 (Nat.le_refl _) (fun _ _ => rfl) (by rw [Nat.sub_self]; simp [tv]) (fun i h1 h2 _ => by omega) (fun h1 => by have := h.pos; omega)).1
  refine ⟨hs, ?_⟩
  have hpos := h.pos
  generalize newDigits r c = δ at *
  generalize val c.D c.nd * 2 ^ r.k = X at *
  have hlt : X / 10 ^ c.nd < 10 ^ δ := by
    rw [Nat.div_lt_iff_lt_mul (Nat.pow_pos (by omega)), ← Nat.pow_add, Nat.add_comm]
    exact b2
  by_cases h0 : δ = 0
  · subst h0
    exact .inl ⟨rfl, by simpa using hlt⟩
  · refine .inr ⟨by omega, ?_, hlt⟩
    rw [Nat.le_div_iff_mul_le (Nat.pow_pos (by omega)), ← Nat.pow_add, show δ - 1 + c.nd = c.nd + δ - 1 by omega]
    exact b3

theorem lsh_good (r : Row) (c : Dc) (hr : RowOk r) (h : Good c) : Good (lsh r c) ∧ ∃ δ : Nat, δ ≤ 19 ∧ (lsh r c).dp = c.dp + δ ∧ (δ = 0 → c.D 0 < (lsh r c).D 0) := by
  obtain ⟨l1, l2⟩ := left_n r c hr h
  obtain ⟨b1, b2, b3⟩ := new_bounds r c hr h
  have hs := (ls1_spec c.D r.k (newDigits r c) c.nd h.dg h.top c.nd c.D c.tr 0 (Nat.le_refl _) (fun _ _ => rfl) (by rw [Nat.sub_self]; simp [tv]) (fun i h1 h2 _ => by omega) (fun h1 => by have := h.pos; omega)).2
  have hpos := h.pos
  have htop := h.top
  unfold lsh lshOf
  rw [← l1] at l2
  have hfd := h.dg 0 hpos
  unfold Dg at hfd
  have hf0 := h.first
  generalize hδ : newDigits r c = δ at *
  have h0 : δ = 0 → 1 ≤ c.nd → (ls1 r.k δ c.nd c.D 0 c.tr).1 0 = (tv c.D c.nd (c.nd - 1) * 2 ^ r.k / 10 ^ (c.nd - 1) + (c.D 0 - 48) * 2 ^ r.k) + 48 ∧ c.D 0 - 48 < (c.D 0 - 48) * 2 ^ r.k := by
    intro e _
    rw [hs.2 e hpos]
    subst e
    have hsm : tv c.D c.nd (c.nd - 1) * 2 ^ r.k / 10 ^ (c.nd - 1) + (c.D 0 - 48) * 2 ^ r.k < 10 := by
      have hv := tv_val c.D c.nd (c.nd - 1) (by omega)
      rw [show c.nd - (c.nd - 1) = 1 by omega] at hv
      have e1 : val c.D 1 = c.D 0 - 48 := by
        have e0 : val c.D 1 = 10 * 0 + (c.D 0 - 48) := rfl
        rw [e0]; omega
      rw [e1] at hv
      rw [hv] at b2
      have e2 : 10 ^ (c.nd + 0) = 10 * 10 ^ (c.nd - 1) := by
        obtain ⟨m, hm⟩ : ∃ m, c.nd = m + 1 := ⟨c.nd - 1, by omega⟩
        rw [hm, Nat.add_sub_cancel, Nat.add_zero, Nat.pow_succ, Nat.mul_comm]
      have e3 : ((c.D 0 - 48) * 10 ^ (c.nd - 1) + tv c.D c.nd (c.nd - 1)) * 2 ^ r.k = tv c.D c.nd (c.nd - 1) * 2 ^ r.k + 10 ^ (c.nd - 1) * ((c.D 0 - 48) * 2 ^ r.k) := by
        rw [Nat.add_mul, Nat.add_comm, Nat.mul_comm (c.D 0 - 48), Nat.mul_assoc]
      rw [e3, e2] at b2
      have h4 := (Nat.div_lt_iff_lt_mul (Nat.pow_pos (by omega : 0 < 10))).2 b2
      rw [Nat.add_mul_div_left _ _ (Nat.pow_pos (by omega))] at h4
      exact h4
    rw [Nat.mod_eq_of_lt hsm]
    refine ⟨rfl, ?_⟩
    have hk : 2 ≤ 2 ^ r.k := by
      have := Nat.pow_le_pow_right (by omega : 1 ≤ 2) hr.k1
      simpa using this
    have := Nat.mul_le_mul_left (c.D 0 - 48) hk
    omega
  obtain ⟨m1, m2, m3⟩ := ls2_spec δ (ls1 r.k δ c.nd c.D 0 c.tr).1 (ls1 r.k δ c.nd c.D 0 c.tr).2.1 (ls1 r.k δ c.nd c.D 0 c.tr).2.2 (by omega) l2
  generalize ls2 δ (ls1 r.k δ c.nd c.D 0 c.tr).1 (ls1 r.k δ c.nd c.D 0 c.tr).2.1 (ls1 r.k δ c.nd c.D 0 c.tr).2.2 = P at *
  have hdg : ∀ i, i < min (c.nd + δ) 800 → Dg (P.1 i) := by
    intro i hi
    by_cases hid : i < δ
    · exact m1 i hid
    · rw [m2 i (by omega)]
      exact hs.1 i (by omega) (by omega) (by omega)
  have hfirst : 49 ≤ P.1 0 ∧ (δ = 0 → c.D 0 < P.1 0) := by
    by_cases hd : δ = 0
    · obtain ⟨q1, q2⟩ := h0 hd hpos
      rw [m2 0 (by omega), q1]
      generalize tv c.D c.nd (c.nd - 1) * 2 ^ r.k / 10 ^ (c.nd - 1) = Q at *
      exact ⟨by omega, fun _ => by omega⟩
    · exact ⟨m3 (by omega), fun e => absurd e hd⟩
  obtain ⟨g1, g2, g3⟩ := cut_good P.1 (min (c.nd + δ) 800) (c.dp + (δ : Int)) P.2 hdg (by omega) (by omega) (by omega)
  refine ⟨g1, δ, b1, g2, fun e => ?_⟩
  rw [g3]
  exact hfirst.2 e

/-- A shift to the right: what is read first. None: a number that is 0. -/
def rs0 (k : Nat) : Nat → Nat → Nat → Nat × Nat
  | 0, r, n => (r, n)
  | f + 1, r, n => if n / 2 ^ k = 0 then rs0 k f (r + 1) (n * 10) else (r, n)
def rs1 (D : Nat → Nat) (nd k : Nat) : Nat → Nat → Nat → Nat × Nat
  | 0, r, n => rs0 k (2 ^ k) r n
  | f + 1, r, n => if n / 2 ^ k = 0 then (if nd ≤ r then rs0 k (2 ^ k) r n else rs1 D nd k f (r + 1) (n * 10 + (D r - 48))) else (r, n)
def rs2 (k : Nat) : Nat → Nat → Nat → Nat → (Nat → Nat) → (Nat → Nat) × Nat × Nat
  | 0, _, w, n, D => (D, w, n)
  | f + 1, r, w, n, D => rs2 k f (r + 1) (w + 1) (n % 2 ^ k * 10 + (D r - 48)) (upd D w (n / 2 ^ k + 48))
def rs3 (k : Nat) : Nat → Nat → Nat → (Nat → Nat) → Bool → (Nat → Nat) × Nat × Bool
  | 0, w, _, D, t => (D, w, t)
  | f + 1, w, n, D, t => if n = 0 then (D, w, t) else if w < 800 then rs3 k f (w + 1) (n % 2 ^ k * 10) (upd D w (n / 2 ^ k + 48)) t else rs3 k f w (n % 2 ^ k * 10) D (t || decide (0 < n / 2 ^ k))
def rshOf (k : Nat) (c : Dc) (A : Nat × Nat) : Dc :=
  cut (rs3 k (k + 1) (rs2 k (c.nd - A.1) A.1 0 A.2 c.D).2.1 (rs2 k (c.nd - A.1) A.1 0 A.2 c.D).2.2 (rs2 k (c.nd - A.1) A.1 0 A.2 c.D).1 c.tr).1
    (rs3 k (k + 1) (rs2 k (c.nd - A.1) A.1 0 A.2 c.D).2.1 (rs2 k (c.nd - A.1) A.1 0 A.2 c.D).2.2 (rs2 k (c.nd - A.1) A.1 0 A.2 c.D).1 c.tr).2.1 (c.dp - ((A.1 : Int) - 1))
    (rs3 k (k + 1) (rs2 k (c.nd - A.1) A.1 0 A.2 c.D).2.1 (rs2 k (c.nd - A.1) A.1 0 A.2 c.D).2.2 (rs2 k (c.nd - A.1) A.1 0 A.2 c.D).1 c.tr).2.2
def rsh (k : Nat) (c : Dc) : Dc := rshOf k c (rs1 c.D c.nd k c.nd 0 0)

theorem rs0_spec (k : Nat) : ∀ f r n, 1 ≤ n → n < 10 * 2 ^ k → 2 ^ k ≤ n + f → r ≤ (rs0 k f r n).1 ∧ 1 ≤ (rs0 k f r n).2 / 2 ^ k ∧ (rs0 k f r n).2 < 10 * 2 ^ k ∧ ((rs0 k f r n).1 = r → (rs0 k f r n).2 = n) := by
  intro f
  have hp : 0 < 2 ^ k := Nat.pow_pos (by omega)
  induction f with
  | zero =>
    intro r n h1 h2 h3
    exact ⟨Nat.le_refl _, (show 1 ≤ n / 2 ^ k from (Nat.le_div_iff_mul_le hp).2 (by omega)), h2, fun _ => rfl⟩
  | succ f ih =>
    intro r n h1 h2 h3
    unfold rs0
    by_cases h : n / 2 ^ k = 0
    · rw [if_pos h]
      have hlt : n < 2 ^ k := (Nat.div_eq_zero_iff_lt hp).1 h
      obtain ⟨a, b, c, d⟩ := ih (r + 1) (n * 10) (by omega) (by omega) (by omega)
      exact ⟨by omega, b, c, fun e => by omega⟩
    · rw [if_neg h]
      exact ⟨Nat.le_refl _, Nat.pos_of_ne_zero h, h2, fun _ => rfl⟩
theorem rs1_spec (D : Nat → Nat) (nd k : Nat) (hD : ∀ i, i < nd → Dg (D i)) (h0 : D 0 ≠ 48) (h1 : 1 ≤ nd) : ∀ f r n, r + f = nd → (r = 0 ∧ n = 0 ∨ 1 ≤ r ∧ 1 ≤ n ∧ n < 10 * 2 ^ k ∧ (r = 1 → n = D 0 - 48)) →
    1 ≤ (rs1 D nd k f r n).1 ∧ 1 ≤ (rs1 D nd k f r n).2 / 2 ^ k ∧ (rs1 D nd k f r n).2 < 10 * 2 ^ k ∧ ((rs1 D nd k f r n).1 = 1 → (rs1 D nd k f r n).2 = D 0 - 48) := by
  intro f
  have hp : 0 < 2 ^ k := Nat.pow_pos (by omega)
  induction f with
  | zero =>
    intro r n hr h
    have h : 1 ≤ r ∧ 1 ≤ n ∧ n < 10 * 2 ^ k ∧ (r = 1 → n = D 0 - 48) := by
      rcases h with ⟨a, _⟩ | h
      · omega
      · exact h
    obtain ⟨a, b, c, d⟩ := rs0_spec k (2 ^ k) r n h.2.1 h.2.2.1 (by omega)
    refine ⟨Nat.le_trans h.1 a, b, c, fun e => ?_⟩
    have e2 : (rs0 k (2 ^ k) r n).1 = 1 := e
    rw [show (rs1 D nd k 0 r n).2 = (rs0 k (2 ^ k) r n).2 from rfl, d (by omega)]
    exact h.2.2.2 (by omega)
  | succ f ih =>
    intro r n hr h
    unfold rs1
    by_cases hz : n / 2 ^ k = 0
    · rw [if_pos hz, if_neg (by omega)]
      have hlt : n < 2 ^ k := (Nat.div_eq_zero_iff_lt hp).1 hz
      obtain ⟨d1, d2⟩ := hD r (by omega)
      refine ih (r + 1) _ (by omega) (.inr ⟨by omega, ?_, by omega, fun e => ?_⟩)
      · rcases h with ⟨a, b⟩ | h
        · subst a
          omega
        · omega
      · have hr0 : r = 0 := by omega
        subst hr0
        rcases h with ⟨_, b⟩ | h
        · rw [b]; omega
        · omega
    · rw [if_neg hz]
      rcases h with ⟨_, b⟩ | h
      · subst b
        exact absurd (Nat.zero_div _) hz
      · exact ⟨h.1, Nat.pos_of_ne_zero hz, h.2.2.1, h.2.2.2⟩
theorem dig_of {n k : Nat} (h : n < 10 * 2 ^ k) : Dg (n / 2 ^ k + 48) := by
  have := (Nat.div_lt_iff_lt_mul (Nat.pow_pos (by omega : 0 < 2) : 0 < 2 ^ k)).2 h
  generalize n / 2 ^ k = q at *
  unfold Dg
  omega
theorem rest_lt (n k d : Nat) (hd : d ≤ 9) : n % 2 ^ k * 10 + d < 10 * 2 ^ k := by
  have := Nat.mod_lt n (Nat.pow_pos (by omega : 0 < 2) : 0 < 2 ^ k)
  omega
theorem rs2_spec (D0 : Nat → Nat) (nd k : Nat) (hD : ∀ i, i < nd → Dg (D0 i)) : ∀ f r w n D, r + f = nd → w < r → n < 10 * 2 ^ k → (∀ i, r ≤ i → i < nd → D i = D0 i) → (∀ i, i < w → Dg (D i)) →
    (rs2 k f r w n D).2.1 = w + f ∧ (rs2 k f r w n D).2.2 < 10 * 2 ^ k ∧ (∀ i, i < w + f → Dg ((rs2 k f r w n D).1 i)) ∧ (∀ i, i < w → (rs2 k f r w n D).1 i = D i) ∧ (1 ≤ f → (rs2 k f r w n D).1 w = n / 2 ^ k + 48) ∧ (f = 0 → (rs2 k f r w n D).2.2 = n) := by
  intro f
  induction f with
  | zero =>
    intro r w n D hr hw hn hs hd
    exact ⟨rfl, hn, fun i hi => hd i hi, fun i _ => rfl, fun h => by omega, fun _ => rfl⟩
  | succ f ih =>
    intro r w n D hr hw hn hs hd
    unfold rs2
    obtain ⟨d1, d2⟩ := hD r (by omega)
    have hr0 := hs r (Nat.le_refl _) (by omega)
    obtain ⟨a, b, c, d, e, _⟩ := ih (r + 1) (w + 1) (n % 2 ^ k * 10 + (D r - 48)) (upd D w (n / 2 ^ k + 48)) (by omega) (by omega) (rest_lt _ _ _ (by omega))
      (fun i h1 h2 => by rw [upd_ne _ _ _ _ (by omega)]; exact hs i (by omega) h2)
      (fun i hi => by
        by_cases he : i = w
        · rw [he, upd_at]; exact dig_of hn
        · rw [upd_ne _ _ _ _ he]; exact hd i (by omega))
    refine ⟨by rw [a]; omega, b, fun i hi => c i (by omega), fun i hi => ?_, fun _ => ?_, fun h => by omega⟩
    · rw [d i (by omega), upd_ne _ _ _ _ (by omega)]
    · rw [d w (by omega), upd_at]
theorem rs3_spec (k : Nat) : ∀ f w n D t, w ≤ 800 → n < 10 * 2 ^ k → (f = 0 → n = 0) → (∀ i, i < w → Dg (D i)) →
    (f ≤ k + 1) → (1 ≤ f → 2 ^ (k + 1 - f) ∣ n) →
    w ≤ (rs3 k f w n D t).2.1 ∧ (rs3 k f w n D t).2.1 ≤ 800 ∧ (∀ i, i < (rs3 k f w n D t).2.1 → Dg ((rs3 k f w n D t).1 i)) ∧ (∀ i, i < w → (rs3 k f w n D t).1 i = D i) ∧ (w < 800 → n ≠ 0 → w + 1 ≤ (rs3 k f w n D t).2.1 ∧ (rs3 k f w n D t).1 w = n / 2 ^ k + 48) := by
  intro f
  induction f with
  | zero =>
    intro w n D t hw hn h0 hd _ _
    exact ⟨Nat.le_refl _, hw, fun i hi => hd i hi, fun i _ => rfl, fun _ h => absurd (h0 rfl) h⟩
  | succ f ih =>
    intro w n D t hw hn h0 hd hf hdv
    have hdv := hdv (by omega)
    unfold rs3
    by_cases hz : n = 0
    · rw [if_pos hz]
      exact ⟨Nat.le_refl _, hw, fun i hi => hd i hi, fun i _ => rfl, fun _ h => absurd hz h⟩
    · rw [if_neg hz]
      have hn2 : n % 2 ^ k * 10 < 10 * 2 ^ k := by have := rest_lt n k 0 (by omega); omega
      have hz2 : f = 0 → n % 2 ^ k * 10 = 0 := by
        intro e
        subst e
        have e2 : 2 ^ k ∣ n := by simpa using hdv
        rw [Nat.mod_eq_zero_of_dvd e2]
      have hdv2 : 1 ≤ f → 2 ^ (k + 1 - f) ∣ n % 2 ^ k * 10 := by
        intro h1
        obtain ⟨m, hm⟩ : ∃ m, k + 1 - f = m + 1 := ⟨k - f, by omega⟩
        have hm2 : k + 1 - (f + 1) = m := by omega
        rw [hm2] at hdv
        rw [hm, Nat.pow_succ]
        refine Nat.mul_dvd_mul ?_ ⟨5, rfl⟩
        exact (Nat.dvd_mod_iff (Nat.pow_dvd_pow 2 (by omega))).2 hdv
      by_cases h8 : w < 800
      · rw [if_pos h8]
        obtain ⟨a, b, c, d, _⟩ := ih (w + 1) (n % 2 ^ k * 10) (upd D w (n / 2 ^ k + 48)) t (by omega) hn2 hz2
          (fun i hi => by
            by_cases he : i = w
            · rw [he, upd_at]; exact dig_of hn
            · rw [upd_ne _ _ _ _ he]; exact hd i (by omega)) (by omega) hdv2
        refine ⟨by omega, b, c, fun i hi => ?_, fun _ _ => ⟨a, ?_⟩⟩
        · rw [d i (by omega), upd_ne _ _ _ _ (by omega)]
        · rw [d w (by omega), upd_at]
      · rw [if_neg h8]
        obtain ⟨a, b, c, d, _⟩ := ih w (n % 2 ^ k * 10) D (t || decide (0 < n / 2 ^ k)) hw hn2 hz2 hd (by omega) hdv2
        exact ⟨a, b, c, d, fun h => absurd h h8⟩

theorem rsh_good (k : Nat) (c : Dc) (hk : 1 ≤ k) (h : Good c) : Good (rsh k c) ∧ ∃ r : Nat, (rsh k c).dp = c.dp - r ∧ (r = 0 → (rsh k c).D 0 < c.D 0) := by
  obtain ⟨a1, a2, a3, a4⟩ := rs1_spec c.D c.nd k h.dg h.first h.pos c.nd 0 0 (by omega) (.inl ⟨rfl, rfl⟩)
  unfold rsh
  generalize rs1 c.D c.nd k c.nd 0 0 = A at *
  obtain ⟨r, n⟩ := A
  simp only at a1 a2 a3 a4
  have htop := h.top
  have hp : 0 < 2 ^ k := Nat.pow_pos (by omega)
  have hn0 : n ≠ 0 := by
    intro e
    rw [e, Nat.zero_div] at a2
    omega
  obtain ⟨f1, f2⟩ := h.dg 0 h.pos
  have f0 := h.first
  have hfirst : r = 1 → n / 2 ^ k + 48 < c.D 0 := by
    intro e
    rw [a4 e] at a2 ⊢
    have hk2 : 2 ≤ 2 ^ k := by
      have := Nat.pow_le_pow_right (by omega : 1 ≤ 2) hk
      simpa using this
    have : (c.D 0 - 48) / 2 ^ k ≤ (c.D 0 - 48) / 2 := Nat.div_le_div_left hk2 (by omega)
    omega
  unfold rshOf
  simp only
  by_cases hr : r < c.nd
  · obtain ⟨b1, b2, b3, b4, b5, _⟩ := rs2_spec c.D c.nd k h.dg (c.nd - r) r 0 n c.D (by omega) (by omega) a3 (fun _ _ _ => rfl) (fun i hi => by omega)
    generalize rs2 k (c.nd - r) r 0 n c.D = Q at *
    obtain ⟨D1, w1, n1⟩ := Q
    simp only at b1 b2 b3 b4 b5 ⊢
    obtain ⟨c1, c2, c3, c4, _⟩ := rs3_spec k (k + 1) w1 n1 D1 c.tr (by omega) b2 (fun e => by omega) (fun i hi => b3 i (by omega)) (Nat.le_refl _) (fun _ => by simp)
    generalize rs3 k (k + 1) w1 n1 D1 c.tr = P at *
    have e0 : P.1 0 = n / 2 ^ k + 48 := by rw [c4 0 (by omega), b5 (by omega)]
    obtain ⟨g1, g2, g3⟩ := cut_good P.1 P.2.1 (c.dp - ((r : Int) - 1)) P.2.2 c3 (by omega) c2 (by omega)
    refine ⟨g1, r - 1, by rw [g2]; omega, fun e => ?_⟩
    rw [g3, e0]
    exact hfirst (by omega)
  · have e : c.nd - r = 0 := by omega
    rw [e, show rs2 k 0 r 0 n c.D = (c.D, 0, n) from rfl]
    simp only
    obtain ⟨c1, c2, c3, c4, c5⟩ := rs3_spec k (k + 1) 0 n c.D c.tr (by omega) a3 (fun e => by omega) (fun i hi => by omega) (Nat.le_refl _) (fun _ => by simp)
    obtain ⟨c6, c7⟩ := c5 (by omega) hn0
    generalize rs3 k (k + 1) 0 n c.D c.tr = P at *
    obtain ⟨g1, g2, g3⟩ := cut_good P.1 P.2.1 (c.dp - ((r : Int) - 1)) P.2.2 c3 (by omega) c2 (by omega)
    refine ⟨g1, r - 1, by rw [g2]; omega, fun e => ?_⟩
    rw [g3, c7]
    exact hfirst (by omega)
end PF
end Go.Proofs.YtelphbcdjfdjpaaGreatDoor
namespace Go.Proofs.YtelphbcdjfdjpaaGreatDoor
set_option linter.all false
namespace PF

def cheat (k : Nat) : Nat × List UInt8 := Go.Pinned.cheatRows.getD k (0, [])
def rowOf (k : Nat) : Row := ⟨k, (cheat k).1, fun i => ((cheat k).2.getD i 0).toNat, (cheat k).2.length⟩
def rowB (k : Nat) : Bool :=
  decide (1 ≤ k) && decide (1 ≤ (rowOf k).δ) && decide ((rowOf k).δ ≤ 19) && Nat.ble (2 ^ k) (10 ^ (rowOf k).δ) && Nat.ble (10 ^ ((rowOf k).δ - 1)) (2 ^ k) &&
  Nat.beq ((rowOf k).L + (rowOf k).δ) (k + 1) && ((cheat k).2.all fun b => Nat.ble 48 b.toNat && Nat.ble b.toNat 57) && !Nat.beq ((rowOf k).S ((rowOf k).L - 1)) 48 && Nat.beq (val (rowOf k).S (rowOf k).L) (5 ^ k)
theorem row_ok (k : Nat) (h : rowB k = true) : RowOk (rowOf k) := by
  unfold rowB at h
  simp only [Bool.and_eq_true, decide_eq_true_eq, Nat.ble_eq, Bool.not_eq_true', List.all_eq_true] at h
  obtain ⟨⟨⟨⟨⟨⟨⟨⟨h1, h2⟩, h3⟩, h4⟩, h5⟩, h6⟩, h7⟩, h8⟩, h9⟩ := h
  refine ⟨h1, h2, h3, h4, h5, Nat.eq_of_beq_eq_true h6, fun i hi => ?_, fun e => ?_, Nat.eq_of_beq_eq_true h9⟩
  · have hi' : i < (cheat k).2.length := hi
    have hm := h7 _ (List.getElem_mem hi')
    show Dg ((cheat k).2.getD i 0).toNat
    rw [List.getD_eq_getElem?_getD, List.getElem?_eq_getElem hi', Option.getD_some]
    exact hm
  · rw [e] at h8
    exact absurd h8 (by decide)
/-- How far a point m places off is shifted at once. -/
def stepOf (m : Nat) : Nat := if 9 ≤ m then 27 else [1, 3, 6, 9, 13, 16, 19, 23, 26].getD m 0
theorem step_row (m : Nat) : rowB (stepOf m) = true := by
  unfold stepOf
  split
  · kernel_rfl
  · rcases (by omega : m = 0 ∨ m = 1 ∨ m = 2 ∨ m = 3 ∨ m = 4 ∨ m = 5 ∨ m = 6 ∨ m = 7 ∨ m = 8) with rfl | rfl | rfl | rfl | rfl | rfl | rfl | rfl | rfl <;> kernel_rfl
theorem row_53 : rowB 53 = true := by kernel_rfl
theorem step_le (m : Nat) : 1 ≤ stepOf m ∧ stepOf m ≤ 27 := by
  unfold stepOf
  split
  · omega
  · rcases (by omega : m = 0 ∨ m = 1 ∨ m = 2 ∨ m = 3 ∨ m = 4 ∨ m = 5 ∨ m = 6 ∨ m = 7 ∨ m = 8) with rfl | rfl | rfl | rfl | rfl | rfl | rfl | rfl | rfl <;> decide
/-- The point is brought to the first digit, from behind it .. -/
def fb1 : Nat → Dc → Int → Dc × Int
  | 0, c, e => (c, e)
  | f + 1, c, e => if 0 < c.dp then fb1 f (rsh (stepOf c.dp.toNat) c) (e + stepOf c.dp.toNat) else (c, e)
def ms1 (c : Dc) : Nat := 10 * c.dp.toNat + (c.D 0 - 48)
theorem fb1_less (c : Dc) (h : Good c) (hp : 0 < c.dp) : Good (rsh (stepOf c.dp.toNat) c) ∧ ms1 (rsh (stepOf c.dp.toNat) c) < ms1 c ∧ (rsh (stepOf c.dp.toNat) c).dp ≤ c.dp := by
  obtain ⟨g, r, hr, h0⟩ := rsh_good (stepOf c.dp.toNat) c (step_le _).1 h
  obtain ⟨a1, a2⟩ := g.dg 0 g.pos
  obtain ⟨b1, b2⟩ := h.dg 0 h.pos
  have b3 := h.first
  refine ⟨g, ?_, by omega⟩
  unfold ms1
  rw [hr]
  by_cases hz : r = 0
  · have := h0 hz
    omega
  · omega
/-- .. and from ahead of it. -/
def under (c : Dc) : Bool := decide (c.dp < 0) || (decide (c.dp = 0) && decide (c.D 0 < 53))
def fb2 : Nat → Dc → Int → Dc × Int
  | 0, c, e => (c, e)
  | f + 1, c, e => if under c then fb2 f (lsh (rowOf (stepOf (-c.dp).toNat)) c) (e - stepOf (-c.dp).toNat) else (c, e)
def ms2 (c : Dc) : Nat := if c.dp ≤ 0 then 10 * (-c.dp).toNat + (57 - c.D 0) + 1 else 0
theorem fb2_less (c : Dc) (h : Good c) (hp : under c = true) : Good (lsh (rowOf (stepOf (-c.dp).toNat)) c) ∧ ms2 (lsh (rowOf (stepOf (-c.dp).toNat)) c) < ms2 c ∧ c.dp ≤ (lsh (rowOf (stepOf (-c.dp).toNat)) c).dp ∧ (lsh (rowOf (stepOf (-c.dp).toNat)) c).dp ≤ 19 := by
  obtain ⟨g, δ, hd, hr, h0⟩ := lsh_good _ c (row_ok _ (step_row (-c.dp).toNat)) h
  obtain ⟨a1, a2⟩ := g.dg 0 g.pos
  have a3 := g.first
  obtain ⟨b1, b2⟩ := h.dg 0 h.pos
  have hle : c.dp ≤ 0 := by
    unfold under at hp
    simp only [Bool.or_eq_true, Bool.and_eq_true, decide_eq_true_eq] at hp
    omega
  refine ⟨g, ?_, by omega, by omega⟩
  unfold ms2
  rw [hr]
  by_cases hz : δ = 0
  · have := h0 hz
    rw [if_pos (by omega), if_pos hle]
    omega
  · rw [if_pos hle]
    split <;> omega
end PF
end Go.Proofs.YtelphbcdjfdjpaaGreatDoor
