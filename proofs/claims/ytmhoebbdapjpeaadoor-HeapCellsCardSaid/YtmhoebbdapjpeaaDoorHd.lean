/- Layer 8: which values are right. Conditions: those that each theorem names. -/
import Derived.Test.YtmhoebbdapjpeaaDoorY4
import Derived.Laws.FloatBits
import Derived.Laws.Externs
namespace Go.Proofs.YtmhoebbdapjpeaaDoor
open Go.RowKit Go.Maps
set_option linter.all false

def nanF (b : Nat) : Bool := !(FloatKind.f64.format.order b b == some Ordering.eq)
theorem isNaN_all (b : Nat) (w : World) : Calls Tryd.prog 86 #[.float .f64 b] w fun e w' => e = .returned (.bool (nanF b)) ∧ w = w' := by
  unfold nanF
  go_enter Tryd.func86, Tryd.ntmps86
  go_wp2
  go_ret
  exact ⟨rfl, rfl⟩
theorem x_bits (v : Nat) (W : World) : (callFunc 71 #[.float .f64 v]).run Tryd.prog W = .ok (.value (.int .u64 (v : Int))) W := by
  rw [run_callFunc_extern Tryd.func71 (by kernel_rfl) (by kernel_rfl) (by kernel_rfl) (e := Extern.MathFloatBits.float64bits) (by kernel_rfl) #[.float .f64 v] W]
  rfl
def signF (b : Nat) : Bool := decide (wrap64 (b : Int) < 0)
theorem signbit_all (b : Nat) (w : World) : Calls Tryd.prog 87 #[.float .f64 b] w fun e w' => e = .returned (.bool (signF b)) ∧ w = w' := by
  have x1 := x_bits
  unfold signF
  go_enter Tryd.func87, Tryd.ntmps87
  go_wp2
  go_ret
  exact ⟨rfl, rfl⟩
def eqF (a b : Nat) : Bool := FloatKind.f64.format.order a b == some Ordering.eq
def sameF (a b : Nat) : Bool := if (nanF a || nanF b) = true then nanF a && nanF b else eqF a b && (signF a == signF b)
theorem same_all (a b : Nat) (w : World) : Calls Tryd.prog 75 #[.float .f64 a, .float .f64 b] w fun e w' => e = .returned (.bool (sameF a b)) ∧ w = w' := by
  have hn := isNaN_all
  have hs := signbit_all
  have he : eqF a b = (FloatKind.f64.format.order a b == some Ordering.eq) := rfl
  unfold sameF
  rw [he]
  clear he
  generalize nanF = nf at *
  generalize signF = gf at *
  cases hna : nf a <;> cases hnb : nf b <;> cases he : (FloatKind.f64.format.order a b == some Ordering.eq)
  all_goals
    go_enter Tryd.func75, Tryd.ntmps75
    go_wp2_with (first | (go_at_call 86; ((with_reducible refine (hn _ _).mono ?_); rintro e w' ⟨rfl, rfl⟩)) | (go_at_call 87; ((with_reducible refine (hs _ _).mono ?_); rintro e w' ⟨rfl, rfl⟩)))
    go_ret
    exact ⟨rfl, rfl⟩
def rightNum (k : Int) (n : Nat) : Bool := decide (k = 3) || sameF n 0 || (decide (k = 2) && eqF n 4607182418800017408)
theorem rightNum_any (k : Int) (n : Nat) (T : ByteArray) (r : Int) (w : World) : Calls Tryd.prog 64 #[.agg #[.int .i64 k, .float .f64 n, .string T, .int .i64 r]] w fun e w' => e = .returned (.bool (rightNum k n)) ∧ Below w.heap.size w w' := by
  have hs := same_all
  have he : eqF n 4607182418800017408 = (FloatKind.f64.format.order n 4607182418800017408 == some Ordering.eq) := rfl
  unfold rightNum
  rw [he]
  clear he
  have hst := store_float
  by_cases h3 : k = 3
  · subst h3
    go_enter Tryd.func64, Tryd.ntmps64
    go_wp2
    go_ret
    exact ⟨rfl, (Below.refl _ _).alloc (Nat.le_refl _) _⟩
  · have h3' : (k == 3) = false := by simpa using h3
    rw [decide_eq_false h3]
    clear h3
    cases hq : sameF n 0
    · by_cases h2 : k = 2
      · subst h2
        go_enter Tryd.func64, Tryd.ntmps64
        go_wp2_with (go_at_call 75; ((with_reducible refine (hs _ _ _).mono ?_); rintro e w' ⟨rfl, rfl⟩))
        go_ret
        exact ⟨rfl, (Below.refl _ _).alloc (Nat.le_refl _) _⟩
      · have h2' : (k == 2) = false := by simpa using h2
        rw [decide_eq_false h2]
        clear h2
        go_enter Tryd.func64, Tryd.ntmps64
        go_wp2_with (go_at_call 75; ((with_reducible refine (hs _ _ _).mono ?_); rintro e w' ⟨rfl, rfl⟩))
        go_ret
        exact ⟨rfl, (Below.refl _ _).alloc (Nat.le_refl _) _⟩
    · go_enter Tryd.func64, Tryd.ntmps64
      go_wp2_with (go_at_call 75; ((with_reducible refine (hs _ _ _).mono ?_); rintro e w' ⟨rfl, rfl⟩))
      go_ret
      exact ⟨rfl, (Below.refl _ _).alloc (Nat.le_refl _) _⟩
def rightText (k : Int) (t : List UInt8) : Bool := if k = 4 then decide (t.length % 2 = 0) else t.isEmpty
theorem rightText_any (k : Int) (n : Nat) (t : List UInt8) (ht : t.length ≤ maxLen) (r : Int) (w : World) : Calls Tryd.prog 65 #[.agg #[.int .i64 k, .float .f64 n, .string (bs t), .int .i64 r]] w fun e w' => e = .returned (.bool (rightText k t)) ∧ Below w.heap.size w w' := by
  have hst := store_float
  have hsz : (bs t).size = t.length := bs_size t
  have hd : (bs t).toList.isEmpty = t.isEmpty := by rw [Lib.toList_data]; rfl
  unfold rightText
  unfold maxLen at ht
  by_cases h4 : k = 4
  · subst h4
    rw [if_pos rfl]
    rw [← hsz] at ht ⊢
    clear hd hsz
    generalize bs t = S at *
    go_enter Tryd.func65, Tryd.ntmps65
    go_wp2
    go_ret
    exact ⟨ret_bool (by rw [Bool.eq_iff_iff]; simp only [decide_eq_true_eq, beq_iff_eq]; omega), (Below.refl _ _).alloc (Nat.le_refl _) _⟩
  · rw [if_neg h4]
    have h4' : (k == 4) = false := by simpa using h4
    rw [← hd]
    clear h4 hd hsz
    generalize bs t = S at *
    go_enter Tryd.func65, Tryd.ntmps65
    go_wp2
    go_ret
    exact ⟨rfl, (Below.refl _ _).alloc (Nat.le_refl _) _⟩
def rightRef (m : Nat) (k r : Int) : Bool := if k = 5 then decide (0 ≤ r) && decide (r < (m : Int)) else if k = 6 then decide (0 ≤ r) else decide (r = 0)
theorem rightRef_any (h : Nat) (p : Option Addr) (m cap : Nat) (left : Int) (k : Int) (n : Nat) (T : ByteArray) (r : Int) (w : World) (H : HpC h (.slice p m cap) left w) :
    Calls Tryd.prog 66 #[.pointer (some ⟨h, 0, none⟩), .agg #[.int .i64 k, .float .f64 n, .string T, .int .i64 r]] w fun e w' => e = .returned (.bool (rightRef m k r)) ∧ Below w.heap.size w w' := by
  have hst := store_float
  have hh : ∀ o, Calls Tryd.prog 44 #[.pointer (some ⟨h, 0, none⟩), .int .i64 r] (w.alloc o) fun e w' => e = .returned (.bool (decide (0 ≤ r) && decide (r < (m : Int)))) ∧ w.alloc o = w' := fun o => has_any h p m cap left r (w.alloc o) ((Below.heap_alloc _ _ _ H.lt).trans H)
  unfold rightRef
  clear H
  by_cases h5 : k = 5
  · subst h5
    rw [if_pos rfl]
    generalize (decide (0 ≤ r) && decide (r < (m : Int))) = B at *
    go_enter Tryd.func66, Tryd.ntmps66
    go_wp2_with (go_at_call 44; ((with_reducible refine (hh _).mono ?_); rintro e w' ⟨rfl, rfl⟩))
    go_ret
    exact ⟨rfl, (Below.refl _ _).alloc (Nat.le_refl _) _⟩
  · have h5' : (k == 5) = false := by simpa using h5
    rw [if_neg h5]
    clear h5 hh
    by_cases h6 : k = 6
    · subst h6
      rw [if_pos rfl]
      go_enter Tryd.func66, Tryd.ntmps66
      go_wp2
      go_ret
      exact ⟨rfl, (Below.refl _ _).alloc (Nat.le_refl _) _⟩
    · have h6' : (k == 6) = false := by simpa using h6
      rw [if_neg h6]
      clear h6
      go_enter Tryd.func66, Tryd.ntmps66
      go_wp2
      go_ret
      exact ⟨ret_bool (by rw [Bool.eq_iff_iff]; simp), (Below.refl _ _).alloc (Nat.le_refl _) _⟩
def rightV (m : Nat) (v : V) : Bool := rightNum v.k v.n && rightText v.k v.t && rightRef m v.k v.r && decide (0 ≤ v.k) && decide (v.k ≤ 6)
/-- A value lies boxed in block N. -/
def Bx (N : Nat) (k : Int) (n : Nat) (S : ByteArray) (r : Int) (w : World) : Prop := w.heap[N]? = some (.cells #[.int .i64 k, .float .f64 n, .string S, .int .i64 r] 31 (0, 0))
theorem Bx.new (k : Int) (n : Nat) (S : ByteArray) (r : Int) (w : World) : Bx w.heap.size k n S r (w.alloc (.cells #[.int .i64 k, .float .f64 n, .string S, .int .i64 r] 31)) := heap_new w _
theorem Bx.cells {N : Nat} {k : Int} {n : Nat} {S : ByteArray} {r : Int} {w : World} (H : Bx N k n S r w) :
    w.cell? ⟨N, 0, none⟩ = some (.int .i64 k) ∧ w.cell? ⟨N, 1, none⟩ = some (.float .f64 n) ∧ w.cell? ⟨N, 2, none⟩ = some (.string S) ∧ w.cell? ⟨N, 3, none⟩ = some (.int .i64 r) :=
  ⟨blk_cell H 0 _ rfl, blk_cell H 1 _ rfl, blk_cell H 2 _ rfl, blk_cell H 3 _ rfl⟩
theorem Bx.below {N : Nat} {k : Int} {n : Nat} {S : ByteArray} {r : Int} {w w' : World} (H : Bx N k n S r w) (hb : Below w.heap.size w w') : Bx N k n S r w' := Below.keep hb H
set_option maxHeartbeats 1000000 in
theorem isRight_any (h : Nat) (p : Option Addr) (m cap : Nat) (left : Int) (k : Int) (n : Nat) (t : List UInt8) (ht : t.length ≤ maxLen) (r : Int) (w : World) (H : HpC h (.slice p m cap) left w) :
    Calls Tryd.prog 46 #[.pointer (some ⟨h, 0, none⟩), .agg #[.int .i64 k, .float .f64 n, .string (bs t), .int .i64 r]] w fun e w' => e = .returned (.bool (rightV m ⟨k, n, t, r⟩)) ∧ Below w.heap.size w w' := by
  have hst := store_float
  have h1 := fun W => rightNum_any k n (bs t) r W
  have h2 := fun W => rightText_any k n t ht r W
  have h3 := fun W (hW : HpC h (.slice p m cap) left W) => rightRef_any h p m cap left k n (bs t) r W hW
  have hr : rightV m ⟨k, n, t, r⟩ = (rightNum k n && rightText k t && rightRef m k r && decide (0 ≤ k) && decide (k ≤ 6)) := rfl
  rw [hr]
  obtain ⟨S, hS⟩ : ∃ S, S = bs t := ⟨_, rfl⟩
  rw [← hS] at h1 h2 h3 ⊢
  have x0 := Bx.new k n S r w
  have g0 : HpC h (.slice p m cap) left (w.alloc (.cells #[.int .i64 k, .float .f64 n, .string S, .int .i64 r] 31)) := (Below.heap_alloc _ _ _ H.lt).trans H
  have b0 : Below w.heap.size w (w.alloc (.cells #[.int .i64 k, .float .f64 n, .string S, .int .i64 r] 31)) := (Below.refl _ _).alloc (Nat.le_refl _) _
  have X0 := Lib.hid x0
  have G0 := Lib.hid g0
  have B0 := Lib.hid b0
  clear hr H ht hS x0 g0 b0
  generalize rightNum k n = B1 at *
  generalize rightText k t = B2 at *
  generalize rightRef m k r = B3 at *
  cases B1 with
  | false =>
    go_enter Tryd.func46, Tryd.ntmps46
    go_wp2_with (first | (go_at_call 64; ((with_reducible refine (h1 _).mono ?_); rintro e w1 ⟨rfl, hb1⟩)) | fail)
    go_ret
    exact ⟨rfl, B0.out.trans (hb1.mono (by simp))⟩
  | true =>
    cases B2 with
    | false =>
      go_enter Tryd.func46, Tryd.ntmps46
      go_wp2_with (first | (go_at_call 64; ((with_reducible refine (h1 _).mono ?_); rintro e w1 ⟨rfl, hb1⟩; have x1 := X0.out.below hb1; obtain ⟨y0, y1, y2, y3⟩ := x1.cells)) | (go_at_call 65; ((with_reducible refine (h2 _).mono ?_); rintro e w2 ⟨rfl, hb2⟩)) | fail)
      go_ret
      exact ⟨rfl, (B0.out.trans (hb1.mono (by simp))).trans (hb2.mono (Nat.le_trans (by simp) hb1.size))⟩
    | true =>
      cases B3 with
      | false =>
        go_enter Tryd.func46, Tryd.ntmps46
        go_wp2_with (first | (go_at_call 64; ((with_reducible refine (h1 _).mono ?_); rintro e w1 ⟨rfl, hb1⟩; have x1 := X0.out.below hb1; obtain ⟨y0, y1, y2, y3⟩ := x1.cells; have X1 := Lib.hid x1; clear x1; have G1 := Lib.hid (show HpC h (.slice p m cap) left w1 from Below.keep hb1 G0.out))) | (go_at_call 65; ((with_reducible refine (h2 _).mono ?_); rintro e w2 ⟨rfl, hb2⟩; have x2 := X1.out.below hb2; obtain ⟨z0, z1, z2, z3⟩ := x2.cells; have g2 : HpC h (.slice p m cap) left w2 := Below.keep hb2 G1.out)) | (go_at_call 66; ((with_reducible refine (h3 _ g2).mono ?_); rintro e w3 ⟨rfl, hb3⟩)) | fail)
        go_ret
        exact ⟨rfl, ((B0.out.trans (hb1.mono (by simp))).trans (hb2.mono (Nat.le_trans (by simp) hb1.size))).trans (hb3.mono (Nat.le_trans (Nat.le_trans (by simp) hb1.size) hb2.size))⟩
      | true =>
        by_cases hk0 : 0 ≤ k
        · by_cases hk6 : k ≤ 6
          · go_enter Tryd.func46, Tryd.ntmps46
            go_wp2_with (first | (go_at_call 64; ((with_reducible refine (h1 _).mono ?_); rintro e w1 ⟨rfl, hb1⟩; have x1 := X0.out.below hb1; obtain ⟨y0, y1, y2, y3⟩ := x1.cells; have X1 := Lib.hid x1; clear x1; have G1 := Lib.hid (show HpC h (.slice p m cap) left w1 from Below.keep hb1 G0.out))) | (go_at_call 65; ((with_reducible refine (h2 _).mono ?_); rintro e w2 ⟨rfl, hb2⟩; have x2 := X1.out.below hb2; obtain ⟨z0, z1, z2, z3⟩ := x2.cells; have X2 := Lib.hid x2; clear x2; have g2 : HpC h (.slice p m cap) left w2 := Below.keep hb2 G1.out)) | (go_at_call 66; ((with_reducible refine (h3 _ g2).mono ?_); rintro e w3 ⟨rfl, hb3⟩; obtain ⟨v0, v1, v2, v3⟩ := (X2.out.below hb3).cells)) | fail)
            go_ret
            exact ⟨ret_bool (by simp [hk0, hk6]), ((B0.out.trans (hb1.mono (by simp))).trans (hb2.mono (Nat.le_trans (by simp) hb1.size))).trans (hb3.mono (Nat.le_trans (Nat.le_trans (by simp) hb1.size) hb2.size))⟩
          · have hk7 : 6 < k := by omega
            clear hk6
            go_enter Tryd.func46, Tryd.ntmps46
            go_wp2_with (first | (go_at_call 64; ((with_reducible refine (h1 _).mono ?_); rintro e w1 ⟨rfl, hb1⟩; have x1 := X0.out.below hb1; obtain ⟨y0, y1, y2, y3⟩ := x1.cells; have X1 := Lib.hid x1; clear x1; have G1 := Lib.hid (show HpC h (.slice p m cap) left w1 from Below.keep hb1 G0.out))) | (go_at_call 65; ((with_reducible refine (h2 _).mono ?_); rintro e w2 ⟨rfl, hb2⟩; have x2 := X1.out.below hb2; obtain ⟨z0, z1, z2, z3⟩ := x2.cells; have X2 := Lib.hid x2; clear x2; have g2 : HpC h (.slice p m cap) left w2 := Below.keep hb2 G1.out)) | (go_at_call 66; ((with_reducible refine (h3 _ g2).mono ?_); rintro e w3 ⟨rfl, hb3⟩; obtain ⟨v0, v1, v2, v3⟩ := (X2.out.below hb3).cells)) | fail)
            go_ret
            exact ⟨ret_bool (by simp [hk0] <;> omega), ((B0.out.trans (hb1.mono (by simp))).trans (hb2.mono (Nat.le_trans (by simp) hb1.size))).trans (hb3.mono (Nat.le_trans (Nat.le_trans (by simp) hb1.size) hb2.size))⟩
        · have hk1 : k < 0 := by omega
          clear hk0
          go_enter Tryd.func46, Tryd.ntmps46
          go_wp2_with (first | (go_at_call 64; ((with_reducible refine (h1 _).mono ?_); rintro e w1 ⟨rfl, hb1⟩; have x1 := X0.out.below hb1; obtain ⟨y0, y1, y2, y3⟩ := x1.cells; have X1 := Lib.hid x1; clear x1; have G1 := Lib.hid (show HpC h (.slice p m cap) left w1 from Below.keep hb1 G0.out))) | (go_at_call 65; ((with_reducible refine (h2 _).mono ?_); rintro e w2 ⟨rfl, hb2⟩; have x2 := X1.out.below hb2; obtain ⟨z0, z1, z2, z3⟩ := x2.cells; have X2 := Lib.hid x2; clear x2; have g2 : HpC h (.slice p m cap) left w2 := Below.keep hb2 G1.out)) | (go_at_call 66; ((with_reducible refine (h3 _ g2).mono ?_); rintro e w3 ⟨rfl, hb3⟩; obtain ⟨v0, v1, v2, v3⟩ := (X2.out.below hb3).cells)) | fail)
          go_ret
          exact ⟨ret_bool (by simp <;> omega), ((B0.out.trans (hb1.mono (by simp))).trans (hb2.mono (Nat.le_trans (by simp) hb1.size))).trans (hb3.mono (Nat.le_trans (Nat.le_trans (by simp) hb1.size) hb2.size))⟩
end Go.Proofs.YtmhoebbdapjpeaaDoor
