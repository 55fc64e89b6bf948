/- The document's own comparison of lexemes, without places and lines. Conditions: those that each theorem names. -/
import Derived.Test.YtelphbcdjfdjpaaGreatDoorOd
import Derived.Test.YtelphbcdjfdjpaaGreatDoorZ27
namespace Go.Proofs.YtelphbcdjfdjpaaGreatDoor
open Go.RowKit
set_option linter.all false

theorem y_bits (v : Nat) (W : World) : (callFunc 56 #[.float .f64 v]).run Tryz.prog W = .ok (.value (.int .u64 (v : Int))) W := by
  rw [run_callFunc_extern Tryz.func56 (by kernel_rfl) (by kernel_rfl) (by kernel_rfl) (e := Extern.MathFloatBits.float64bits) (by kernel_rfl) #[.float .f64 v] W]
  rfl
theorem same4_self (n : Nat) (w : World) : Calls Tryz.prog 29 #[.float .f64 n, .float .f64 n] w fun e w' => e = .returned (.bool true) ∧ w = w' := by
  have x1 := y_bits
  cases hq : (FloatKind.f64.format.order n n != some Ordering.eq)
  · go_enter Tryz.func29, Tryz.ntmps29
    go_wp2
    go_ret
    exact ⟨rfl, rfl⟩
  · go_enter Tryz.func29, Tryz.ntmps29
    go_wp2
    go_ret
    exact ⟨rfl, rfl⟩
theorem SameL.count {L M : List X.Lx} (h : SameL L M) : L.length = M.length := by
  induction h with
  | nil => rfl
  | cons x y r q hk ht hn hy h ih => simp [ih]
theorem SameL.at {L M : List X.Lx} (h : SameL L M) : ∀ (i : Nat) (x : X.Lx), L[i]? = some x → ∃ y, M[i]? = some y ∧ x.kind = y.kind ∧ x.text = y.text ∧ x.num = y.num ∧ y.line = true := by
  induction h with
  | nil => intro i x h; simp at h
  | cons x y r q hk ht hn hy h ih =>
    intro i z hz
    cases i with
    | zero =>
      simp only [List.getElem?_cons_zero, Option.some.injEq] at hz
      subst hz
      exact ⟨y, rfl, hk, ht, hn, hy⟩
    | succ i => exact ih i z (by simpa using hz)
/-- A row of lexemes in memory, to be read in all later worlds. -/
def LxRow (L : List X.Lx) (p : Option Addr) (w : World) : Prop := L ≠ [] → ∃ g, p = some ⟨g, 0, none⟩ ∧ ∀ w', Below w.heap.size w w' → ∀ i x, L[i]? = some x → LxAt g i x w'
theorem cell_lt {w : World} {a : Addr} {v : Value} (h : w.cell? a = some v) : a.block < w.heap.size := by
  unfold World.cell? at h
  split at h
  · rename_i hb
    exact (Array.getElem?_eq_some_iff.1 hb).1
  · cases h
theorem two_new {w wr : World} (h : Below w.heap.size w wr) (o1 o2 : Obj) : ((wr.alloc o1).alloc o2).drew.heap[wr.heap.size]? = some o1 ∧ ((wr.alloc o1).alloc o2).drew.heap[wr.heap.size + 1]? = some o2 ∧ Below w.heap.size w ((wr.alloc o1).alloc o2).drew := by
  have hs : (wr.alloc o1).heap.size = wr.heap.size + 1 := heap_size _ _
  refine ⟨?_, ?_, ((h.alloc h.size _).alloc (by rw [hs]; exact Nat.le_succ_of_le h.size) _).drew⟩
  · exact Below.keep ((Below.refl _ _).alloc (Nat.le_refl _) _).drew (heap_new wr o1)
  · show ((wr.alloc o1).alloc o2).heap[wr.heap.size + 1]? = some o2
    rw [← hs]
    exact heap_new _ _
set_option maxHeartbeats 8000000 in
set_option maxRecDepth 100000 in
theorem refSame_any (L M : List X.Lx) (hs : SameL L M) (hl : L.length ≤ 100000) (p1 p2 : Option Addr) (c1 c2 : Nat) (w : World) (h1 : LxRow L p1 w) (h2 : LxRow M p2 w) :
    Calls Tryz.prog 12 #[.slice p1 L.length c1, .slice p2 M.length c2, .bool false] w fun e w' => e = .returned (.bool true) ∧ Below w.heap.size w w' := by
  rw [← hs.count]
  have hstore := store_float
  have HS := Lib.hid hs
  have H1 := Lib.hid h1
  have H2 := Lib.hid h2
  obtain ⟨n, hn⟩ : ∃ n, n = L.length := ⟨_, rfl⟩
  have HN := Lib.hid hn
  have HC := Lib.hid hs.count
  rw [← hn] at hl ⊢
  clear hs h1 h2 hn
  go_enter Tryz.func12, Tryz.ntmps12
  go_wp2
  go_loopg [7, 8, 9] n (fun g v7 v8 v9 wr => ∃ k : Nat, k + g = n ∧ v7 = .int .i64 k ∧ Below w.heap.size w wr)
  case atStart => exact ⟨0, by omega, rfl, Below.refl _ _⟩
  case round =>
    obtain ⟨k, hk, rfl, hbr⟩ := hrel
    have HBR := Lib.hid hbr
    by_cases hkn : k < n
    · have hne : L ≠ [] := by
        rintro rfl
        have := HN.out
        simp at this
        omega
      have hne2 : M ≠ [] := by
        intro hM
        have h1 := HN.out
        have h2 := HC.out
        rw [hM] at h2
        simp only [List.length_nil] at h2
        omega
      obtain ⟨x, hx⟩ : ∃ x, L[k]? = some x := ⟨L[k]'(by rw [← HN.out]; exact hkn), List.getElem?_eq_getElem _⟩
      obtain ⟨y, hy, e1, e2, e3, e4⟩ := HS.out.at k x hx
      obtain ⟨g1, rfl, hx1⟩ := H1.out hne
      obtain ⟨g2, rfl, hx2⟩ := H2.out hne2
      obtain ⟨a0, a1, a2, a3, a4⟩ := hx1 wr hbr k x hx
      obtain ⟨b0, b1, b2, b3, b4⟩ := hx2 wr hbr k y hy
      rw [← e1] at b0
      rw [← e2] at b1
      rw [← e3] at b2
      have hsame := same4_self x.num
      clear hx1 hx2 hx hy hne hne2 e1 e2 e3 e4 hbr
      generalize (x.kind : Int) = kd at *
      generalize bs x.text = T at *
      generalize x.num = nm at *
      generalize (x.place : Int) = pa at *
      generalize (y.place : Int) = pb at *
      generalize x.line = la at *
      generalize y.line = lb at *
      have k1 : (k : Int) < (n : Int) := by omega
      have k2 : IntKind.i64.wrap ((k : Int) + 1) = (k : Int) + 1 := IntWalk.i64_in _ (by omega)
      have n1 : ¬ (wr.heap.size = g1) := by have : g1 < wr.heap.size := cell_lt a0; omega
      have n2 : ¬ (wr.heap.size = g2) := by have : g2 < wr.heap.size := cell_lt b0; omega
      have n3 : ¬ (wr.heap.size + 1 = g1) := by have : g1 < wr.heap.size := cell_lt a0; omega
      have n4 : ¬ (wr.heap.size + 1 = g2) := by have : g2 < wr.heap.size := cell_lt b0; omega
      go_wp2
      clear H1 H2 HS HC
      have hS : wr.cell? ⟨g1, k * 5, none⟩ = some (.int .i64 kd) ∧ wr.cell? ⟨g1, k * 5 + 1, none⟩ = some (.string T) ∧ wr.cell? ⟨g1, k * 5 + 2, none⟩ = some (.float .f64 nm) ∧ wr.cell? ⟨g1, k * 5 + 3, none⟩ = some (.int .i64 pa) ∧ wr.cell? ⟨g1, k * 5 + 4, none⟩ = some (.bool la) ∧
  wr.cell? ⟨g2, k * 5, none⟩ = some (.int .i64 kd) ∧ wr.cell? ⟨g2, k * 5 + 1, none⟩ = some (.string T) ∧ wr.cell? ⟨g2, k * 5 + 2, none⟩ = some (.float .f64 nm) ∧ wr.cell? ⟨g2, k * 5 + 3, none⟩ = some (.int .i64 pb) ∧ wr.cell? ⟨g2, k * 5 + 4, none⟩ = some (.bool lb) := ⟨a0, a1, a2, a3, a4, b0, b1, b2, b3, b4⟩
      clear a0 a1 a2 a3 a4 b0 b1 b2 b3 b4
      go_region_held3 (fun X => X.cell? ⟨g1, k * 5, none⟩ = some (.int .i64 kd) ∧ X.cell? ⟨g1, k * 5 + 1, none⟩ = some (.string T) ∧ X.cell? ⟨g1, k * 5 + 2, none⟩ = some (.float .f64 nm) ∧ X.cell? ⟨g1, k * 5 + 3, none⟩ = some (.int .i64 pa) ∧ X.cell? ⟨g1, k * 5 + 4, none⟩ = some (.bool la) ∧
  X.cell? ⟨g2, k * 5, none⟩ = some (.int .i64 kd) ∧ X.cell? ⟨g2, k * 5 + 1, none⟩ = some (.string T) ∧ X.cell? ⟨g2, k * 5 + 2, none⟩ = some (.float .f64 nm) ∧ X.cell? ⟨g2, k * 5 + 3, none⟩ = some (.int .i64 pb) ∧ X.cell? ⟨g2, k * 5 + 4, none⟩ = some (.bool lb))
        (first | assumption | go_keep)
        (fail)
      · rename_i hHeld
        obtain ⟨t1, t2, t3⟩ := two_new HBR.out (Obj.cells #[Value.int IntKind.i64 kd, Value.string T, Value.float FloatKind.f64 nm, Value.int IntKind.i64 pa, Value.bool la] 32) (Obj.cells #[Value.int IntKind.i64 kd, Value.string T, Value.float FloatKind.f64 nm, Value.int IntKind.i64 pb, Value.bool lb] 32)
        generalize ((wr.alloc (Obj.cells #[Value.int IntKind.i64 kd, Value.string T, Value.float FloatKind.f64 nm, Value.int IntKind.i64 pa, Value.bool la] 32)).alloc (Obj.cells #[Value.int IntKind.i64 kd, Value.string T, Value.float FloatKind.f64 nm, Value.int IntKind.i64 pb, Value.bool lb] 32)).drew = W1 at *
        obtain ⟨c0, c1, c2, c3, c4⟩ := lex_cells t1
        obtain ⟨d0, d1, d2, d3, d4⟩ := lex_cells t2
        have HB1 := Lib.hid t3
        clear t1 t2 t3 hHeld n1 n2 n3 n4
        go_wp2_with (first | (go_at_call 29; refine (hsame _).mono ?_; rintro e w' ⟨rfl, rfl⟩) | fail)
        have hbn := HB1.out
        go_roundg (n - (k + 1))
        case measure => omega
        case rel => exact ⟨k + 1, by omega, by go_num, hbn⟩
      · rename_i hHeld
        obtain ⟨t1, t2, t3⟩ := two_new HBR.out (Obj.cells #[Value.int IntKind.i64 kd, Value.string T, Value.float FloatKind.f64 nm, Value.int IntKind.i64 pb, Value.bool lb] 32) (Obj.cells #[Value.int IntKind.i64 kd, Value.string T, Value.float FloatKind.f64 nm, Value.int IntKind.i64 pa, Value.bool la] 32)
        generalize ((wr.alloc (Obj.cells #[Value.int IntKind.i64 kd, Value.string T, Value.float FloatKind.f64 nm, Value.int IntKind.i64 pb, Value.bool lb] 32)).alloc (Obj.cells #[Value.int IntKind.i64 kd, Value.string T, Value.float FloatKind.f64 nm, Value.int IntKind.i64 pa, Value.bool la] 32)).drew = W1 at *
        obtain ⟨c0, c1, c2, c3, c4⟩ := lex_cells t1
        obtain ⟨d0, d1, d2, d3, d4⟩ := lex_cells t2
        have HB1 := Lib.hid t3
        clear t1 t2 t3 hHeld n1 n2 n3 n4
        go_wp2_with (first | (go_at_call 29; refine (hsame _).mono ?_; rintro e w' ⟨rfl, rfl⟩) | fail)
        have hbn := HB1.out
        go_roundg (n - (k + 1))
        case measure => omega
        case rel => exact ⟨k + 1, by omega, by go_num, hbn⟩
    · have hkk : ¬ (k : Int) < (n : Int) := by omega
      go_wp2
      go_ret
      exact ⟨rfl, HBR.out⟩
end Go.Proofs.YtelphbcdjfdjpaaGreatDoor
