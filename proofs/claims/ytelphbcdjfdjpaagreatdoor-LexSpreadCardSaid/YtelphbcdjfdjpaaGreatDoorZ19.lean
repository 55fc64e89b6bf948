/- esnum.Number at the text 0x1F, which awake asks. Conditions: those that each theorem names. esnum.Number's small parts at any wide text. Conditions: those that each theorem names. -/
import Derived.Test.YtelphbcdjfdjpaaGreatDoorZ18
namespace Go.Proofs.YtelphbcdjfdjpaaGreatDoor
open Go.RowKit
set_option linter.all false

/-- The wide text of 0x1F. -/
def hexW : List UInt8 := [0, 48, 0, 120, 0, 49, 0, 70]
def hexUnit (i : Nat) : Nat := U.g [48, 120, 49, 70] i
theorem hexW_eq : wideL [48, 120, 49, 70] = hexW := by kernel_rfl
theorem at_hex (i u : Nat) (hi : i < 4) (hu : hexUnit i = u) (w : World) :
    Calls Tryz.prog 99 #[.string (bs hexW), .int .i64 (i : Int)] w fun e w' => e = .returned (.tuple #[.int .i64 (u : Int), .bool true]) ∧ ∃ n, w' = w.drewN n := by
  have h := at_in (bs hexW) (by rw [bs_size]; decide) i (by rw [bs_size]; show 2 * i + 1 < 8; omega) w
  have e : U.unitAt (ls (bs hexW)) i = u := by
    rw [← hu]
    rcases (by omega : i = 0 ∨ i = 1 ∨ i = 2 ∨ i = 3) with rfl | rfl | rfl | rfl <;> kernel_rfl
  rw [e] at h
  exact h

theorem blank_hex (i u : Nat) (hi : i < 4) (hu : hexUnit i = u) (hb : u = 48 ∨ u = 70) (w : World) :
    Calls Tryz.prog 110 #[.string (bs hexW), .int .i64 (i : Int)] w fun e w' => e = .returned (.bool false) ∧ ∃ n, w' = w.drewN n := by
  have hat := at_hex i u hi hu
  clear hu
  rcases hb with rfl | rfl
  · go_enter Tryz.func110, Tryz.ntmps110
    go_wp2_with (go_at_call 99; refine (hat _).mono ?_; rintro e w' ⟨rfl, n, rfl⟩)
    go_ret
    exact ⟨rfl, _, rfl⟩
  · go_enter Tryz.func110, Tryz.ntmps110
    go_wp2_with (go_at_call 99; refine (hat _).mono ?_; rintro e w' ⟨rfl, n, rfl⟩)
    go_ret
    exact ⟨rfl, _, rfl⟩

theorem between_hex (w : World) :
    Calls Tryz.prog 97 #[.string (bs hexW)] w fun e w' => e = .returned (.tuple #[.int .i64 0, .int .i64 4]) ∧ ∃ n, w' = w.drewN n := by
  have hlen : ∀ w, Calls Tryz.prog 109 #[.string (bs hexW)] w fun e w' => e = .returned (.int .i64 4) ∧ w = w' := fun w => by
    have h := length_any (bs hexW) (by rw [bs_size]; decide) w
    rw [bs_size] at h
    exact h
  have h0 : ∀ w, Calls Tryz.prog 110 #[.string (bs hexW), .int .i64 0] w fun e w' => e = .returned (.bool false) ∧ ∃ n, w' = w.drewN n := fun w => blank_hex 0 48 (by omega) rfl (Or.inl rfl) w
  have h3 : ∀ w, Calls Tryz.prog 110 #[.string (bs hexW), .int .i64 3] w fun e w' => e = .returned (.bool false) ∧ ∃ n, w' = w.drewN n := fun w => blank_hex 3 70 (by omega) rfl (Or.inr rfl) w
  generalize bs hexW = S at hlen h0 h3 ⊢
  go_enter Tryz.func97, Tryz.ntmps97
  go_wp2_with (go_at_call 109; refine (hlen _).mono ?_; rintro e w' ⟨rfl, rfl⟩)
  go_loop [4] (fun v => v = .int .i64 0) (fun v => 0)
  case atStart => rfl
  case round =>
    obtain rfl := hrel
    go_wp2_with (go_at_call 110; refine (h0 _).mono ?_; rintro e w' ⟨rfl, n, rfl⟩)
    go_loop [5] (fun v => v = .int .i64 4) (fun v => 0)
    case atStart => rfl
    case round =>
      obtain rfl := hrel
      go_wp2_with (go_at_call 110; refine (h3 _).mono ?_; rintro e w' ⟨rfl, n, rfl⟩)
      go_ret2
      exact ⟨rfl, _, rfl⟩

structure LookW (a b c : Nat) (w : World) : Prop where
  c0 : w.cell? ⟨a, 0, none⟩ = some (.string (bs hexW))
  c1 : w.cell? ⟨b, 0, none⟩ = some (.int .i64 0)
  c2 : w.cell? ⟨c, 0, none⟩ = some (.int .i64 4)

theorem LookW.drewN {a b c : Nat} {w : World} (h : LookW a b c w) (n : Nat) : LookW a b c (w.drewN n) := ⟨h.c0, h.c1, h.c2⟩
def hexAt (i : Nat) : Int := if i < 4 then hexUnit i else -1
set_option maxHeartbeats 2000000 in
theorem look_hex (a b c i : Nat) (hi : i < 5) (w : World) (h : LookW a b c w) :
    Calls Tryz.prog 98 #[.int .i64 (i : Int), .pointer (some ⟨a, 0, none⟩), .pointer (some ⟨b, 0, none⟩), .pointer (some ⟨c, 0, none⟩)] w fun e w' => e = .returned (.int .i64 (hexAt i)) ∧ ∃ n, w' = w.drewN n := by
  obtain ⟨h0, h1, h2⟩ := h
  have ho : ∀ w, Calls Tryz.prog 99 #[.string (bs hexW), .int .i64 4] w fun e w' => e = .returned (.tuple #[.int .i64 0, .bool false]) ∧ ∃ n, w' = w.drewN n := fun w => at_out (bs hexW) (by rw [bs_size]; decide) 4 (Or.inr (by rw [bs_size]; decide)) w
  have p0 := at_hex 0 48 (by omega) rfl
  have p1 := at_hex 1 120 (by omega) rfl
  have p2 := at_hex 2 49 (by omega) rfl
  have p3 := at_hex 3 70 (by omega) rfl
  generalize bs hexW = S at *
  rcases (by omega : i = 0 ∨ i = 1 ∨ i = 2 ∨ i = 3 ∨ i = 4) with rfl | rfl | rfl | rfl | rfl
  · go_enter Tryz.func98, Tryz.ntmps98
    go_wp2_with (go_at_call 99; refine (p0 _).mono ?_; rintro e w' ⟨rfl, n, rfl⟩)
    go_ret
    exact ⟨rfl, _, rfl⟩
  · go_enter Tryz.func98, Tryz.ntmps98
    go_wp2_with (go_at_call 99; refine (p1 _).mono ?_; rintro e w' ⟨rfl, n, rfl⟩)
    go_ret
    exact ⟨rfl, _, rfl⟩
  · go_enter Tryz.func98, Tryz.ntmps98
    go_wp2_with (go_at_call 99; refine (p2 _).mono ?_; rintro e w' ⟨rfl, n, rfl⟩)
    go_ret
    exact ⟨rfl, _, rfl⟩
  · go_enter Tryz.func98, Tryz.ntmps98
    go_wp2_with (go_at_call 99; refine (p3 _).mono ?_; rintro e w' ⟨rfl, n, rfl⟩)
    go_ret
    exact ⟨rfl, _, rfl⟩
  · go_enter Tryz.func98, Tryz.ntmps98
    go_wp2_with (go_at_call 99; refine (ho _).mono ?_; rintro e w' ⟨rfl, n, rfl⟩)
    go_ret
    exact ⟨rfl, _, rfl⟩

def lookV (a b c : Nat) : Value := .func (.func 98) #[] #[.pointer (some ⟨a, 0, none⟩), .pointer (some ⟨b, 0, none⟩), .pointer (some ⟨c, 0, none⟩)]
theorem signAt_hex (a b c : Nat) (w : World) (h : LookW a b c w) :
    Calls Tryz.prog 112 #[.func (.func 98) #[] #[.pointer (some ⟨a, 0, none⟩), .pointer (some ⟨b, 0, none⟩), .pointer (some ⟨c, 0, none⟩)], .int .i64 0] w fun e w' => e = .returned (.tuple #[.bool false, .int .i64 0]) ∧ ∃ n, w' = w.drewN n := by
  have l0 : ∀ W, LookW a b c W → Calls Tryz.prog 98 #[.int .i64 0, .pointer (some ⟨a, 0, none⟩), .pointer (some ⟨b, 0, none⟩), .pointer (some ⟨c, 0, none⟩)] W fun e w' => e = .returned (.int .i64 (48)) ∧ ∃ n, w' = W.drewN n := fun W h => look_hex a b c 0 (by omega) W h
  go_enter Tryz.func112, Tryz.ntmps112
  go_wp2_with (with_reducible first | (refine (l0 _ (by first | exact h | exact h.drewN _)).mono ?_; rintro e w' ⟨rfl, n, rfl⟩))
  go_ret2
  exact ⟨rfl, _, rfl⟩
theorem isEndless_hex (a b c : Nat) (w : World) (h : LookW a b c w) :
    Calls Tryz.prog 116 #[.func (.func 98) #[] #[.pointer (some ⟨a, 0, none⟩), .pointer (some ⟨b, 0, none⟩), .pointer (some ⟨c, 0, none⟩)], .int .i64 0] w fun e w' => e = .returned (.bool false) ∧ ∃ n, w' = w.drewN n := by
  have l0 : ∀ W, LookW a b c W → Calls Tryz.prog 98 #[.int .i64 0, .pointer (some ⟨a, 0, none⟩), .pointer (some ⟨b, 0, none⟩), .pointer (some ⟨c, 0, none⟩)] W fun e w' => e = .returned (.int .i64 (48)) ∧ ∃ n, w' = W.drewN n := fun W h => look_hex a b c 0 (by omega) W h
  go_enter Tryz.func116, Tryz.ntmps116
  go_wp2
  go_loop [6, 5] (fun v _ => v = .int .i64 0) (fun _ _ => 0)
  case atStart => rfl
  case round =>
    obtain rfl := hrel
    go_wp2
    go_quiet ((go_at_call 98; exact Calls.quiet_of (l0 _ (h.drewN _))))
    go_wp2
    · go_ret
      exact ⟨rfl, _, rfl⟩
    · rename_i hf
      have hg : false = true := hf.symm.trans (by kernel_rfl)
      cases hg
theorem sixteenth_1 (w : World) : Calls Tryz.prog 121 #[.int .i64 49] w fun e w' => e = .returned (.int .i64 1) ∧ w' = w := by
  go_enter Tryz.func121, Tryz.ntmps121
  go_wp2
  go_ret
  exact ⟨rfl, rfl⟩
theorem sixteenth_F (w : World) : Calls Tryz.prog 121 #[.int .i64 70] w fun e w' => e = .returned (.int .i64 15) ∧ w' = w := by
  go_enter Tryz.func121, Tryz.ntmps121
  go_wp2
  go_ret
  exact ⟨rfl, rfl⟩
theorem shifted_1 (w : World) : Calls Tryz.prog 122 #[.int .u64 0, .int .i64 0, .int .u64 1] w fun e w' => e = .returned (.tuple #[.int .u64 1, .int .i64 0]) ∧ w' = w := by
  go_enter Tryz.func122, Tryz.ntmps122
  go_wp2
  go_ret2
  exact ⟨rfl, rfl⟩
theorem shifted_F (w : World) : Calls Tryz.prog 122 #[.int .u64 1, .int .i64 0, .int .u64 15] w fun e w' => e = .returned (.tuple #[.int .u64 31, .int .i64 0]) ∧ w' = w := by
  go_enter Tryz.func122, Tryz.ntmps122
  go_wp2
  go_ret2
  exact ⟨rfl, rfl⟩
theorem sixteens_hex (a b c : Nat) (w : World) (h : LookW a b c w) :
    Calls Tryz.prog 117 #[.func (.func 98) #[] #[.pointer (some ⟨a, 0, none⟩), .pointer (some ⟨b, 0, none⟩), .pointer (some ⟨c, 0, none⟩)], .int .i64 2] w fun e w' => e = .returned (.tuple #[.float .f64 b31, .bool true]) ∧ ∃ n, w' = w.drewN n := by
  have l2 : ∀ W, LookW a b c W → Calls Tryz.prog 98 #[.int .i64 2, .pointer (some ⟨a, 0, none⟩), .pointer (some ⟨b, 0, none⟩), .pointer (some ⟨c, 0, none⟩)] W fun e w' => e = .returned (.int .i64 (49)) ∧ ∃ n, w' = W.drewN n := fun W h => look_hex a b c 2 (by omega) W h
  have l3 : ∀ W, LookW a b c W → Calls Tryz.prog 98 #[.int .i64 3, .pointer (some ⟨a, 0, none⟩), .pointer (some ⟨b, 0, none⟩), .pointer (some ⟨c, 0, none⟩)] W fun e w' => e = .returned (.int .i64 (70)) ∧ ∃ n, w' = W.drewN n := fun W h => look_hex a b c 3 (by omega) W h
  have l4 : ∀ W, LookW a b c W → Calls Tryz.prog 98 #[.int .i64 4, .pointer (some ⟨a, 0, none⟩), .pointer (some ⟨b, 0, none⟩), .pointer (some ⟨c, 0, none⟩)] W fun e w' => e = .returned (.int .i64 (-1)) ∧ ∃ n, w' = W.drewN n := fun W h => look_hex a b c 4 (by omega) W h
  have hL : ∀ w, Calls Tryz.prog 123 #[.float .f64 (floatOfInt .f64 31), .int .i64 0] w fun e w' => e = .returned (.float .f64 b31) ∧ w' = w := by
    have e31 : floatOfInt FloatKind.f64 31 = b31 := by kernel_rfl
    rw [e31]
    exact mathLdexp_31
  generalize b31 = B at hL ⊢
  go_enter Tryz.func117, Tryz.ntmps117
  go_wp2_with (with_reducible first | (refine (l2 _ (by first | exact h | exact h.drewN _)).mono ?_; rintro e w' ⟨rfl, n, rfl⟩))
  go_loopg [1, 6, 7] 2 (fun g v1 v6 v7 wr => ∃ m, wr = w.drewN m ∧ (g = 2 ∧ v1 = .int .i64 2 ∧ v6 = .int .u64 0 ∧ v7 = .int .i64 0 ∨ g = 1 ∧ v1 = .int .i64 3 ∧ v6 = .int .u64 1 ∧ v7 = .int .i64 0 ∨ g = 0 ∧ v1 = .int .i64 4 ∧ v6 = .int .u64 31 ∧ v7 = .int .i64 0))
  case atStart => exact ⟨_, rfl, .inl ⟨rfl, rfl, rfl, rfl⟩⟩
  case round =>
    obtain ⟨m, rfl, hrel⟩ := hrel
    have s1 := sixteenth_1
    have s2 := sixteenth_F
    have t1 := shifted_1
    have t2 := shifted_F
    rcases hrel with ⟨rfl, rfl, rfl, rfl⟩ | ⟨rfl, rfl, rfl, rfl⟩ | ⟨rfl, rfl, rfl, rfl⟩
    · go_wp2_with (with_reducible first | (refine (l2 _ (by first | exact h | exact h.drewN _)).mono ?_; rintro e w' ⟨rfl, n, rfl⟩) | (refine (l3 _ (by first | exact h | exact h.drewN _)).mono ?_; rintro e w' ⟨rfl, n, rfl⟩) | (refine (l4 _ (by first | exact h | exact h.drewN _)).mono ?_; rintro e w' ⟨rfl, n, rfl⟩) | (refine (s1 _).mono ?_; rintro e w' ⟨rfl, rfl⟩) | (refine (t1 _).mono ?_; rintro e w' ⟨rfl, rfl⟩))
      go_roundg 1
      case measure => omega
      case rel => exact ⟨_, rfl, .inr (.inl ⟨rfl, rfl, rfl, rfl⟩)⟩
    · go_wp2_with (with_reducible first | (refine (l2 _ (by first | exact h | exact h.drewN _)).mono ?_; rintro e w' ⟨rfl, n, rfl⟩) | (refine (l3 _ (by first | exact h | exact h.drewN _)).mono ?_; rintro e w' ⟨rfl, n, rfl⟩) | (refine (l4 _ (by first | exact h | exact h.drewN _)).mono ?_; rintro e w' ⟨rfl, n, rfl⟩) | (refine (s2 _).mono ?_; rintro e w' ⟨rfl, rfl⟩) | (refine (t2 _).mono ?_; rintro e w' ⟨rfl, rfl⟩))
      go_roundg 0
      case measure => omega
      case rel => exact ⟨_, rfl, .inr (.inr ⟨rfl, rfl, rfl, rfl⟩)⟩
    · go_wp2_with (with_reducible first | (refine (l4 _ (by first | exact h | exact h.drewN _)).mono ?_; rintro e w' ⟨rfl, n, rfl⟩) | (refine (hL _).mono ?_; rintro e w' ⟨rfl, rfl⟩))
      go_ret2
      exact ⟨rfl, _, rfl⟩
theorem unsigned_hex (a b c : Nat) (w : World) (h : LookW a b c w) :
    Calls Tryz.prog 113 #[.func (.func 98) #[] #[.pointer (some ⟨a, 0, none⟩), .pointer (some ⟨b, 0, none⟩), .pointer (some ⟨c, 0, none⟩)], .int .i64 0] w fun e w' => e = .returned (.tuple #[.float .f64 b31, .bool true]) ∧ ∃ n, w' = w.drewN n := by
  have l0 : ∀ W, LookW a b c W → Calls Tryz.prog 98 #[.int .i64 0, .pointer (some ⟨a, 0, none⟩), .pointer (some ⟨b, 0, none⟩), .pointer (some ⟨c, 0, none⟩)] W fun e w' => e = .returned (.int .i64 (48)) ∧ ∃ n, w' = W.drewN n := fun W h => look_hex a b c 0 (by omega) W h
  have l1 : ∀ W, LookW a b c W → Calls Tryz.prog 98 #[.int .i64 1, .pointer (some ⟨a, 0, none⟩), .pointer (some ⟨b, 0, none⟩), .pointer (some ⟨c, 0, none⟩)] W fun e w' => e = .returned (.int .i64 (120)) ∧ ∃ n, w' = W.drewN n := fun W h => look_hex a b c 1 (by omega) W h
  have he := isEndless_hex a b c
  have hs := sixteens_hex a b c
  generalize b31 = B at hs ⊢
  go_enter Tryz.func113, Tryz.ntmps113
  go_wp2_with (with_reducible first | (refine (l0 _ (by first | exact h | exact h.drewN _)).mono ?_; rintro e w' ⟨rfl, n, rfl⟩) | (refine (l1 _ (by first | exact h | exact h.drewN _)).mono ?_; rintro e w' ⟨rfl, n, rfl⟩) | (refine (he _ (by first | exact h | exact h.drewN _)).mono ?_; rintro e w' ⟨rfl, n, rfl⟩) | (refine (hs _ (by first | exact h | exact h.drewN _)).mono ?_; rintro e w' ⟨rfl, n, rfl⟩))
  go_ret2
  exact ⟨rfl, _, rfl⟩
theorem said_hex (a b c : Nat) (w : World) (h : LookW a b c w) :
    Calls Tryz.prog 100 #[.func (.func 98) #[] #[.pointer (some ⟨a, 0, none⟩), .pointer (some ⟨b, 0, none⟩), .pointer (some ⟨c, 0, none⟩)]] w fun e w' => e = .returned (.float .f64 b31) ∧ ∃ n, w' = w.drewN n := by
  have l0 : ∀ W, LookW a b c W → Calls Tryz.prog 98 #[.int .i64 0, .pointer (some ⟨a, 0, none⟩), .pointer (some ⟨b, 0, none⟩), .pointer (some ⟨c, 0, none⟩)] W fun e w' => e = .returned (.int .i64 (48)) ∧ ∃ n, w' = W.drewN n := fun W h => look_hex a b c 0 (by omega) W h
  have hs := signAt_hex a b c
  have hu := unsigned_hex a b c
  generalize b31 = B at hu ⊢
  go_enter Tryz.func100, Tryz.ntmps100
  go_wp2_with (with_reducible first | (refine (l0 _ (by first | exact h | exact h.drewN _)).mono ?_; rintro e w' ⟨rfl, n, rfl⟩) | (refine (hs _ (by first | exact h | exact h.drewN _)).mono ?_; rintro e w' ⟨rfl, n, rfl⟩) | (refine (hu _ (by first | exact h | exact h.drewN _)).mono ?_; rintro e w' ⟨rfl, n, rfl⟩))
  go_ret
  exact ⟨rfl, _, rfl⟩

theorem belN {B : Nat} {a w : World} (h : Below B a w) (n : Nat) : Below B a (w.drewN n) := ⟨h.os, h.tape, h.output, h.size, h.block⟩
theorem cell_one {w : World} {b : Nat} {v : Value} {T : TypeId} {f : Nat × Nat} (h : w.heap[b]? = some (.cells #[v] T f)) : w.cell? ⟨b, 0, none⟩ = some v := by
  rw [Lib.cell_of_heap h]; rfl
theorem number_cells (w : World) (n N : Nat) (hN : w.heap.size = N) (a b c : Value) (ta tb tc : TypeId) (W : World) (hW : W = (((w.alloc (.cells #[a] ta)).drewN n).alloc (.cells #[b] tb)).alloc (.cells #[c] tc)) :
    W.cell? ⟨N, 0, none⟩ = some a ∧ W.cell? ⟨N + 1, 0, none⟩ = some b ∧ W.cell? ⟨N + 1 + 1, 0, none⟩ = some c ∧ ∀ m, Below w.heap.size w (W.drewN m) := by
  subst hW
  have h1 : ((w.alloc (.cells #[a] ta)).drewN n).heap.size = N + 1 := by show (w.alloc _).heap.size = _; rw [heap_size, hN]
  have h2 : (((w.alloc (.cells #[a] ta)).drewN n).alloc (.cells #[b] tb)).heap.size = N + 1 + 1 := by rw [heap_size, h1]
  have b1 : Below w.heap.size w ((w.alloc (.cells #[a] ta)).drewN n) := belN ((Below.refl _ _).alloc (Nat.le_refl _) _) n
  have b2 := b1.alloc (by rw [h1, hN]; omega) (.cells #[b] tb)
  have b3 := b2.alloc (by rw [h2, hN]; omega) (.cells #[c] tc)
  have k0 : ((w.alloc (.cells #[a] ta)).drewN n).heap[N]? = some (.cells #[a] ta (0, 0)) := by rw [← hN]; exact heap_new w _
  have k1 : (((w.alloc (.cells #[a] ta)).drewN n).alloc (.cells #[b] tb)).heap[N + 1]? = some (.cells #[b] tb (0, 0)) := by rw [← h1]; exact heap_new _ _
  have k2 := heap_new (((w.alloc (.cells #[a] ta)).drewN n).alloc (.cells #[b] tb)) (.cells #[c] tc)
  rw [h2] at k2
  have j1 := Below.keep ((Below.refl _ _).alloc (Nat.le_refl _) (.cells #[c] tc)) k1
  have j0 := Below.keep ((Below.refl _ _).alloc (Nat.le_refl _) (.cells #[c] tc)) (Below.keep ((Below.refl _ _).alloc (Nat.le_refl _) (.cells #[b] tb)) k0)
  exact ⟨cell_one j0, cell_one j1, cell_one k2, fun m => belN b3 m⟩

theorem number_hex (w : World) :
    Calls Tryz.prog 82 #[.string (bs hexW)] w fun e w' => e = .returned (.float .f64 b31) ∧ Below w.heap.size w w' := by
  have hbt := between_hex
  have hsd := said_hex
  obtain ⟨N, hN⟩ : ∃ N, w.heap.size = N := ⟨_, rfl⟩
  have hnc := fun n => number_cells w n N hN (.string (bs hexW)) (.int .i64 0) (.int .i64 4) 9 3 3 _ rfl
  have HNC := Lib.hid hnc
  clear hnc
  go_enter Tryz.func82, Tryz.ntmps82
  go_wp2_with (first | (go_at_call 97; refine (hbt _).mono ?_; rintro e w' ⟨rfl, n, rfl⟩) | (go_at_call 100; refine (hsd _ _ _ _ ⟨(HNC.out _).1, (HNC.out _).2.1, (HNC.out _).2.2.1⟩).mono ?_; rintro e w' ⟨rfl, n, rfl⟩))
  go_ret
  exact ⟨rfl, (HNC.out _).2.2.2 _⟩

theorem numOk_hex (N : Nat) : NumOk X.hexNum N := by
  intro t v hv ht w hw
  unfold X.hexNum at hv
  split at hv
  · rename_i e
    subst e
    have e2 : v = b31 := (Option.some.inj hv).symm
    subst e2
    rw [hexW_eq]
    exact number_hex w
  · exact absurd hv (by simp)
end Go.Proofs.YtelphbcdjfdjpaaGreatDoor
namespace Go.Proofs.YtelphbcdjfdjpaaGreatDoor
open Go.RowKit
set_option linter.all false

/-- A blank around a number. -/
def numBlank (u : Nat) : Bool := u == 9 || u == 10 || u == 11 || u == 12 || u == 13 || u == 32 || u == 160 || u == 65279
set_option maxHeartbeats 2000000 in
theorem blankAt_any (S : ByteArray) (hS : S.size ≤ 140737488355328) (i u : Nat) (hi : 2 * i + 1 < S.size) (hu : U.unitAt (ls S) i = u) (w : World) :
    Calls Tryz.prog 110 #[.string S, .int .i64 (i : Int)] w fun e w' => e = .returned (.bool (numBlank u)) ∧ ∃ n, w' = w.drewN n := by
  have hat := at_in S hS i hi
  rw [hu] at hat
  clear hu
  go_enter Tryz.func110, Tryz.ntmps110
  go_wp2_with (go_at_call 99; refine (hat _).mono ?_; rintro e w' ⟨rfl, n, rfl⟩)
  all_goals (go_ret; refine ⟨ret_bool ?_, _, rfl⟩; (try simp only [beq_iff_eq, beq_eq_false_iff_ne, ne_eq, decide_eq_true_eq, decide_eq_false_iff_not, Bool.or_eq_true, Bool.and_eq_true] at *); rw [Bool.eq_iff_iff]; simp only [Bool.false_eq_true, false_iff, numBlank, Bool.or_eq_true, Bool.and_eq_true, decide_eq_true_eq, beq_iff_eq, true_iff]; omega)

/-- What a number's look holds: the text, and where what is between its blanks begins and ends. -/
structure LookS (S : ByteArray) (fr to a b c : Nat) (w : World) : Prop where
  c0 : w.cell? ⟨a, 0, none⟩ = some (.string S)
  c1 : w.cell? ⟨b, 0, none⟩ = some (.int .i64 (fr : Int))
  c2 : w.cell? ⟨c, 0, none⟩ = some (.int .i64 (to : Int))
theorem LookS.drewN {S : ByteArray} {fr to a b c : Nat} {w : World} (h : LookS S fr to a b c w) (n : Nat) : LookS S fr to a b c (w.drewN n) := ⟨h.c0, h.c1, h.c2⟩
theorem LookS.keep {S : ByteArray} {fr to a b c B : Nat} {w w' : World} (h : LookS S fr to a b c w) (k : Below B w w') (ha : a < B) (hb : b < B) (hc : c < B) : LookS S fr to a b c w' := by
  have e : ∀ j, j < B → ∀ i, w'.cell? ⟨j, i, none⟩ = w.cell? ⟨j, i, none⟩ := fun j hj i => by
    simp only [World.cell?]
    rw [k.block j hj]
  exact ⟨by rw [e a ha]; exact h.c0, by rw [e b hb]; exact h.c1, by rw [e c hc]; exact h.c2⟩
/-- What is seen i places behind the begin: a unit, or -1 behind the end. -/
def seenAt (S : ByteArray) (fr to i : Nat) : Int := if fr + i < to then (U.unitAt (ls S) (fr + i) : Nat) else -1
set_option maxHeartbeats 2000000 in
theorem look_any (S : ByteArray) (hS : S.size ≤ 140737488355328) (fr to a b c i : Nat) (ht : 2 * to ≤ S.size) (hi : i ≤ 140737488355328) (hf : fr ≤ to) (w : World) (h : LookS S fr to a b c w) :
    Calls Tryz.prog 98 #[.int .i64 (i : Int), .pointer (some ⟨a, 0, none⟩), .pointer (some ⟨b, 0, none⟩), .pointer (some ⟨c, 0, none⟩)] w fun e w' => e = .returned (.int .i64 (seenAt S fr to i)) ∧ ∃ n, w' = w.drewN n := by
  obtain ⟨h0, h1, h2⟩ := h
  have e1 : IntKind.i64.wrap ((fr : Int) + (i : Int)) = (fr : Int) + (i : Int) := IntWalk.i64_in _ (by omega)
  by_cases hlt : fr + i < to
  · have hat := at_in S hS (fr + i) (by omega)
    rw [show ((fr + i : Nat) : Int) = (fr : Int) + (i : Int) from Int.natCast_add ..] at hat
    have hr : seenAt S fr to i = (U.unitAt (ls S) (fr + i) : Nat) := if_pos hlt
    rw [hr]
    clear hr
    generalize U.unitAt (ls S) (fr + i) = u at *
    have hlti : ¬ (to : Int) ≤ (fr : Int) + (i : Int) := by omega
    go_enter Tryz.func98, Tryz.ntmps98
    go_wp2_with (go_at_call 99; refine (hat _).mono ?_; rintro e w' ⟨rfl, n, rfl⟩)
    go_ret
    exact ⟨rfl, _, rfl⟩
  · have hr : seenAt S fr to i = -1 := if_neg hlt
    rw [hr]
    clear hr
    have hlti : (to : Int) ≤ (fr : Int) + (i : Int) := by omega
    by_cases hin : 2 * (fr + i) + 1 < S.size
    · have hat := at_in S hS (fr + i) hin
      rw [show ((fr + i : Nat) : Int) = (fr : Int) + (i : Int) from Int.natCast_add ..] at hat
      generalize U.unitAt (ls S) (fr + i) = u at *
      go_enter Tryz.func98, Tryz.ntmps98
      go_wp2_with (go_at_call 99; refine (hat _).mono ?_; rintro e w' ⟨rfl, n, rfl⟩)
      go_ret
      exact ⟨rfl, _, rfl⟩
    · have hat := at_out S hS ((fr : Int) + (i : Int)) (Or.inr (by omega))
      go_enter Tryz.func98, Tryz.ntmps98
      go_wp2_with (go_at_call 99; refine (hat _).mono ?_; rintro e w' ⟨rfl, n, rfl⟩)
      go_ret
      exact ⟨rfl, _, rfl⟩
end Go.Proofs.YtelphbcdjfdjpaaGreatDoor
