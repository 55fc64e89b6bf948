/- What the document's own answers of layer 1 say of one character: a unit's two bytes, a character's bytes, a unit, and a text of one or two units as UTF-8. Conditions: those that each theorem names. The document's own letters of a plain text as small ones. Conditions: those that each theorem names. The document's own reading of a reference. Conditions: those that the theorem names. The document's own reading of texts and of values. Conditions: those that each theorem names. The document's own reading of a value in its marks. Conditions: those that each theorem names. -/
import Derived.Test.YtdilngjolhmjnaaGreatDoorChar
import Derived.Test.YtdilngjolhmjnaaGreatDoorA9
import Derived.Laws.IdiomStrings
import Derived.Deep.QuietTactic
import Derived.BigQuiet
import Derived.IntWalk
import Derived.Test.YtdilngjolhmjnaaGreatDoorDcl
import Derived.Test.YtdilngjolhmjnaaGreatDoorLawLines
import Derived.Test.YtdilngjolhmjnaaGreatDoorRg1
namespace Go.Proofs.YtdilngjolhmjnaaGreatDoor
open Go.RowKit Go.Shelf
set_option linter.all false

namespace U
def unitAt (l : List UInt8) (i : Nat) : Nat := g l (2 * i) * 256 + g l (2 * i + 1)
end U
theorem byteCells_be (z : Int) (h0 : 0 ≤ z) (h1 : z < 65536) : Lib.byteCells (U.be z.toNat) = [.int .u8 (z / 256), .int .u8 (z % 256)] := by
  simp only [Lib.byteCells, U.be, List.map_cons, List.map_nil, U.ofNat_toNat _ (show z.toNat / 256 < 256 by omega), U.ofNat_toNat _ (show z.toNat % 256 < 256 by omega)]
  rw [show ((z.toNat / 256 : Nat) : Int) = z / 256 by omega, show ((z.toNat % 256 : Nat) : Int) = z % 256 by omega]
theorem g_at (s : ByteArray) (k : Nat) (hk : k < s.size) : U.g (ls s) k = (s[k]).toNat := by
  have hl : k < (ls s).length := by rw [ls_length]; exact hk
  unfold U.g
  rw [List.getD_eq_getElem?_getD, List.getElem?_eq_getElem hl]
  rfl
theorem ret_int {a b : Int} (h : a = b) : Ending.returned (.int .i64 a) = .returned (.int .i64 b) := by rw [h]

theorem conv_list (w : World) (l : List UInt8) (C : Array Value) (hc : C.toList = l.map fun b => Value.int .u8 (b.toNat : Int)) :
    (convert 53 9 (.slice (some ⟨w.heap.size, 0, none⟩) l.length l.length)).run Tryz.prog (w.alloc (.cells C 5)) = .ok (.string ⟨l.toArray⟩) (w.alloc (.cells C 5)) := by
  refine run_convert_bytes_back (P := Tryz.prog) (w.alloc (.cells C 5)) 53 9 5 ⟨w.heap.size, 0, none⟩ l.length l Tryz.underlying53 Tryz.underlying5 Tryz.underlying9 (fun j hj => ?_)
  have e : (⟨w.heap.size, 0, none⟩ : Addr).add j = ⟨w.heap.size, j, none⟩ := by unfold Addr.add; split <;> simp_all
  rw [e]
  have h := World.cell?_alloc_mark w C 5 (0, 0) j
  have h2 : C[j]? = some (.int .u8 (l[j].toNat : Int)) := by
    rw [← Array.getElem?_toList, hc, List.getElem?_map, List.getElem?_eq_getElem hj]
    rfl
  rw [h2] at h
  exact h

set_option maxHeartbeats 1000000 in
theorem unitS (z : Int) (h0 : 0 ≤ z) (h1 : z < 65536) (w : World) :
    Calls Tryz.prog 96 #[.int .i64 z] w fun e w' => e = .returned (.string ⟨(U.be z.toNat).toArray⟩) ∧ Below w.heap.size w w' := by
  have hb := conv_list w (U.be z.toNat) #[.int .u8 (z / 256), .int .u8 (z % 256)] (byteCells_be z h0 h1).symm
  rw [show (U.be z.toNat).length = 2 from rfl] at hb
  obtain ⟨R, hR⟩ : ∃ R : ByteArray, (⟨(U.be z.toNat).toArray⟩ : ByteArray) = R := ⟨_, rfl⟩
  rw [hR] at hb ⊢
  clear hR
  go_enter Tryz.func96, Tryz.ntmps96
  go_wp2
  go_ret
  exact ⟨rfl, (Below.refl _ _).alloc (Nat.le_refl _) _⟩

set_option maxHeartbeats 2000000 in
theorem bytesS (c : Nat) (hc : c ≤ 1114111) (w : World) :
    Calls Tryz.prog 108 #[.int .i64 (c : Int)] w fun e w' => e = .returned (.string ⟨(U.enc c).toArray⟩) ∧ Below w.heap.size w w' := by
  by_cases h1 : c < 128
  · have he : U.enc c = [UInt8.ofNat c] := by unfold U.enc; rw [if_pos h1]
    have hb := conv_list w (U.enc c) #[.int .u8 (c : Int)] (by rw [he]; simp only [List.map_cons, List.map_nil, U.ofNat_toNat c (by omega)])
    rw [show (U.enc c).length = 1 by rw [he]; rfl] at hb
    have d1 : decide ((c : Int) < 128) = true := decide_eq_true (by omega)
    have z1 : (c : Int) < 128 := by omega
    obtain ⟨R, hR⟩ : ∃ R : ByteArray, (⟨(U.enc c).toArray⟩ : ByteArray) = R := ⟨_, rfl⟩
    rw [hR] at hb ⊢
    clear hR he
    go_enter Tryz.func108, Tryz.ntmps108
    go_wp2
    go_ret
    exact ⟨rfl, (Below.refl _ _).alloc (Nat.le_refl _) _⟩
  · by_cases h2 : c < 2048
    · have he : U.enc c = [UInt8.ofNat (192 + c / 64), UInt8.ofNat (128 + c % 64)] := by unfold U.enc; rw [if_neg h1, if_pos h2]
      have hb := conv_list w (U.enc c) #[.int .u8 (192 + (c : Int) / 64), .int .u8 (128 + (c : Int) % 64)] (by
        rw [he]
        simp only [List.map_cons, List.map_nil, U.ofNat_toNat (192 + c / 64) (by omega), U.ofNat_toNat (128 + c % 64) (by omega)]
        rfl)
      rw [show (U.enc c).length = 2 by rw [he]; rfl] at hb
      have d1 : decide ((c : Int) < 128) = false := decide_eq_false (by omega)
      have d2 : decide ((c : Int) < 2048) = true := decide_eq_true (by omega)
      have z1 : ¬ (c : Int) < 128 := by omega
      have z2 : (c : Int) < 2048 := by omega
      obtain ⟨R, hR⟩ : ∃ R : ByteArray, (⟨(U.enc c).toArray⟩ : ByteArray) = R := ⟨_, rfl⟩
      rw [hR] at hb ⊢
      clear hR he
      go_enter Tryz.func108, Tryz.ntmps108
      go_wp2
      go_ret
      exact ⟨rfl, (Below.refl _ _).alloc (Nat.le_refl _) _⟩
    · by_cases h3 : c < 65536
      · have he : U.enc c = [UInt8.ofNat (224 + c / 4096), UInt8.ofNat (128 + c / 64 % 64), UInt8.ofNat (128 + c % 64)] := by unfold U.enc; rw [if_neg h1, if_neg h2, if_pos h3]
        have hb := conv_list w (U.enc c) #[.int .u8 (224 + (c : Int) / 4096), .int .u8 (128 + (c : Int) / 64 % 64), .int .u8 (128 + (c : Int) % 64)] (by
          rw [he]
          simp only [List.map_cons, List.map_nil, U.ofNat_toNat (224 + c / 4096) (by omega), U.ofNat_toNat (128 + c / 64 % 64) (by omega), U.ofNat_toNat (128 + c % 64) (by omega)]
          rfl)
        rw [show (U.enc c).length = 3 by rw [he]; rfl] at hb
        have d1 : decide ((c : Int) < 128) = false := decide_eq_false (by omega)
        have d2 : decide ((c : Int) < 2048) = false := decide_eq_false (by omega)
        have d3 : decide ((c : Int) < 65536) = true := decide_eq_true (by omega)
        have z1 : ¬ (c : Int) < 128 := by omega
        have z2 : ¬ (c : Int) < 2048 := by omega
        have z3 : (c : Int) < 65536 := by omega
        obtain ⟨R, hR⟩ : ∃ R : ByteArray, (⟨(U.enc c).toArray⟩ : ByteArray) = R := ⟨_, rfl⟩
        rw [hR] at hb ⊢
        clear hR he
        go_enter Tryz.func108, Tryz.ntmps108
        go_wp2
        go_ret
        exact ⟨rfl, (Below.refl _ _).alloc (Nat.le_refl _) _⟩
      · have he : U.enc c = [UInt8.ofNat (240 + c / 262144), UInt8.ofNat (128 + c / 4096 % 64), UInt8.ofNat (128 + c / 64 % 64), UInt8.ofNat (128 + c % 64)] := by unfold U.enc; rw [if_neg h1, if_neg h2, if_neg h3]
        have hb := conv_list w (U.enc c) #[.int .u8 (240 + (c : Int) / 262144), .int .u8 (128 + (c : Int) / 4096 % 64), .int .u8 (128 + (c : Int) / 64 % 64), .int .u8 (128 + (c : Int) % 64)] (by
          rw [he]
          simp only [List.map_cons, List.map_nil, U.ofNat_toNat (240 + c / 262144) (by omega), U.ofNat_toNat (128 + c / 4096 % 64) (by omega), U.ofNat_toNat (128 + c / 64 % 64) (by omega), U.ofNat_toNat (128 + c % 64) (by omega)]
          rfl)
        rw [show (U.enc c).length = 4 by rw [he]; rfl] at hb
        have d1 : decide ((c : Int) < 128) = false := decide_eq_false (by omega)
        have d2 : decide ((c : Int) < 2048) = false := decide_eq_false (by omega)
        have d3 : decide ((c : Int) < 65536) = false := decide_eq_false (by omega)
        have z1 : ¬ (c : Int) < 128 := by omega
        have z2 : ¬ (c : Int) < 2048 := by omega
        have z3 : ¬ (c : Int) < 65536 := by omega
        have z4 : (c : Int) ≤ 1114111 := by omega
        obtain ⟨R, hR⟩ : ∃ R : ByteArray, (⟨(U.enc c).toArray⟩ : ByteArray) = R := ⟨_, rfl⟩
        rw [hR] at hb ⊢
        clear hR he
        go_enter Tryz.func108, Tryz.ntmps108
        go_wp2
        go_ret
        exact ⟨rfl, (Below.refl _ _).alloc (Nat.le_refl _) _⟩

set_option maxHeartbeats 1000000 in
theorem refAt_out (s : ByteArray) (hs : s.size ≤ 140737488355328) (i : Int) (hi : i < 0 ∨ (s.size : Int) / 2 ≤ i) (w : World) :
    Calls Tryz.prog 107 #[.string s, .int .i64 i] w fun e w' => e = .returned (.int .i64 (-1)) ∧ ∃ n, w' = w.drewN n := by
  rcases hi with hi | hi
  · go_enter Tryz.func107, Tryz.ntmps107
    go_wp2
    go_ret
    exact ⟨rfl, 0, rfl⟩
  · have hi2 : (s.size : Int) / 2 - 1 < i := by omega
    by_cases h0 : i < 0
    · go_enter Tryz.func107, Tryz.ntmps107
      go_wp2
      go_ret
      exact ⟨rfl, 0, rfl⟩
    · go_enter Tryz.func107, Tryz.ntmps107
      go_wp2
      go_ret
      exact ⟨rfl, 0, rfl⟩

set_option maxHeartbeats 1000000 in
theorem refAt_in (s : ByteArray) (hs : s.size ≤ 140737488355328) (i : Nat) (hi : 2 * i + 1 < s.size) (w : World) :
    Calls Tryz.prog 107 #[.string s, .int .i64 (i : Int)] w fun e w' => e = .returned (.int .i64 (U.unitAt (ls s) i : Nat)) ∧ ∃ n, w' = w.drewN n := by
  have e1 : IntKind.i64.wrap (2 * (i : Int)) = 2 * (i : Int) := IntWalk.i64_in _ (by omega)
  have e2 : IntKind.i64.wrap (2 * (i : Int) + 1) = 2 * (i : Int) + 1 := IntWalk.i64_in _ (by omega)
  have l1 : 0 ≤ 2 * (i : Int) := by omega
  have l2 : 2 * (i : Int) < s.size := by omega
  have l3 : 2 * (i : Int) + 1 < s.size := by omega
  have l4 : 0 ≤ 2 * (i : Int) + 1 := by omega
  have q1 : (2 * (i : Int)).toNat < s.size := by omega
  have q2 : (2 * (i : Int) + 1).toNat < s.size := by omega
  obtain ⟨x, hx⟩ : ∃ x, s[(2 * (i : Int)).toNat] = x := ⟨_, rfl⟩
  obtain ⟨y, hy⟩ : ∃ y, s[(2 * (i : Int) + 1).toNat] = y := ⟨_, rfl⟩
  have hu : Hid (U.unitAt (ls s) i = x.toNat * 256 + y.toNat) := by
    show _ = _
    unfold U.unitAt
    rw [g_at s (2 * i) (by omega), g_at s (2 * i + 1) hi, ← hx, ← hy]
    have a1 : (2 * (i : Int)).toNat = 2 * i := by omega
    have a2 : (2 * (i : Int) + 1).toNat = 2 * i + 1 := by omega
    simp only [a1, a2]
  have x8 := x.toNat_lt
  have y8 := y.toNat_lt
  have w1 : IntKind.i64.wrap (x.toNat : Int) = x.toNat := IntWalk.i64_in _ (by omega)
  have w2 : IntKind.i64.wrap (y.toNat : Int) = y.toNat := IntWalk.i64_in _ (by omega)
  have w3 : IntKind.i64.wrap ((x.toNat : Int) * 256) = (x.toNat : Int) * 256 := IntWalk.i64_in _ (by omega)
  have w4 : IntKind.i64.wrap ((x.toNat : Int) * 256 + (y.toNat : Int)) = (x.toNat : Int) * 256 + (y.toNat : Int) := IntWalk.i64_in _ (by omega)
  have hz : ¬ ((s.size : Int) / 2 - 1 < (i : Int)) := by omega
  have dz : decide ((s.size : Int) / 2 - 1 < (i : Int)) = false := decide_eq_false hz
  go_enter Tryz.func107, Tryz.ntmps107
  go_wp2
  go_quiet (fail)
  go_wp2
  go_ret
  refine ⟨ret_int ?_, _, rfl⟩
  rw [hu.out]
  rfl

theorem below_drewN2 {w : World} (n : Nat) : Below w.heap.size w (w.drewN n) := ⟨rfl, rfl, rfl, Nat.le_refl _, fun _ _ => rfl⟩
theorem unitAt_be (u : Nat) (hu : u < 65536) (r : List UInt8) : U.unitAt (U.be u ++ r) 0 = u := by
  show (UInt8.ofNat (u / 256)).toNat * 256 + (UInt8.ofNat (u % 256)).toNat = u
  rw [U.ofNat_toNat _ (by omega), U.ofNat_toNat _ (by omega)]
  omega
theorem unitAt_be2 (u v : Nat) (hv : v < 65536) : U.unitAt (U.be u ++ U.be v) 1 = v := by
  show (UInt8.ofNat (v / 256)).toNat * 256 + (UInt8.ofNat (v % 256)).toNat = v
  rw [U.ofNat_toNat _ (by omega), U.ofNat_toNat _ (by omega)]
  omega

/-- What a walk over one character's units has come to: nothing, or all. -/
def NrRel (c n : Nat) (N : Nat) (w : World) (g : Nat) (ov iv : Value) (wr : World) : Prop :=
  Below N w wr ∧ N ≤ wr.heap.size ∧ ((g = 1 ∧ ov = .string ⟨#[]⟩ ∧ iv = .int .i64 0) ∨ (g = 0 ∧ ov = .string (bs (U.enc c)) ∧ iv = .int .i64 (n : Int)))

set_option maxHeartbeats 4000000 in
set_option maxRecDepth 100000 in
theorem narrow_one (c : Nat) (hc : c < 65536) (h : c < 55296 ∨ 57344 ≤ c) (s : ByteArray) (hs : ls s = U.be c) (w : World) :
    Calls Tryz.prog 97 #[.string s] w fun e w' => e = .returned (.tuple #[.string (bs (U.enc c)), .int .i64 0]) ∧ Below w.heap.size w w' := by
  have hsz : s.size = 2 := by rw [← ls_length, hs]; rfl
  have h0 : U.unitAt (ls s) 0 = c := by rw [hs]; have := unitAt_be c hc []; rwa [List.append_nil] at this
  have a0 : ∀ W, Calls Tryz.prog 107 #[.string s, .int .i64 0] W fun e w' => e = .returned (.int .i64 (c : Int)) ∧ ∃ n, w' = W.drewN n := fun W => by
    have := refAt_in s (by omega) 0 (by omega) W
    rw [h0] at this
    exact this
  have a1 : ∀ W, Calls Tryz.prog 107 #[.string s, .int .i64 1] W fun e w' => e = .returned (.int .i64 (-1)) ∧ ∃ n, w' = W.drewN n := fun W => refAt_out s (by omega) 1 (by omega) W
  have hb : ∀ W, Calls Tryz.prog 108 #[.int .i64 (c : Int)] W fun e w' => e = .returned (.string (bs (U.enc c))) ∧ Below W.heap.size W w' := fun W => bytesS c (by omega) W
  have A0 := Lib.hid a0
  have A1 := Lib.hid a1
  have HB := Lib.hid hb
  have hes : (⟨#[]⟩ : ByteArray) ++ bs (U.enc c) = bs (U.enc c) := ByteArray.ext (by rw [ByteArray.data_append]; simp)
  have hz := enc_len4 c
  have hz2 := bs_size (U.enc c)
  have hcat : ¬ ((bs (U.enc c)).size > 9223372036854775807) := by omega
  have HES := Lib.hid hes
  have hst : NrRel c 1 w.heap.size w 1 (.string ⟨#[]⟩) (.int .i64 0) w := ⟨Below.refl _ _, Nat.le_refl _, .inl ⟨rfl, rfl, rfl⟩⟩
  have HST := Lib.hid hst
  clear a0 a1 hb hs h0 hes hst
  go_enter Tryz.func97, Tryz.ntmps97
  go_wp2
  go_loopg [4, 5] 1 (fun g ov iv wr => NrRel c 1 w.heap.size w g ov iv wr)
  case atStart => exact HST.out
  case round =>
    obtain ⟨hbel, hle, ⟨rfl, rfl, rfl⟩ | ⟨rfl, rfl, rfl⟩⟩ := hrel
    · have HBel := Lib.hid hbel
      clear hbel
      by_cases hlo : c < 55296
      · have t0 : decide (55296 ≤ (c : Int)) = false := decide_eq_false (by omega)
        have hcu : (c : Int) < 65536 := by omega
        clear h hlo
        go_wp2_with (first
          | (go_at_call 107; first | (with_reducible refine (A0.out _).mono ?_; rintro e w' ⟨rfl, n1, rfl⟩) | (with_reducible refine (A1.out _).mono ?_; rintro e w' ⟨rfl, n2, rfl⟩))
          | (go_at_call 108; refine (HB.out _).mono ?_; rintro e w3 ⟨rfl, hb3⟩))
        go_roundg 0
        case measure => omega
        case rel => exact ⟨(HBel.out.trans ((below_drewN2 _).mono hle)).trans (hb3.mono hle), Nat.le_trans hle hb3.size, .inr ⟨rfl, by rw [HES.out], by go_num⟩⟩
      · have t0 : decide (55296 ≤ (c : Int)) = true := decide_eq_true (by omega)
        have t1 : decide ((c : Int) ≤ 56319) = false := decide_eq_false (by omega)
        have t2 : decide ((c : Int) ≤ 57343) = false := decide_eq_false (by omega)
        have hcu : (c : Int) < 65536 := by omega
        clear h hlo
        go_wp2_with (first
          | (go_at_call 107; first | (with_reducible refine (A0.out _).mono ?_; rintro e w' ⟨rfl, n1, rfl⟩) | (with_reducible refine (A1.out _).mono ?_; rintro e w' ⟨rfl, n2, rfl⟩))
          | (go_at_call 108; refine (HB.out _).mono ?_; rintro e w3 ⟨rfl, hb3⟩))
        go_roundg 0
        case measure => omega
        case rel => exact ⟨(HBel.out.trans ((below_drewN2 _).mono hle)).trans (hb3.mono hle), Nat.le_trans hle hb3.size, .inr ⟨rfl, by rw [HES.out], by go_num⟩⟩
    · go_wp2
      go_ret2
      exact ⟨rfl, hbel⟩

set_option maxHeartbeats 4000000 in
set_option maxRecDepth 100000 in
theorem narrow_pair (c : Nat) (h1 : 65536 ≤ c) (h2 : c ≤ 1114111) (s : ByteArray) (hs : ls s = U.be (55296 + (c - 65536) / 1024) ++ U.be (56320 + (c - 65536) % 1024)) (w : World) :
    Calls Tryz.prog 97 #[.string s] w fun e w' => e = .returned (.tuple #[.string (bs (U.enc c)), .int .i64 0]) ∧ Below w.heap.size w w' := by
  obtain ⟨u, hu⟩ : ∃ u, 55296 + (c - 65536) / 1024 = u := ⟨_, rfl⟩
  obtain ⟨v, hv⟩ : ∃ v, 56320 + (c - 65536) % 1024 = v := ⟨_, rfl⟩
  rw [hu, hv] at hs
  have hu1 : 55296 ≤ u ∧ u ≤ 56319 := by omega
  have hv1 : 56320 ≤ v ∧ v ≤ 57343 := by omega
  have hsz : s.size = 4 := by rw [← ls_length, hs]; rfl
  have e0 : U.unitAt (ls s) 0 = u := by rw [hs]; exact unitAt_be u (by omega) _
  have e1 : U.unitAt (ls s) 1 = v := by rw [hs]; exact unitAt_be2 u v (by omega)
  have a0 : ∀ W, Calls Tryz.prog 107 #[.string s, .int .i64 0] W fun e w' => e = .returned (.int .i64 (u : Int)) ∧ ∃ n, w' = W.drewN n := fun W => by
    have := refAt_in s (by omega) 0 (by omega) W
    rw [e0] at this
    exact this
  have a1 : ∀ W, Calls Tryz.prog 107 #[.string s, .int .i64 1] W fun e w' => e = .returned (.int .i64 (v : Int)) ∧ ∃ n, w' = W.drewN n := fun W => by
    have := refAt_in s (by omega) 1 (by omega) W
    rw [e1] at this
    exact this
  have hz0 : (65536 : Int) + ((u : Int) - 55296) * 1024 + (v : Int) - 56320 = (c : Int) := by omega
  have hb : ∀ W, Calls Tryz.prog 108 #[.int .i64 ((65536 : Int) + ((u : Int) - 55296) * 1024 + (v : Int) - 56320)] W fun e w' => e = .returned (.string (bs (U.enc c))) ∧ Below W.heap.size W w' := fun W => by
    rw [hz0]
    exact bytesS c (by omega) W
  have A0 := Lib.hid a0
  have A1 := Lib.hid a1
  have HB := Lib.hid hb
  have hes : (⟨#[]⟩ : ByteArray) ++ bs (U.enc c) = bs (U.enc c) := ByteArray.ext (by rw [ByteArray.data_append]; simp)
  have hz := enc_len4 c
  have hz2 := bs_size (U.enc c)
  have hcat : ¬ ((bs (U.enc c)).size > 9223372036854775807) := by omega
  have HES := Lib.hid hes
  have hst : NrRel c 2 w.heap.size w 1 (.string ⟨#[]⟩) (.int .i64 0) w := ⟨Below.refl _ _, Nat.le_refl _, .inl ⟨rfl, rfl, rfl⟩⟩
  have HST := Lib.hid hst
  have t0 : decide (55296 ≤ (u : Int)) = true := decide_eq_true (by omega)
  have t1 : decide ((u : Int) ≤ 56319) = true := decide_eq_true (by omega)
  have t2 : decide (56320 ≤ (v : Int)) = true := decide_eq_true (by omega)
  have t3 : decide ((v : Int) ≤ 57343) = true := decide_eq_true (by omega)
  have k1 : (u : Int) ≤ 65535 := by omega
  have k2 : (v : Int) ≤ 65535 := by omega
  have k3 : (0 : Int) ≤ (u : Int) - 55296 := by omega
  clear a0 a1 hb hs e0 e1 hes hst hu hv hz0 h1 h2 hu1 hv1
  go_enter Tryz.func97, Tryz.ntmps97
  go_wp2
  go_loopg [4, 5] 1 (fun g ov iv wr => NrRel c 2 w.heap.size w g ov iv wr)
  case atStart => exact HST.out
  case round =>
    obtain ⟨hbel, hle, ⟨rfl, rfl, rfl⟩ | ⟨rfl, rfl, rfl⟩⟩ := hrel
    · have HBel := Lib.hid hbel
      clear hbel
      go_wp2_with (first
        | (go_at_call 107; first | (with_reducible refine (A0.out _).mono ?_; rintro e w' ⟨rfl, n1, rfl⟩) | (with_reducible refine (A1.out _).mono ?_; rintro e w' ⟨rfl, n2, rfl⟩))
        | (go_at_call 108; refine (HB.out _).mono ?_; rintro e w3 ⟨rfl, hb3⟩))
      go_roundg 0
      case measure => omega
      case rel => exact ⟨(HBel.out.trans ((below_drewN2 _).mono hle)).trans (hb3.mono hle), Nat.le_trans hle hb3.size, .inr ⟨rfl, by rw [HES.out], by go_num⟩⟩
    · go_wp2
      go_ret2
      exact ⟨rfl, hbel⟩
set_option maxHeartbeats 1000000 in
/-- A number beyond two bytes: two bytes all the same. -/
theorem unit_great (c : Nat) (h0 : 65536 ≤ c) (h1 : c ≤ 1114111) (w : World) :
    Calls Tryz.prog 96 #[.int .i64 (c : Int)] w fun e w' => e = .returned (.string (bs [UInt8.ofNat (c / 256 % 256), UInt8.ofNat (c % 256)])) ∧ Below w.heap.size w w' := by
  have hb := conv_list w [UInt8.ofNat (c / 256 % 256), UInt8.ofNat (c % 256)] #[.int .u8 ((c : Int) / 256 % 256), .int .u8 ((c : Int) % 256)] (by
    simp only [List.map_cons, List.map_nil, U.ofNat_toNat (c / 256 % 256) (by omega), U.ofNat_toNat (c % 256) (by omega)]
    rfl)
  rw [show ([UInt8.ofNat (c / 256 % 256), UInt8.ofNat (c % 256)] : List UInt8).length = 2 from rfl] at hb
  have hb : (convert 53 9 (.slice (some ⟨w.heap.size, 0, none⟩) 2 2)).run Tryz.prog (w.alloc (.cells #[.int .u8 ((c : Int) / 256 % 256), .int .u8 ((c : Int) % 256)] 5)) = .ok (.string (bs [UInt8.ofNat (c / 256 % 256), UInt8.ofNat (c % 256)])) (w.alloc (.cells #[.int .u8 ((c : Int) / 256 % 256), .int .u8 ((c : Int) % 256)] 5)) := hb
  have z1 : (c : Int) ≤ 1114111 := by omega
  have z2 : (65536 : Int) ≤ (c : Int) := by omega
  have hw : IntKind.u8.wrap ((c : Int) / 256) = (c : Int) / 256 % 256 := IntKind.wrap_u8 _
  clear h0 h1
  go_enter Tryz.func96, Tryz.ntmps96
  go_wp2
  go_ret
  exact ⟨rfl, (Below.refl _ _).alloc (Nat.le_refl _) _⟩
/-- A character as UTF-8, by the document's own answers. -/
theorem be_list (u : Nat) : ls (⟨(U.be u).toArray⟩ : ByteArray) = U.be u := by simp [ls]

set_option maxHeartbeats 4000000 in
set_option maxRecDepth 100000 in
theorem utf_rf (c : Nat) (hc : U.scalar c) (w : World) :
    Calls Tryz.prog 76 #[.int .i64 (c : Int)] w fun e w' => e = .returned (.string (bs (U.enc c))) ∧ Below w.heap.size w w' := by
  unfold U.scalar at hc
  by_cases hlo : c < 65536
  · have hu := fun W => unitS (c : Int) (by omega) (by omega) W
    rw [show ((c : Int)).toNat = c by omega] at hu
    have hn := fun W => narrow_one c hlo (by omega) ⟨(U.be c).toArray⟩ (be_list c) W
    obtain ⟨X, hX⟩ : ∃ X : ByteArray, (⟨(U.be c).toArray⟩ : ByteArray) = X := ⟨_, rfl⟩
    simp only [hX] at hu hn
    have t0 : decide (65536 ≤ (c : Int)) = false := decide_eq_false (by omega)
    clear hc hlo hX
    go_enter Tryz.func76, Tryz.ntmps76
    go_wp2_with (first
      | (go_at_call 96; refine (hu _).mono ?_; rintro e w1 ⟨rfl, hb1⟩; have HB1 := Lib.hid hb1; clear hb1)
      | (go_at_call 97; refine (hn _).mono ?_; rintro e w2 ⟨rfl, hb2⟩))
    go_ret
    exact ⟨rfl, HB1.out.trans (hb2.mono HB1.out.size)⟩
  · have hge : 65536 ≤ c := by omega
    have hle : c ≤ 1114111 := by omega
    have hu0 := fun W => unit_great c hge hle W
    have hu1 := fun W => unitS ((55296 : Int) + ((c : Int) - 65536) / 1024) (by omega) (by omega) W
    have hu2 := fun W => unitS ((56320 : Int) + ((c : Int) - 65536) % 1024) (by omega) (by omega) W
    rw [show ((55296 : Int) + ((c : Int) - 65536) / 1024).toNat = 55296 + (c - 65536) / 1024 by omega] at hu1
    rw [show ((56320 : Int) + ((c : Int) - 65536) % 1024).toNat = 56320 + (c - 65536) % 1024 by omega] at hu2
    obtain ⟨X, hX⟩ : ∃ X : ByteArray, (⟨(U.be (55296 + (c - 65536) / 1024)).toArray⟩ : ByteArray) = X := ⟨_, rfl⟩
    obtain ⟨Y, hY⟩ : ∃ Y : ByteArray, (⟨(U.be (56320 + (c - 65536) % 1024)).toArray⟩ : ByteArray) = Y := ⟨_, rfl⟩
    have hXY : ls (X ++ Y) = U.be (55296 + (c - 65536) / 1024) ++ U.be (56320 + (c - 65536) % 1024) := by
      rw [← hX, ← hY]
      simp [ls, ByteArray.data_append]
    have hXs : X.size = 2 := by rw [← hX]; rfl
    have hYs : Y.size = 2 := by rw [← hY]; rfl
    have hcat : ¬ (X.size + Y.size > 9223372036854775807) := by omega
    have hn := fun W => narrow_pair c hge hle (X ++ Y) hXY W
    simp only [hX] at hu1
    simp only [hY] at hu2
    have t0 : decide (65536 ≤ (c : Int)) = true := decide_eq_true (by omega)
    have z1 : (c : Int) ≤ 1114111 := by omega
    have z2 : (0 : Int) ≤ (c : Int) - 65536 := by omega
    obtain ⟨Z, hZ⟩ : ∃ Z, bs [UInt8.ofNat (c / 256 % 256), UInt8.ofNat (c % 256)] = Z := ⟨_, rfl⟩
    rw [hZ] at hu0
    clear hc hlo hX hY hge hle hXY hZ
    go_enter Tryz.func76, Tryz.ntmps76
    go_wp2_with (first
      | (go_at_call 96; first
        | (with_reducible refine (hu0 _).mono ?_; rintro e w1 ⟨rfl, hb1⟩; have HB1 := Lib.hid hb1; clear hb1)
        | (with_reducible refine (hu1 _).mono ?_; rintro e w2 ⟨rfl, hb2⟩; have HB2 := Lib.hid (HB1.out.trans (hb2.mono HB1.out.size)); clear hb2)
        | (with_reducible refine (hu2 _).mono ?_; rintro e w3 ⟨rfl, hb3⟩; have HB3 := Lib.hid (HB2.out.trans (hb3.mono HB2.out.size)); clear hb3))
      | (go_at_call 97; refine (hn _).mono ?_; rintro e w4 ⟨rfl, hb4⟩))
    go_ret
    exact ⟨rfl, HB3.out.trans (hb4.mono HB3.out.size)⟩
end Go.Proofs.YtdilngjolhmjnaaGreatDoor
namespace Go.Proofs.YtdilngjolhmjnaaGreatDoor
open Go.RowKit Go.Shelf
set_option linter.all false

def lowB (b : UInt8) : UInt8 := if 65 ≤ b.toNat ∧ b.toNat ≤ 90 then b + 32 else b
theorem lowB_enc {c : Nat} (hs : U.scalar c) : (U.enc c).map lowB = U.enc (K.low c) := by
  by_cases h : c < 128
  · have e : ∀ c, c < 128 → (U.enc c).map lowB = U.enc (K.low c) := by decide +kernel
    exact e c h
  · have h1 := K.enc_high_all (by omega) hs
    have h2 : K.low c = c := by unfold K.low; rw [if_neg (by omega)]
    rw [h2]
    have h3 : ∀ l : List UInt8, (∀ x ∈ l, 128 ≤ x.toNat) → l.map lowB = l := by
      intro l
      induction l with
      | nil => intro _; rfl
      | cons a l ih =>
        intro hl
        have ha := hl a List.mem_cons_self
        rw [List.map_cons, ih (fun x hx => hl x (List.mem_cons_of_mem _ hx))]
        unfold lowB
        rw [if_neg (by omega)]
    exact h3 _ h1
theorem lowB_n8 : ∀ {n : List Nat}, K.Sc n → (U.n8 n).map lowB = U.n8 (n.map K.low)
  | [], _ => rfl
  | c :: n, h => by
    rw [U.n8_cons, List.map_append, lowB_enc h.head, lowB_n8 h.tail]
    rfl
theorem low_sc {n : List Nat} (h : K.Sc n) : K.Sc (n.map K.low) := by
  intro c hc
  obtain ⟨x, hx, rfl⟩ := List.mem_map.1 hc
  have := h x hx
  unfold K.low
  split
  · exact K.sc_small (by omega)
  · exact this
theorem cmp_low {n t : List Nat} (hs : K.Sc n) (ht : Small t) (q : List UInt8) (hq : q = K.b8 t) (v : Bool) (hv : decide (n.map K.low = t) = v) : ((bs ((U.n8 n).map lowB)).toList == q) = v := by
  rw [lowB_n8 hs]
  exact cmp_b8 (low_sc hs) ht q hq v hv
theorem one_byte (W : World) (x : UInt8) : (convert 53 9 (.slice (some ⟨W.heap.size, 0, none⟩) 1 1)).run Tryz.prog (W.alloc (.cells #[.int .u8 (x.toNat : Int)] 5)) = .ok (.string (bs [x])) (W.alloc (.cells #[.int .u8 (x.toNat : Int)] 5)) :=
  conv_list W [x] #[.int .u8 (x.toNat : Int)] rfl

set_option maxHeartbeats 4000000 in
set_option maxRecDepth 100000 in
theorem small_rf (d : List UInt8) (hs : d.length ≤ 300000) (w : World) :
    Calls Tryz.prog 44 #[.string (bs d)] w fun e w' => e = .returned (.string (bs (d.map lowB))) ∧ Below w.heap.size w w' := by
  have hsz := bs_size d
  obtain ⟨M, hM⟩ : ∃ M, d.map lowB = M := ⟨_, rfl⟩
  have hMl : M.length = d.length := by rw [← hM, List.length_map]
  have hMk : ∀ (k : Nat) (h1 : k < M.length) (h2 : k < d.length), M[k] = lowB d[k] := by
    subst hM
    intro k h1 h2
    rw [List.getElem_map]
  rw [hM]
  have HMk := Lib.hid hMk
  clear hMk hM
  go_enter Tryz.func44, Tryz.ntmps44
  go_wp2
  go_loopg [3, 4] d.length (fun g ov iv wr => ∃ k : Nat, iv = .int .i64 (k : Int) ∧ d.length - k = g ∧ k ≤ d.length ∧ ov = .string (bs (M.take k)) ∧ Below w.heap.size w wr)
  case atStart => exact ⟨0, rfl, rfl, Nat.zero_le _, rfl, Below.refl _ _⟩
  case round =>
    obtain ⟨k, rfl, hg, hk, rfl, hbel⟩ := hrel
    have HB := Lib.hid hbel
    clear hbel
    by_cases hlt : k < d.length
    · have hk2 : k < (bs d).size := by omega
      have hkl : (k : Int) < ((bs d).size : Int) := by omega
      obtain ⟨x, hx⟩ : ∃ x, d[k] = x := ⟨_, rfl⟩
      have hg0 : (bs d)[k] = x := (bs_get d k hk2 hlt).trans hx
      have hx8 := UInt8.toNat_lt x
      have h2 := bs_size (M.take k)
      rw [List.length_take] at h2
      have hcat : ¬ ((bs (M.take k)).size + 1 > 9223372036854775807) := by omega
      have hMx : M[k]'(by omega) = lowB x := (HMk.out k (by omega) hlt).trans (congrArg lowB hx)
      have hnext : M.take (k + 1) = M.take k ++ [lowB x] := by
        rw [List.take_succ_eq_append_getElem (show k < M.length by omega), hMx]
      have hbelN : w.heap.size ≤ wr.heap.size := HB.out.size
      by_cases hup : 65 ≤ x.toNat ∧ x.toNat ≤ 90
      · have hl : lowB x = x + 32 := if_pos hup
        have hv : (x + 32).toNat = x.toNat + 32 := by rw [UInt8.toNat_add]; show (x.toNat + 32) % 256 = _; omega
        have hcv : (convert 53 9 (.slice (some ⟨wr.heap.size, 0, none⟩) 1 1)).run Tryz.prog (wr.alloc (.cells #[.int .u8 ((x.toNat : Int) + 32)] 5)) = .ok (.string (bs [x + 32])) (wr.alloc (.cells #[.int .u8 ((x.toNat : Int) + 32)] 5)) := by
          have := one_byte wr (x + 32)
          rw [hv] at this
          exact this
        have heq : bs (M.take k) ++ bs [x + 32] = bs (M.take (k + 1)) := by rw [hnext, hl, bs_append]
        have hb1 : (bs [x + 32]).size = 1 := rfl
        have hcat2 : ¬ ((bs (M.take k)).size + (bs [x + 32]).size > 9223372036854775807) := by omega
        have i1 : (65 : Int) ≤ (x.toNat : Int) := by omega
        have i2 : (x.toNat : Int) ≤ 90 := by omega
        have HE := Lib.hid heq
        clear hup heq hl hv hnext hx hMx
        go_wp2
        go_roundg (d.length - (k + 1))
        case measure => omega
        case rel => exact ⟨k + 1, by go_num, rfl, by omega, by rw [HE.out], HB.out.alloc hbelN _⟩
      · have hl : lowB x = x := if_neg hup
        have hcv := one_byte wr x
        have heq : bs (M.take k) ++ bs [x] = bs (M.take (k + 1)) := by rw [hnext, hl, bs_append]
        have hb1 : (bs [x]).size = 1 := rfl
        have hcat2 : ¬ ((bs (M.take k)).size + (bs [x]).size > 9223372036854775807) := by omega
        have HE := Lib.hid heq
        by_cases hlo : x.toNat < 65
        · have i1 : decide ((65 : Int) ≤ (x.toNat : Int)) = false := decide_eq_false (by omega)
          clear hup heq hl hnext hx hMx hlo
          go_wp2
          go_roundg (d.length - (k + 1))
          case measure => omega
          case rel => exact ⟨k + 1, by go_num, rfl, by omega, by rw [HE.out], HB.out.alloc hbelN _⟩
        · have i1 : decide ((65 : Int) ≤ (x.toNat : Int)) = true := decide_eq_true (by omega)
          have i2 : decide ((x.toNat : Int) ≤ 90) = false := decide_eq_false (by omega)
          clear hup heq hl hnext hx hMx hlo
          go_wp2
          go_roundg (d.length - (k + 1))
          case measure => omega
          case rel => exact ⟨k + 1, by go_num, rfl, by omega, by rw [HE.out], HB.out.alloc hbelN _⟩
    · have hge : ¬ ((k : Int) < ((bs d).size : Int)) := by omega
      have hfin : M.take k = M := List.take_of_length_le (by omega)
      have HF := Lib.hid hfin
      clear hfin
      go_wp2
      go_ret
      exact ⟨congrArg (fun l => Ending.returned (.string (bs l))) HF.out, HB.out⟩
end Go.Proofs.YtdilngjolhmjnaaGreatDoor
namespace Go.Proofs.YtdilngjolhmjnaaGreatDoor
open Go.RowKit Go.Shelf
set_option linter.all false

theorem Sn.setz {b : Nat} {T C A : Value} {i e : Nat} {p : K.Pl} {w : World} (h : Sn b T C A i e p w) (z : Int) (j : Nat) (hz : z = j) : Sn b T C A j e p (w.setCell ⟨b, 3, none⟩ (.int .i64 z)) := by
  subst hz
  exact h.set3 j
abbrev chrV : Nat → Value := fun d => .string (bs (U.enc d))
theorem meant_hash (ds : List Nat) : K.meant (35 :: ds) = K.numOf ds := by
  unfold K.meant
  rw [if_neg (by simp), if_neg (by simp), if_neg (by simp), if_neg (by simp), if_neg (by simp)]
  rfl
theorem meant_other {B : List Nat} (h1 : B ≠ [108, 116]) (h2 : B ≠ [103, 116]) (h3 : B ≠ [97, 109, 112]) (h4 : B ≠ [113, 117, 111, 116]) (h5 : B ≠ [97, 112, 111, 115]) (h6 : ∀ ds, B ≠ 35 :: ds) : K.meant B = none := by
  unfold K.meant
  rw [if_neg h1, if_neg h2, if_neg h3, if_neg h4, if_neg h5]
  split
  · rename_i ds
    exact absurd rfl (h6 ds)
  · rfl
theorem numOf_10 {ds : List Nat} (h : ∀ r, ds ≠ 120 :: r) : K.numOf ds = K.numIn 10 ds := by
  unfold K.numOf
  split
  · rename_i r
    exact absurd rfl (h r)
  · rfl
set_option maxHeartbeats 2000000 in
set_option maxRecDepth 100000 in
theorem num16_nil (w : World) : Calls Tryz.prog 75 #[.string ⟨#[120]⟩] w fun e w' => e = .returned (.int .i64 (-1)) ∧ w = w' := by
  go_enter Tryz.func75, Tryz.ntmps75
  go_wp2
  go_loopg [5, 6] 0 (fun g vv iv wr => iv = .int .i64 1 ∧ vv = .int .i64 0 ∧ g = 0 ∧ wr = w)
  case atStart => exact ⟨rfl, rfl, rfl, rfl⟩
  case round =>
    obtain ⟨rfl, rfl, hg, rfl⟩ := hrel
    go_wp2
    go_ret
    exact ⟨rfl, rfl⟩
theorem numbered_rf (ds : List Nat) (hs : Small ds) (hl : ds.length ≤ 70000) (hne : ds ≠ []) (w : World) :
    Calls Tryz.prog 75 #[.string (bs (K.b8 ds))] w fun e w' => e = .returned (.int .i64 (numRet (K.numOf ds))) ∧ w = w' := by
  by_cases h : ∃ r, ds = 120 :: r
  · obtain ⟨r, rfl⟩ := h
    by_cases hr : r = []
    · subst hr
      exact num16_nil w
    · exact num16_rf r (fun c hc => hs c (List.mem_cons_of_mem _ hc)) (by simp at hl; omega) hr _ rfl w
  · have h2 : ∀ r, ds ≠ 120 :: r := fun r e => h ⟨r, e⟩
    rw [numOf_10 h2]
    exact num10_rf ds hs hl hne h2 _ rfl w
/-- What a reference is, by the place of its end. -/
theorem ref_S {cs : List Nat} {i : Nat} {l : List Nat} (h : cs.drop i = 38 :: l) : K.reference (S cs i) = match K.refOf l with
    | some (c, n) => .ok (c, S cs (i + n))
    | none => .error (22, pl cs i) := by
  unfold K.reference
  rw [show (S cs i).1.tail = l by rw [S_eq, h]; rfl]
  cases K.refOf l with
  | none => rfl
  | some q => obtain ⟨c, n⟩ := q; simp only; rw [S_skip]
theorem first_of {a : Nat} {r : List Nat} (hs : Small (a :: r)) (X : ByteArray) (e : X = bs (K.b8 (a :: r))) (h : 0 < X.size) : (X[0]).toNat = a := by
  subst e
  exact b8_get (a :: r) hs 0 (by simp) h
theorem small_n8 {B : List Nat} (h : Small B) : U.n8 B = K.b8 B := K.n8_small B h

set_option maxHeartbeats 8000000 in
set_option maxRecDepth 100000 in
theorem ref_rf {b : Nat} {cs : List Nat} {T C A : Value} {i : Nat} {l : List Nat} {w : World} (hn : Sn b T C A i 0 (0, 0) w) (hr : Sr b cs T C A w) (hd : cs.drop i = 38 :: l) :
    Calls Tryz.prog 49 #[.pointer (some ⟨b, 0, none⟩)] w (RPost b cs T C A w 2 chrV (badStr 0) (K.reference (S cs i))) := by
  have href := ref_S hd
  obtain ⟨R, hR⟩ : ∃ R, K.reference (S cs i) = R := ⟨_, rfl⟩
  rw [hR] at href ⊢
  have HREF := Lib.hid href
  clear href hR
  have hlen := hr.len
  obtain ⟨hi, _, hdl⟩ := drop_at hd
  obtain ⟨_, _, _, c3, _⟩ := hn.cells
  have f3 := hn.free 3
  have hll : l.length = cs.length - (i + 1) := by rw [← hdl, List.length_drop]
  have hC : ∀ k : Nat, k ≤ 200000 → Calls Tryz.prog 42 #[.pointer (some ⟨b, 0, none⟩), .int .i64 (k : Int)] w fun e w' => e = .returned (.int .i64 (cnum cs k)) ∧ w = w' := fun k hk => c_any hn hr k hk
  have hbad := bad_ok hn hr i (by omega) 22
  rw [Nat.min_eq_left (by omega)] at hbad
  have hdk : ∀ k, cs.drop (i + 1 + k) = l.drop k := by intro k; rw [← hdl, List.drop_drop]
  have HN := Lib.hid hn
  have HR := Lib.hid hr
  have HC := Lib.hid hC
  have HDK := Lib.hid hdk
  have HDL := Lib.hid hdl
  have HLL := Lib.hid hll
  clear hn hr hC hdk hdl hd hll
  go_enter Tryz.func49, Tryz.ntmps49
  go_wp2
  go_loopg [4] l.length (fun g tv wr => ∃ k : Nat, tv = .int .i64 ((i + 1 + k : Nat) : Int) ∧ l.length - k = g ∧ k ≤ l.length ∧ (∀ y ∈ l.take k, y ≠ 59 ∧ y < 128) ∧ wr = w)
  case atStart => exact ⟨0, by go_num, rfl, Nat.zero_le _, by simp, rfl⟩
  case round =>
    obtain ⟨k, rfl, hg, hk, hall, rfl⟩ := hrel
    have hll := HLL.out
    have hc := HC.out (i + 1 + k) (by omega)
    have hend := ref_end l k (fun y hy => (hall y hy).1)
    have HAll := Lib.hid hall
    have HEnd := Lib.hid hend
    clear hall hend
    rcases cnum_cases cs (i + 1 + k) with ⟨hd, e⟩ | ⟨c, r, hd, e⟩
    · rw [e] at hc
      have hro := HEnd.out.2.1 (by rw [← HDK.out]; exact hd)
      have hres := HREF.out
      rw [hro] at hres
      have HRES : Hid (R = .error (22, pl cs i)) := Lib.hid hres
      clear hd e hro hres
      go_wp2_with (first
        | (go_at_call 42; refine hc.mono ?_; rintro e w' ⟨rfl, rfl⟩)
        | (go_at_call 26; refine hbad.mono ?_; rintro e w2 ⟨rfl, hs2, hb2⟩))
      go_ret
      rw [HRES.out]
      exact ⟨hb2, _, i, rfl, ⟨⟨#[]⟩, rfl, by decide⟩, by omega, by simp, by simp, hs2⟩
    · rw [e] at hc
      rw [HDK.out] at hd
      have hlt : k < l.length := (drop_at hd).1
      by_cases h59 : c = 59
      · subst h59
        have hro := HEnd.out.1 r hd
        have hkl : (l.take k).length = k := by rw [List.length_take]; omega
        have hpart := part_rf HN.out HR.out (i + 1) k (by omega) ((i + 1 + k : Nat) : Int) rfl
        rw [HDL.out] at hpart
        have hsm : Small (l.take k) := fun y hy => (HAll.out y hy).2
        obtain ⟨B, hB⟩ : ∃ B, l.take k = B := ⟨_, rfl⟩
        rw [hB] at hro hpart hsm hkl
        have hscB : K.Sc B := fun y hy => K.sc_small (hsm y hy)
        have hset := HN.out.set3 (i + 1 + k + 1)
        have HSET := Lib.hid hset
        have HRO := Lib.hid hro
        clear hro hd e hset
        have q0 := cmp_b8 hscB (t := [108, 116]) (by unfold Small; decide) [108, 116] rfl _ rfl
        have q1 := cmp_b8 hscB (t := [103, 116]) (by unfold Small; decide) [103, 116] rfl _ rfl
        have q2 := cmp_b8 hscB (t := [97, 109, 112]) (by unfold Small; decide) [97, 109, 112] rfl _ rfl
        have q3 := cmp_b8 hscB (t := [113, 117, 111, 116]) (by unfold Small; decide) [113, 117, 111, 116] rfl _ rfl
        have q4 := cmp_b8 hscB (t := [97, 112, 111, 115]) (by unfold Small; decide) [97, 112, 111, 115] rfl _ rfl
        have hBn : (U.n8 B).length = B.length := K.n8_length_small B hsm
        have hXs := bs_size (U.n8 B)
        obtain ⟨X, hX⟩ : ∃ X, bs (U.n8 B) = X := ⟨_, rfl⟩
        rw [hX] at q0 q1 q2 q3 q4 hpart hXs
        have hX0 : ∀ a r, B = a :: r → ∀ (h : 0 < X.size), (X[0]).toNat = a := fun a r e h => first_of (by rw [← e]; exact hsm) X (by rw [← hX, small_n8 hsm, e]) h
        have hX1 : ∀ a r, B = a :: r → X.extract 1 X.size = bs (K.b8 r) := by
          intro a r e
          rw [← hX, small_n8 hsm, bs_drop, e]
          rfl
        have hpart : Calls Tryz.prog 46 #[.pointer (some ⟨b, 0, none⟩), .int .i64 ((i + 1 : Nat) : Int), .int .i64 ((i + 1 + k : Nat) : Int)] wr fun en w' => en = .returned (.string X) ∧ wr = w' := hpart
        have hbx : badStr 0 (.string ⟨#[]⟩) := ⟨⟨#[]⟩, rfl, by decide⟩
        clear hX
        by_cases e0 : B = [108, 116]
        · have hm : K.meant B = some 60 := by rw [e0]; rfl
          have HRES : Hid (R = .ok (60, S cs (i + (k + 2)))) := Lib.hid (by have h := HREF.out; rw [HRO.out, hm] at h; exact h)
          have p0 : (X.toList == [108, 116]) = true := q0.trans (by rw [e0]; decide)
          clear q0 q1 q2 q3 q4 hX0 hX1 hm e0 hsm hscB
          go_wp2_with (first
            | (go_at_call 42; refine hc.mono ?_; rintro e w' ⟨rfl, rfl⟩)
            | (go_at_call 46; refine hpart.mono ?_; rintro e w3 ⟨rfl, rfl⟩))
          go_ret
          rw [HRES.out]
          exact ⟨Bar.set _ 3 _, i + (k + 2), rfl, by omega, rfl, by rw [show i + (k + 2) = i + 1 + k + 1 by omega]; exact HSET.out⟩
        have r0 : (X.toList == [108, 116]) = false := q0.trans (decide_eq_false e0)
        have n0 := e0
        clear q0 e0
        by_cases e0 : B = [103, 116]
        · have hm : K.meant B = some 62 := by rw [e0]; rfl
          have HRES : Hid (R = .ok (62, S cs (i + (k + 2)))) := Lib.hid (by have h := HREF.out; rw [HRO.out, hm] at h; exact h)
          have p1 : (X.toList == [103, 116]) = true := q1.trans (by rw [e0]; decide)
          clear q1 q2 q3 q4 hX0 hX1 hm e0 hsm hscB
          go_wp2_with (first
            | (go_at_call 42; refine hc.mono ?_; rintro e w' ⟨rfl, rfl⟩)
            | (go_at_call 46; refine hpart.mono ?_; rintro e w3 ⟨rfl, rfl⟩))
          go_ret
          rw [HRES.out]
          exact ⟨Bar.set _ 3 _, i + (k + 2), rfl, by omega, rfl, by rw [show i + (k + 2) = i + 1 + k + 1 by omega]; exact HSET.out⟩
        have r1 : (X.toList == [103, 116]) = false := q1.trans (decide_eq_false e0)
        have n1 := e0
        clear q1 e0
        by_cases e0 : B = [97, 109, 112]
        · have hm : K.meant B = some 38 := by rw [e0]; rfl
          have HRES : Hid (R = .ok (38, S cs (i + (k + 2)))) := Lib.hid (by have h := HREF.out; rw [HRO.out, hm] at h; exact h)
          have p2 : (X.toList == [97, 109, 112]) = true := q2.trans (by rw [e0]; decide)
          clear q2 q3 q4 hX0 hX1 hm e0 hsm hscB
          go_wp2_with (first
            | (go_at_call 42; refine hc.mono ?_; rintro e w' ⟨rfl, rfl⟩)
            | (go_at_call 46; refine hpart.mono ?_; rintro e w3 ⟨rfl, rfl⟩))
          go_ret
          rw [HRES.out]
          exact ⟨Bar.set _ 3 _, i + (k + 2), rfl, by omega, rfl, by rw [show i + (k + 2) = i + 1 + k + 1 by omega]; exact HSET.out⟩
        have r2 : (X.toList == [97, 109, 112]) = false := q2.trans (decide_eq_false e0)
        have n2 := e0
        clear q2 e0
        by_cases e0 : B = [113, 117, 111, 116]
        · have hm : K.meant B = some 34 := by rw [e0]; rfl
          have HRES : Hid (R = .ok (34, S cs (i + (k + 2)))) := Lib.hid (by have h := HREF.out; rw [HRO.out, hm] at h; exact h)
          have p3 : (X.toList == [113, 117, 111, 116]) = true := q3.trans (by rw [e0]; decide)
          clear q3 q4 hX0 hX1 hm e0 hsm hscB
          go_wp2_with (first
            | (go_at_call 42; refine hc.mono ?_; rintro e w' ⟨rfl, rfl⟩)
            | (go_at_call 46; refine hpart.mono ?_; rintro e w3 ⟨rfl, rfl⟩))
          go_ret
          rw [HRES.out]
          exact ⟨Bar.set _ 3 _, i + (k + 2), rfl, by omega, rfl, by rw [show i + (k + 2) = i + 1 + k + 1 by omega]; exact HSET.out⟩
        have r3 : (X.toList == [113, 117, 111, 116]) = false := q3.trans (decide_eq_false e0)
        have n3 := e0
        clear q3 e0
        by_cases e0 : B = [97, 112, 111, 115]
        · have hm : K.meant B = some 39 := by rw [e0]; rfl
          have HRES : Hid (R = .ok (39, S cs (i + (k + 2)))) := Lib.hid (by have h := HREF.out; rw [HRO.out, hm] at h; exact h)
          have p4 : (X.toList == [97, 112, 111, 115]) = true := q4.trans (by rw [e0]; decide)
          clear q4 hX0 hX1 hm e0 hsm hscB
          go_wp2_with (first
            | (go_at_call 42; refine hc.mono ?_; rintro e w' ⟨rfl, rfl⟩)
            | (go_at_call 46; refine hpart.mono ?_; rintro e w3 ⟨rfl, rfl⟩))
          go_ret
          rw [HRES.out]
          exact ⟨Bar.set _ 3 _, i + (k + 2), rfl, by omega, rfl, by rw [show i + (k + 2) = i + 1 + k + 1 by omega]; exact HSET.out⟩
        have r4 : (X.toList == [97, 112, 111, 115]) = false := q4.trans (decide_eq_false e0)
        have n4 := e0
        clear q4 e0
        have hb2 : ∀ W, Sn b T C A (i + 1 + k + 1) 0 (0, 0) W → Sr b cs T C A W → Calls Tryz.prog 26 #[.pointer (some ⟨b, 0, none⟩), .int .i64 (i : Int), .int .i64 22] W fun en w' => en = .returned (.tuple #[]) ∧ Sn b T C A (i + 1 + k + 1) 22 (pl cs i) w' ∧ Bar b W w' := by
          intro W h1 h2
          have := bad_ok h1 h2 i (by omega) 22
          rwa [Nat.min_eq_left (by omega)] at this
        have HB2 := Lib.hid hb2
        clear hb2
        by_cases h35 : ∃ ds, B = 35 :: ds ∧ ds ≠ []
        · obtain ⟨ds, hBd, hne⟩ := h35
          have hBl : B.length = ds.length + 1 := by rw [hBd]; rfl
          have hdp : 0 < ds.length := List.length_pos_iff.2 hne
          have hs0 : 0 < X.size := by omega
          have hs1 : (1 : Int) < (X.size : Int) := by omega
          have hs2 : 1 ≤ X.size := by omega
          have hx0 : X[0] = 35 := UInt8.toNat_inj.1 (hX0 35 ds hBd hs0)
          have hXk : X.size = k := by omega
          have hx1 := hX1 35 ds hBd
          rw [hXk] at hx1
          have hsd : Small ds := fun y hy => hsm y (by rw [hBd]; exact List.mem_cons_of_mem _ hy)
          have hnum := numbered_rf ds hsd (by omega) hne
          rw [← hx1] at hnum
          have hmt : K.meant B = K.numOf ds := by rw [hBd]; exact meant_hash ds
          have HNum := Lib.hid hnum
          clear hX0 hX1 hx1 hnum hBd hne
          cases hno : K.numOf ds with
          | none =>
            rw [hno] at HNum
            have hnn := fun W => HNum.out W
            have HRES : Hid (R = .error (22, pl cs i)) := Lib.hid (by have h := HREF.out; rw [HRO.out, hmt, hno] at h; exact h)
            clear hmt
            go_wp2_with (first
              | (go_at_call 42; refine hc.mono ?_; rintro e w' ⟨rfl, rfl⟩)
              | (go_at_call 46; refine hpart.mono ?_; rintro e w3 ⟨rfl, rfl⟩)
              | (go_at_call 75; refine (hnn _).mono ?_; rintro e w3 ⟨rfl, rfl⟩)
              | (go_at_call 26; refine (HB2.out _ (HN.out.setz _ (i + 1 + k + 1) (by omega)) (HR.out.bar (Bar.set _ 3 _))).mono ?_; rintro e w4 ⟨rfl, hs4, hb4⟩))
            go_ret
            rw [HRES.out]
            exact ⟨(Bar.set _ 3 _).trans hb4, _, i + 1 + k + 1, rfl, hbx, by omega, by simp, by simp, hs4⟩
          | some d =>
            rw [hno] at HNum
            have hnn := fun W => HNum.out W
            have hsc : U.scalar d := meant_scalar (hmt.trans hno)
            have hut := fun W => utf_rf d hsc W
            have hd0 : (0 : Int) ≤ (d : Int) := by omega
            have hd1 : ¬ ((d : Int) < 0) := by omega
            have HRES : Hid (R = .ok (d, S cs (i + (k + 2)))) := Lib.hid (by have h := HREF.out; rw [HRO.out, hmt, hno] at h; exact h)
            clear hmt
            go_wp2_with (first
              | (go_at_call 42; refine hc.mono ?_; rintro e w' ⟨rfl, rfl⟩)
              | (go_at_call 46; refine hpart.mono ?_; rintro e w3 ⟨rfl, rfl⟩)
              | (go_at_call 75; refine (hnn _).mono ?_; rintro e w3 ⟨rfl, rfl⟩)
              | (go_at_call 76; refine (hut _).mono ?_; rintro e w4 ⟨rfl, hb4⟩))
            go_ret
            rw [HRES.out]
            exact ⟨(Bar.set _ 3 _).bel hb4, i + (k + 2), rfl, by omega, rfl, by rw [show i + (k + 2) = i + 1 + k + 1 by omega]; exact HSET.out.keep hb4⟩
        · by_cases h36 : B = [35]
          · have hm : K.meant B = none := by rw [h36]; rfl
            have hBl : B.length = 1 := by rw [h36]; rfl
            have hs1 : ¬ (1 : Int) < (X.size : Int) := by omega
            have HRES : Hid (R = .error (22, pl cs i)) := Lib.hid (by have h := HREF.out; rw [HRO.out, hm] at h; exact h)
            clear hX0 hX1 hm h36 h35
            go_wp2_with (first
              | (go_at_call 42; refine hc.mono ?_; rintro e w' ⟨rfl, rfl⟩)
              | (go_at_call 46; refine hpart.mono ?_; rintro e w3 ⟨rfl, rfl⟩)
              | (go_at_call 26; refine (HB2.out _ (HN.out.setz _ (i + 1 + k + 1) (by omega)) (HR.out.bar (Bar.set _ 3 _))).mono ?_; rintro e w4 ⟨rfl, hs4, hb4⟩))
            go_ret
            rw [HRES.out]
            exact ⟨(Bar.set _ 3 _).trans hb4, _, i + 1 + k + 1, rfl, hbx, by omega, by simp, by simp, hs4⟩
          · have hm : K.meant B = none := meant_other n0 n1 n2 n3 n4 (fun ds e => by
              by_cases hds : ds = []
              · exact h36 (by rw [e, hds])
              · exact h35 ⟨ds, e, hds⟩)
            have HRES : Hid (R = .error (22, pl cs i)) := Lib.hid (by have h := HREF.out; rw [HRO.out, hm] at h; exact h)
            by_cases hl1 : (1 : Int) < (X.size : Int)
            · have hs0 : 0 < X.size := by omega
              obtain ⟨c0, hc0⟩ : ∃ c0, X[0] = c0 := ⟨_, rfl⟩
              have n35 : ((c0.toNat : Int) == 35) = false := by
                rw [beq_eq_false_iff_ne]
                intro e
                cases B with
                | nil =>
                  exfalso
                  have h0 : (U.n8 []).length = 0 := rfl
                  omega
                | cons a r =>
                  have h1 := hX0 a r rfl hs0
                  rw [hc0] at h1
                  have ha : a = 35 := by omega
                  subst ha
                  by_cases hds : r = []
                  · exact h36 (by rw [hds])
                  · exact h35 ⟨r, rfl, hds⟩
              clear hX0 hX1 hm h36 h35
              go_wp2_with (first
                | (go_at_call 42; refine hc.mono ?_; rintro e w' ⟨rfl, rfl⟩)
                | (go_at_call 46; refine hpart.mono ?_; rintro e w3 ⟨rfl, rfl⟩)
                | (go_at_call 26; refine (HB2.out _ (HN.out.setz _ (i + 1 + k + 1) (by omega)) (HR.out.bar (Bar.set _ 3 _))).mono ?_; rintro e w4 ⟨rfl, hs4, hb4⟩))
              go_ret
              rw [HRES.out]
              exact ⟨(Bar.set _ 3 _).trans hb4, _, i + 1 + k + 1, rfl, hbx, by omega, by simp, by simp, hs4⟩
            · clear hX0 hX1 hm h36 h35
              go_wp2_with (first
                | (go_at_call 42; refine hc.mono ?_; rintro e w' ⟨rfl, rfl⟩)
                | (go_at_call 46; refine hpart.mono ?_; rintro e w3 ⟨rfl, rfl⟩)
                | (go_at_call 26; refine (HB2.out _ (HN.out.setz _ (i + 1 + k + 1) (by omega)) (HR.out.bar (Bar.set _ 3 _))).mono ?_; rintro e w4 ⟨rfl, hs4, hb4⟩))
              go_ret
              rw [HRES.out]
              exact ⟨(Bar.set _ 3 _).trans hb4, _, i + 1 + k + 1, rfl, hbx, by omega, by simp, by simp, hs4⟩
      · by_cases hbig : 127 < c
        · have hro := HEnd.out.2.2 c r hd hbig
          have hres := HREF.out
          rw [hro] at hres
          have HRES : Hid (R = .error (22, pl cs i)) := Lib.hid hres
          clear hres
          have n59 : ((c : Int) == 59) = false := by rw [beq_eq_false_iff_ne]; omega
          have hbi : (127 : Int) < (c : Int) := by omega
          clear hd e hro
          go_wp2_with (first
            | (go_at_call 42; refine hc.mono ?_; rintro e w' ⟨rfl, rfl⟩)
            | (go_at_call 26; refine hbad.mono ?_; rintro e w2 ⟨rfl, hs2, hb2⟩))
          go_ret
          rw [HRES.out]
          exact ⟨hb2, _, i, rfl, ⟨⟨#[]⟩, rfl, by decide⟩, by omega, by simp, by simp, hs2⟩
        · have n59 : ((c : Int) == 59) = false := by rw [beq_eq_false_iff_ne]; omega
          have hbi : (c : Int) ≤ 127 := by omega
          have hnext : ∀ y ∈ l.take (k + 1), y ≠ 59 ∧ y < 128 := by
            intro y hy
            rw [List.take_succ_eq_append_getElem hlt] at hy
            rcases List.mem_append.1 hy with hy | hy
            · exact HAll.out y hy
            · simp only [List.mem_singleton] at hy
              have : l[k] = c := by have := (drop_at hd).2.1; rw [List.getElem?_eq_getElem hlt] at this; exact Option.some.inj this
              rw [this] at hy
              subst hy
              exact ⟨h59, by omega⟩
          have HNX := Lib.hid hnext
          clear hd e hnext
          go_wp2_with (go_at_call 42; refine hc.mono ?_; rintro e w' ⟨rfl, rfl⟩)
          go_roundg (l.length - (k + 1))
          case measure => omega
          case rel => exact ⟨k + 1, by go_num, rfl, by omega, HNX.out, rfl⟩
end Go.Proofs.YtdilngjolhmjnaaGreatDoor
namespace Go.Proofs.YtdilngjolhmjnaaGreatDoor
open Go.RowKit Go.Shelf
set_option linter.all false

/-- A fault has been found. -/
def Sbad (b : Nat) (cs : List Nat) (T C A : Value) (er : K.Er) (w : World) : Prop := 1 ≤ er.1 ∧ er.1 ≤ 100 ∧ ∃ j, j ≤ cs.length + 2 ∧ Sn b T C A j er.1 er.2 w
theorem acc_next {acc : List Nat} {d : Nat} (hsz : acc.length ≤ 65536) : bs (U.n8 acc) ++ bs (U.enc d) = bs (U.n8 (acc ++ [d])) ∧ ¬ ((bs (U.n8 acc)).size + (bs (U.enc d)).size > 9223372036854775807) := by
  have h1 := n8_len4 acc
  have h2 := enc_len4 d
  have h3 := bs_size (U.n8 acc)
  have h4 := bs_size (U.enc d)
  exact ⟨by rw [U.n8_append, bs_append, one_n8], by omega⟩
theorem quiet_eq {P : Program} {f : FuncId} {args : Array Value} {w : World} {n : Nat} {v : Value} (c : Calls P f args (w.drewN n) fun e w' => e = .returned v ∧ w.drewN n = w') :
    Calls P f args (w.drewN n) fun e w'' => e = .returned v ∧ ∃ m, w'' = w.drewN m := c.mono fun _ _ ⟨he, hm⟩ => ⟨he, n, hm.symm⟩
theorem ref_more {s s1 : K.St} {d : Nat} (h : K.reference s = .ok (d, s1)) (hs : s.1 ≠ []) : s1.1.length < s.1.length := by
  obtain ⟨l, p⟩ := s
  cases l with
  | nil => exact absurd rfl hs
  | cons c r => exact ref_short h

/-- What the walk over a text has come to. -/
def WdRel (b : Nat) (cs : List Nat) (T C A : Value) (R : Except K.Er (List Nat × K.St)) (w : World) (g : Nat) (ov : Value) (wr : World) : Prop :=
  Bar b w wr ∧ ((∃ (acc : List Nat) (j : Nat), ov = .string (bs (U.n8 acc)) ∧ cs.length - j + 1 = g ∧ WF (S cs j) acc = R ∧ j ≤ cs.length ∧ acc.length ≤ j ∧ Sn b T C A j 0 (0, 0) wr) ∨
    (g = 0 ∧ ∃ o : ByteArray, ov = .string o ∧ o.size ≤ 300000 ∧ ∃ er, R = .error er ∧ Sbad b cs T C A er wr))

set_option maxHeartbeats 8000000 in
set_option maxRecDepth 100000 in
theorem words_rf {b : Nat} {cs : List Nat} {T C A : Value} {i : Nat} {w : World} (hn : Sn b T C A i 0 (0, 0) w) (hr : Sr b cs T C A w) (hi : i ≤ cs.length) :
    Calls Tryz.prog 28 #[.pointer (some ⟨b, 0, none⟩)] w (RPost b cs T C A w 2 strN (badStr 300000) (K.words (S cs i))) := by
  have hlen := hr.len
  obtain ⟨R, hR⟩ : ∃ R, K.words (S cs i) = R := ⟨_, rfl⟩
  have hst : WdRel b cs T C A R w (cs.length - i + 1) (.string ⟨#[]⟩) w := ⟨Bar.refl _ _, .inl ⟨[], i, rfl, rfl, hR, hi, Nat.zero_le _, hn⟩⟩
  rw [hR]
  have HST := Lib.hid hst
  have HR := Lib.hid hr
  clear hR hn hr hst
  go_enter Tryz.func28, Tryz.ntmps28
  go_wp2
  go_loopg [3] (cs.length - i + 1) (fun g ov wr => WdRel b cs T C A R w g ov wr)
  case atStart => exact HST.out
  case round =>
    obtain ⟨hbar, hcase⟩ := hrel
    have hr' := HR.out.bar hbar
    have HB := Lib.hid hbar
    have HR' := Lib.hid hr'
    clear hbar hr'
    rcases hcase with ⟨acc, j, rfl, hg, hWF, hj, haj, hs⟩ | ⟨hg, o, rfl, ho, er, hRe, hs1, hs2, j, hj, hs⟩
    · obtain ⟨c0, _, _, c3, c4⟩ := hs.cells
      have f3 := hs.free 3
      have hcP := c_any hs HR'.out j (by omega)
      have hc := fun n => c_any (hs.drew n) (HR'.out.bar (bar_drew b wr n)) j (by omega)
      have HS := Lib.hid hs
      have HW := Lib.hid hWF
      clear hs hWF
      cases hd : cs.drop j with
      | nil =>
        rw [cnum_none hd] at hcP
        have hres : R = .ok (acc, S cs j) := by rw [← HW.out, S_eq, hd]; exact WF_nil _ _
        have HRES := Lib.hid hres
        clear hd hres
        go_wp2_with (go_at_call 42; refine hcP.mono ?_; rintro e w' ⟨rfl, rfl⟩)
        go_ret
        rw [HRES.out]
        exact ⟨HB.out, j, rfl, hj, rfl, HS.out⟩
      | cons c r =>
        rw [cnum_some hd] at hcP
        have hc := hc
        simp only [cnum_some hd] at hc
        have hc0 : decide ((0 : Int) ≤ (c : Int)) = true := decide_eq_true (by omega)
        obtain ⟨hS1, hS2⟩ := S_cons hd
        obtain ⟨hjl, hsome, _⟩ := drop_at hd
        by_cases h60 : c = 60
        · subst h60
          have hres : R = .ok (acc, S cs j) := by rw [← HW.out, hS1]; exact WF_lt _ _ _
          have HRES := Lib.hid hres
          clear hd hres hS1 hS2 hsome
          go_wp2_with (go_at_call 42; refine hcP.mono ?_; rintro e w' ⟨rfl, rfl⟩)
          go_ret
          rw [HRES.out]
          exact ⟨HB.out, j, rfl, hj, rfl, HS.out⟩
        · have n60 : ((c : Int) == 60) = false := by rw [beq_eq_false_iff_ne]; omega
          have hhP := here_any HS.out HR'.out (by omega) [93, 93, 62] (by unfold Small; decide) (by decide) ⟨#[93, 93, 62]⟩ rfl
          have hh := fun n => here_any (HS.out.drew n) (HR'.out.bar (bar_drew b wr n)) (by omega) [93, 93, 62] (by unfold Small; decide) (by decide) ⟨#[93, 93, 62]⟩ rfl
          cases hse : K.sees [93, 93, 62] (S cs j) with
          | true =>
            rw [hse] at hhP
            clear hh
            have hres : R = .error (21, pl cs j) := by rw [← HW.out, hS1]; exact WF_wrong h60 _ _ _ (by rw [← hS1]; exact hse)
            have hbad := fun n => bad_ok (HS.out.drew n) (HR'.out.bar (bar_drew b wr n)) j (by omega) 21
            rw [Nat.min_eq_left hj] at hbad
            have HRE := Lib.hid hres
            have h4 := n8_len4 acc
            have h5 := bs_size (U.n8 acc)
            clear hd hres hS1 hS2 hsome hse
            go_wp2_with (first
              | (go_at_call 42; first | (with_reducible refine hcP.mono ?_; rintro e w' ⟨rfl, rfl⟩) | (with_reducible refine (hc _).mono ?_; rintro e w' ⟨rfl, rfl⟩))
              | (go_at_call 23; refine hhP.mono ?_; rintro e w' ⟨rfl, n1, rfl⟩)
              | (go_at_call 26; refine (hbad _).mono ?_; rintro e w2 ⟨rfl, hs2, hb2⟩))
            go_roundg 0
            case measure => omega
            case rel => exact ⟨HB.out.trans ((bar_drew b wr _).trans hb2), .inr ⟨rfl, _, rfl, by omega, _, HRE.out, by simp, by simp, j, by omega, hs2⟩⟩
          | false =>
            rw [hse] at hhP
            clear hh
            by_cases h38 : c = 38
            · subst h38
              have hwf : R = match K.reference (S cs j) with | .ok (d, s) => WF s (acc ++ [d]) | .error e => .error e := by
                rw [← HW.out, hS1]; exact WF_ref _ _ _
              have href := fun n => ref_rf (HS.out.drew n) (HR'.out.bar (bar_drew b wr n)) hd
              cases hre : K.reference (S cs j) with
              | error er =>
                rw [hre] at href hwf
                have HRE := Lib.hid hwf
                have h4 := n8_len4 acc
                have h5 := bs_size (U.n8 acc)
                clear hd hwf hS1 hS2 hsome hse hre
                have hcat : ∀ z : ByteArray, z.size ≤ 0 → ¬ ((bs (U.n8 acc)).size + z.size > 9223372036854775807) := fun z hz => by omega
                go_wp2_with (first
                  | (go_at_call 42; first | (with_reducible refine hcP.mono ?_; rintro e w' ⟨rfl, rfl⟩) | (with_reducible refine (hc _).mono ?_; rintro e w' ⟨rfl, rfl⟩))
                  | (go_at_call 23; refine hhP.mono ?_; rintro e w' ⟨rfl, n1, rfl⟩)
                  | (go_at_call 49; refine (href _).mono ?_; rintro e w2 ⟨hb2, z, j2, rfl, ⟨zo, rfl, hzo⟩, hj2, he1, he2, hs2⟩; have hcz := hcat zo hzo))
                go_roundg 0
                case measure => omega
                case rel => exact ⟨HB.out.trans ((bar_drew b wr _).trans hb2), .inr ⟨rfl, _, rfl, by rw [ByteArray.size_append]; omega, er, HRE.out, he1, he2, j2, hj2, hs2⟩⟩
              | ok q =>
                obtain ⟨d, s⟩ := q
                rw [hre] at href hwf
                have hlt := ref_more hre (by rw [hS1]; simp)
                have HRE := Lib.hid hwf
                obtain ⟨e1, e2⟩ := acc_next (acc := acc) (d := d) (by omega)
                have HE := Lib.hid e1
                clear hd hwf hS1 hS2 hsome hse hre e1
                go_wp2_with (first
                  | (go_at_call 42; first | (with_reducible refine hcP.mono ?_; rintro e w' ⟨rfl, rfl⟩) | (with_reducible refine (hc _).mono ?_; rintro e w' ⟨rfl, rfl⟩))
                  | (go_at_call 23; refine hhP.mono ?_; rintro e w' ⟨rfl, n1, rfl⟩)
                  | (go_at_call 49; refine (href _).mono ?_; rintro e w2 ⟨hb2, j2, rfl, hj2, rfl, hs2⟩))
                simp only [S_eq, List.length_drop] at hlt
                go_roundg (cs.length - j2 + 1)
                case measure => omega
                case rel => exact ⟨HB.out.trans ((bar_drew b wr _).trans hb2), .inl ⟨acc ++ [d], j2, by rw [HE.out], rfl, HRE.out.symm, hj2, by simp; omega, hs2⟩⟩
            · have n38 : ((c : Int) == 38) = false := by rw [beq_eq_false_iff_ne]; omega
              have hwf : WF (S cs (j + 1)) (acc ++ [c]) = R := by
                rw [← HW.out, hS1, hS2]
                exact (WF_one h60 h38 _ _ _ (by rw [← hS1]; exact hse)).symm
              obtain ⟨g, m, hT, hcell⟩ := HR'.out.texts j c hsome
              have hcl := hcell wr (Bar.refl _ _)
              rw [hT] at c0
              have hjz : (j : Int) < (cs.length : Int) := by omega
              obtain ⟨e1, e2⟩ := acc_next (acc := acc) (d := c) (by omega)
              have HE := Lib.hid e1
              have HWF := Lib.hid hwf
              clear hd hwf hS1 hS2 hsome hse e1 hT hcell
              go_wp2_with (first
                | (go_at_call 42; first | (with_reducible refine hcP.mono ?_; rintro e w' ⟨rfl, rfl⟩) | (with_reducible refine (hc _).mono ?_; rintro e w' ⟨rfl, rfl⟩))
                | (go_at_call 23; refine hhP.mono ?_; rintro e w' ⟨rfl, n1, rfl⟩))
              go_quiet (fail)
              go_wp2
              go_roundg (cs.length - (j + 1) + 1)
              case measure => omega
              case rel => exact ⟨HB.out.trans ((bar_drew b wr _).trans (Bar.set _ 3 _)), .inl ⟨acc ++ [c], j + 1, by rw [HE.out], rfl, HWF.out, by omega, by simp; omega, (HS.out.drew _).set3 (j + 1)⟩⟩
    · obtain ⟨_, _, _, c3, c4⟩ := hs.cells
      have hne : ((er.1 : Int) == 0) = false := by rw [beq_eq_false_iff_ne]; omega
      have HRES := Lib.hid hRe
      go_wp2
      go_ret
      rw [HRES.out]
      exact ⟨HB.out, _, j, rfl, ⟨o, rfl, ho⟩, by omega, hs1, hs2, hs⟩
end Go.Proofs.YtdilngjolhmjnaaGreatDoor
namespace Go.Proofs.YtdilngjolhmjnaaGreatDoor
open Go.RowKit Go.Shelf
set_option linter.all false

/-- What the walk over a value has come to. -/
def VlRel (m : Nat) (b : Nat) (cs : List Nat) (T C A : Value) (R : Except K.Er (List Nat × K.St)) (w : World) (g : Nat) (ov : Value) (wr : World) : Prop :=
  Bar b w wr ∧ ((∃ (acc : List Nat) (j : Nat), ov = .string (bs (U.n8 acc)) ∧ cs.length - j + 1 = g ∧ VF m (S cs j) acc = R ∧ j ≤ cs.length ∧ acc.length ≤ j ∧ Sn b T C A j 0 (0, 0) wr) ∨
    (g = 0 ∧ ∃ o : ByteArray, ov = .string o ∧ o.size ≤ 300000 ∧ ∃ er, R = .error er ∧ Sbad b cs T C A er wr))
theorem VF_end (m : Nat) (cs : List Nat) (j : Nat) (acc : List Nat) (h : cs.drop j = []) : VF m (S cs j) acc = .error (21, pl cs j) := by rw [S_eq, h]; exact VF_nil _ _ _

set_option maxHeartbeats 8000000 in
set_option maxRecDepth 100000 in
theorem value34_rf {b : Nat} {cs : List Nat} {T C A : Value} {i : Nat} {l0 : List Nat} {w : World} (hn : Sn b T C A i 0 (0, 0) w) (hr : Sr b cs T C A w) (hd0 : cs.drop i = 34 :: l0) :
    Calls Tryz.prog 73 #[.pointer (some ⟨b, 0, none⟩)] w (RPost b cs T C A w 3 strN (badStr 300000) (K.value (S cs i))) := by
  have hlen := hr.len
  obtain ⟨R, hR⟩ : ∃ R, K.value (S cs i) = R := ⟨_, rfl⟩
  obtain ⟨hi, _, _⟩ := drop_at hd0
  have hVF : VF 34 (S cs (i + 1)) [] = R := by
    rw [← hR, (S_cons hd0).1, (S_cons hd0).2]
    unfold K.value
    simp only
    rw [if_pos (by decide)]
    rfl
  obtain ⟨_, _, _, c3, c4⟩ := hn.cells
  have f3 := hn.free 3
  have hc := c_any hn hr i (by omega)
  rw [cnum_some hd0] at hc
  have hst : VlRel 34 b cs T C A R w (cs.length - (i + 1) + 1) (.string ⟨#[]⟩) (w.setCell ⟨b, 3, none⟩ (.int .i64 ((i + 1 : Nat) : Int))) := ⟨Bar.set _ 3 _, .inl ⟨[], i + 1, rfl, rfl, hVF, by omega, Nat.zero_le _, hn.set3 (i + 1)⟩⟩
  rw [hR]
  have HST := Lib.hid hst
  have HR := Lib.hid hr
  clear hR hn hr hst hVF hd0
  go_enter Tryz.func73, Tryz.ntmps73
  go_wp2_with (go_at_call 42; refine hc.mono ?_; rintro e w' ⟨rfl, rfl⟩)
  go_loopg [4] (cs.length - (i + 1) + 1) (fun g ov wr => VlRel 34 b cs T C A R w g ov wr)
  case atStart => exact HST.out
  case round =>
    obtain ⟨hbar, hcase⟩ := hrel
    have hr' := HR.out.bar hbar
    have HB := Lib.hid hbar
    have HR' := Lib.hid hr'
    clear hbar hr' hc c3 c4 f3
    rcases hcase with ⟨acc, j, rfl, hg, hWF, hj, haj, hs⟩ | ⟨hg, o, rfl, ho, er, hRe, hs1, hs2, j, hj, hs⟩
    · obtain ⟨c0, _, _, c3, c4⟩ := hs.cells
      have f3 := hs.free 3
      have hc := c_any hs HR'.out j (by omega)
      have hbl := refBlank_any (cs.drop j) wr
      have HS := Lib.hid hs
      have HW := Lib.hid hWF
      have h4 := n8_len4 acc
      have h5 := bs_size (U.n8 acc)
      clear hs hWF
      cases hd : cs.drop j with
      | nil =>
        rw [cnum_none hd] at hc
        have hres : R = .error (21, pl cs j) := by rw [← HW.out]; exact VF_end _ _ _ _ hd
        have hbad := bad_ok HS.out HR'.out j (by omega) 21
        rw [Nat.min_eq_left hj] at hbad
        have HRE := Lib.hid hres
        clear hd hres hbl
        go_wp2_with (first
          | (go_at_call 42; refine hc.mono ?_; rintro e w' ⟨rfl, rfl⟩)
          | (go_at_call 26; refine hbad.mono ?_; rintro e w2 ⟨rfl, hs2, hb2⟩))
        go_roundg 0
        case measure => omega
        case rel => exact ⟨HB.out.trans hb2, .inr ⟨rfl, _, rfl, by omega, _, HRE.out, by simp, by simp, j, by omega, hs2⟩⟩
      | cons c r =>
        rw [cnum_some hd] at hc
        rw [hd] at hbl
        have hbl : Calls Tryz.prog 41 #[.int .i64 (c : Int)] wr fun e w' => e = .returned (.bool (K.blank c)) ∧ wr = w' := hbl
        obtain ⟨hS1, hS2⟩ := S_cons hd
        obtain ⟨hjl, hsome, _⟩ := drop_at hd
        by_cases hm : c = 34
        · subst hm
          have hres : R = .ok (acc, S cs (j + 1)) := by rw [← HW.out, hS1, hS2]; exact VF_mark _ _ _ _
          have HRES := Lib.hid hres
          clear hd hres hS1 hS2 hsome hbl
          go_wp2_with (go_at_call 42; refine hc.mono ?_; rintro e w' ⟨rfl, rfl⟩)
          go_ret
          rw [HRES.out]
          exact ⟨HB.out.trans (Bar.set _ 3 _), j + 1, rfl, by omega, rfl, HS.out.set3 (j + 1)⟩
        · have nm : ((c : Int) == 34) = false := by rw [beq_eq_false_iff_ne]; omega
          have hc0 : ¬ ((c : Int) < 0) := by omega
          by_cases h60 : c = 60
          · subst h60
            have hres : R = .error (21, pl cs j) := by rw [← HW.out, hS1]; exact VF_lt _ (by decide) _ _ _
            have hbad := bad_ok HS.out HR'.out j (by omega) 21
            rw [Nat.min_eq_left hj] at hbad
            have HRE := Lib.hid hres
            clear hd hres hS1 hS2 hsome hbl
            go_wp2_with (first
              | (go_at_call 42; refine hc.mono ?_; rintro e w' ⟨rfl, rfl⟩)
              | (go_at_call 26; refine hbad.mono ?_; rintro e w2 ⟨rfl, hs2, hb2⟩))
            go_roundg 0
            case measure => omega
            case rel => exact ⟨HB.out.trans hb2, .inr ⟨rfl, _, rfl, by omega, _, HRE.out, by simp, by simp, j, by omega, hs2⟩⟩
          · have n60 : ((c : Int) == 60) = false := by rw [beq_eq_false_iff_ne]; omega
            by_cases h38 : c = 38
            · subst h38
              have hwf : R = match K.reference (S cs j) with | .ok (d, s) => VF 34 s (acc ++ [d]) | .error e => .error e := by
                rw [← HW.out, hS1]; exact VF_ref _ (by decide) _ _ _
              have href := ref_rf HS.out HR'.out hd
              cases hre : K.reference (S cs j) with
              | error er =>
                rw [hre] at href hwf
                have HRE := Lib.hid hwf
                clear hd hwf hS1 hS2 hsome hre hbl
                have hcat : ∀ z : ByteArray, z.size ≤ 0 → ¬ ((bs (U.n8 acc)).size + z.size > 9223372036854775807) := fun z hz => by omega
                go_wp2_with (first
                  | (go_at_call 42; refine hc.mono ?_; rintro e w' ⟨rfl, rfl⟩)
                  | (go_at_call 49; refine href.mono ?_; rintro e w2 ⟨hb2, z, j2, rfl, ⟨zo, rfl, hzo⟩, hj2, he1, he2, hs2⟩; have hcz := hcat zo hzo))
                go_roundg 0
                case measure => omega
                case rel => exact ⟨HB.out.trans hb2, .inr ⟨rfl, _, rfl, by rw [ByteArray.size_append]; omega, er, HRE.out, he1, he2, j2, hj2, hs2⟩⟩
              | ok q =>
                obtain ⟨d, s⟩ := q
                rw [hre] at href hwf
                have hlt := ref_more hre (by rw [hS1]; simp)
                have HRE := Lib.hid hwf
                obtain ⟨e1, e2⟩ := acc_next (acc := acc) (d := d) (by omega)
                have HE := Lib.hid e1
                clear hd hwf hS1 hS2 hsome hre e1 hbl
                go_wp2_with (first
                  | (go_at_call 42; refine hc.mono ?_; rintro e w' ⟨rfl, rfl⟩)
                  | (go_at_call 49; refine href.mono ?_; rintro e w2 ⟨hb2, j2, rfl, hj2, rfl, hs2⟩))
                simp only [S_eq, List.length_drop] at hlt
                go_roundg (cs.length - j2 + 1)
                case measure => omega
                case rel => exact ⟨HB.out.trans hb2, .inl ⟨acc ++ [d], j2, by rw [HE.out], rfl, HRE.out.symm, hj2, by simp; omega, hs2⟩⟩
            · have n38 : ((c : Int) == 38) = false := by rw [beq_eq_false_iff_ne]; omega
              have hwf : VF 34 (S cs (j + 1)) (acc ++ [sp c]) = R := by
                rw [← HW.out, hS1, hS2]
                exact (VF_one _ c hm h38 h60 _ _ _).symm
              have HWF := Lib.hid hwf
              cases hblk : K.blank c with
              | true =>
                rw [hblk] at hbl
                have hsp : sp c = 32 := by unfold sp; rw [if_pos hblk]
                rw [hsp] at HWF
                obtain ⟨e1, e2⟩ := acc_next (acc := acc) (d := 32) (by omega)
                have e1 : bs (U.n8 acc) ++ ⟨#[32]⟩ = bs (U.n8 (acc ++ [32])) := e1
                have e2 : ¬ ((bs (U.n8 acc)).size + 1 > 9223372036854775807) := by omega
                have HE := Lib.hid e1
                clear hd hwf hS1 hS2 hsome e1 hblk hsp
                go_wp2_with (first
                  | (go_at_call 42; refine hc.mono ?_; rintro e w' ⟨rfl, rfl⟩)
                  | (go_at_call 41; refine hbl.mono ?_; rintro e w' ⟨rfl, rfl⟩))
                go_roundg (cs.length - (j + 1) + 1)
                case measure => omega
                case rel => exact ⟨HB.out.trans (Bar.set _ 3 _), .inl ⟨acc ++ [32], j + 1, by rw [HE.out], rfl, HWF.out, by omega, by simp; omega, HS.out.set3 (j + 1)⟩⟩
              | false =>
                rw [hblk] at hbl
                have hsp : sp c = c := by unfold sp; rw [hblk]; rfl
                rw [hsp] at HWF
                obtain ⟨g, m, hT, hcell⟩ := HR'.out.texts j c hsome
                have hcl := hcell wr (Bar.refl _ _)
                rw [hT] at c0
                have hjz : (j : Int) < (cs.length : Int) := by omega
                obtain ⟨e1, e2⟩ := acc_next (acc := acc) (d := c) (by omega)
                have HE := Lib.hid e1
                clear hd hwf hS1 hS2 hsome e1 hT hcell hblk hsp
                go_wp2_with (first
                  | (go_at_call 42; refine hc.mono ?_; rintro e w' ⟨rfl, rfl⟩)
                  | (go_at_call 41; refine hbl.mono ?_; rintro e w' ⟨rfl, rfl⟩))
                go_quiet (fail)
                go_wp2
                go_roundg (cs.length - (j + 1) + 1)
                case measure => omega
                case rel => exact ⟨HB.out.trans ((bar_drew b wr _).trans (Bar.set _ 3 _)), .inl ⟨acc ++ [c], j + 1, by rw [HE.out], rfl, HWF.out, by omega, by simp; omega, (HS.out.drew _).set3 (j + 1)⟩⟩
    · obtain ⟨_, _, _, c3, c4⟩ := hs.cells
      have f3 := hs.free 3
      have hne : ((er.1 : Int) == 0) = false := by rw [beq_eq_false_iff_ne]; omega
      have HRES := Lib.hid hRe
      have HS := Lib.hid hs
      go_wp2
      go_ret
      rw [HRES.out]
      exact ⟨HB.out.trans (Bar.set _ 3 _), _, j + 1, rfl, ⟨o, rfl, ho⟩, by omega, hs1, hs2, HS.out.set3 (j + 1)⟩

set_option maxHeartbeats 8000000 in
set_option maxRecDepth 100000 in
theorem value39_rf {b : Nat} {cs : List Nat} {T C A : Value} {i : Nat} {l0 : List Nat} {w : World} (hn : Sn b T C A i 0 (0, 0) w) (hr : Sr b cs T C A w) (hd0 : cs.drop i = 39 :: l0) :
    Calls Tryz.prog 73 #[.pointer (some ⟨b, 0, none⟩)] w (RPost b cs T C A w 3 strN (badStr 300000) (K.value (S cs i))) := by
  have hlen := hr.len
  obtain ⟨R, hR⟩ : ∃ R, K.value (S cs i) = R := ⟨_, rfl⟩
  obtain ⟨hi, _, _⟩ := drop_at hd0
  have hVF : VF 39 (S cs (i + 1)) [] = R := by
    rw [← hR, (S_cons hd0).1, (S_cons hd0).2]
    unfold K.value
    simp only
    rw [if_pos (by decide)]
    rfl
  obtain ⟨_, _, _, c3, c4⟩ := hn.cells
  have f3 := hn.free 3
  have hc := c_any hn hr i (by omega)
  rw [cnum_some hd0] at hc
  have hst : VlRel 39 b cs T C A R w (cs.length - (i + 1) + 1) (.string ⟨#[]⟩) (w.setCell ⟨b, 3, none⟩ (.int .i64 ((i + 1 : Nat) : Int))) := ⟨Bar.set _ 3 _, .inl ⟨[], i + 1, rfl, rfl, hVF, by omega, Nat.zero_le _, hn.set3 (i + 1)⟩⟩
  rw [hR]
  have HST := Lib.hid hst
  have HR := Lib.hid hr
  clear hR hn hr hst hVF hd0
  go_enter Tryz.func73, Tryz.ntmps73
  go_wp2_with (go_at_call 42; refine hc.mono ?_; rintro e w' ⟨rfl, rfl⟩)
  go_loopg [4] (cs.length - (i + 1) + 1) (fun g ov wr => VlRel 39 b cs T C A R w g ov wr)
  case atStart => exact HST.out
  case round =>
    obtain ⟨hbar, hcase⟩ := hrel
    have hr' := HR.out.bar hbar
    have HB := Lib.hid hbar
    have HR' := Lib.hid hr'
    clear hbar hr' hc c3 c4 f3
    rcases hcase with ⟨acc, j, rfl, hg, hWF, hj, haj, hs⟩ | ⟨hg, o, rfl, ho, er, hRe, hs1, hs2, j, hj, hs⟩
    · obtain ⟨c0, _, _, c3, c4⟩ := hs.cells
      have f3 := hs.free 3
      have hc := c_any hs HR'.out j (by omega)
      have hbl := refBlank_any (cs.drop j) wr
      have HS := Lib.hid hs
      have HW := Lib.hid hWF
      have h4 := n8_len4 acc
      have h5 := bs_size (U.n8 acc)
      clear hs hWF
      cases hd : cs.drop j with
      | nil =>
        rw [cnum_none hd] at hc
        have hres : R = .error (21, pl cs j) := by rw [← HW.out]; exact VF_end _ _ _ _ hd
        have hbad := bad_ok HS.out HR'.out j (by omega) 21
        rw [Nat.min_eq_left hj] at hbad
        have HRE := Lib.hid hres
        clear hd hres hbl
        go_wp2_with (first
          | (go_at_call 42; refine hc.mono ?_; rintro e w' ⟨rfl, rfl⟩)
          | (go_at_call 26; refine hbad.mono ?_; rintro e w2 ⟨rfl, hs2, hb2⟩))
        go_roundg 0
        case measure => omega
        case rel => exact ⟨HB.out.trans hb2, .inr ⟨rfl, _, rfl, by omega, _, HRE.out, by simp, by simp, j, by omega, hs2⟩⟩
      | cons c r =>
        rw [cnum_some hd] at hc
        rw [hd] at hbl
        have hbl : Calls Tryz.prog 41 #[.int .i64 (c : Int)] wr fun e w' => e = .returned (.bool (K.blank c)) ∧ wr = w' := hbl
        obtain ⟨hS1, hS2⟩ := S_cons hd
        obtain ⟨hjl, hsome, _⟩ := drop_at hd
        by_cases hm : c = 39
        · subst hm
          have hres : R = .ok (acc, S cs (j + 1)) := by rw [← HW.out, hS1, hS2]; exact VF_mark _ _ _ _
          have HRES := Lib.hid hres
          clear hd hres hS1 hS2 hsome hbl
          go_wp2_with (go_at_call 42; refine hc.mono ?_; rintro e w' ⟨rfl, rfl⟩)
          go_ret
          rw [HRES.out]
          exact ⟨HB.out.trans (Bar.set _ 3 _), j + 1, rfl, by omega, rfl, HS.out.set3 (j + 1)⟩
        · have nm : ((c : Int) == 39) = false := by rw [beq_eq_false_iff_ne]; omega
          have hc0 : ¬ ((c : Int) < 0) := by omega
          by_cases h60 : c = 60
          · subst h60
            have hres : R = .error (21, pl cs j) := by rw [← HW.out, hS1]; exact VF_lt _ (by decide) _ _ _
            have hbad := bad_ok HS.out HR'.out j (by omega) 21
            rw [Nat.min_eq_left hj] at hbad
            have HRE := Lib.hid hres
            clear hd hres hS1 hS2 hsome hbl
            go_wp2_with (first
              | (go_at_call 42; refine hc.mono ?_; rintro e w' ⟨rfl, rfl⟩)
              | (go_at_call 26; refine hbad.mono ?_; rintro e w2 ⟨rfl, hs2, hb2⟩))
            go_roundg 0
            case measure => omega
            case rel => exact ⟨HB.out.trans hb2, .inr ⟨rfl, _, rfl, by omega, _, HRE.out, by simp, by simp, j, by omega, hs2⟩⟩
          · have n60 : ((c : Int) == 60) = false := by rw [beq_eq_false_iff_ne]; omega
            by_cases h38 : c = 38
            · subst h38
              have hwf : R = match K.reference (S cs j) with | .ok (d, s) => VF 39 s (acc ++ [d]) | .error e => .error e := by
                rw [← HW.out, hS1]; exact VF_ref _ (by decide) _ _ _
              have href := ref_rf HS.out HR'.out hd
              cases hre : K.reference (S cs j) with
              | error er =>
                rw [hre] at href hwf
                have HRE := Lib.hid hwf
                clear hd hwf hS1 hS2 hsome hre hbl
                have hcat : ∀ z : ByteArray, z.size ≤ 0 → ¬ ((bs (U.n8 acc)).size + z.size > 9223372036854775807) := fun z hz => by omega
                go_wp2_with (first
                  | (go_at_call 42; refine hc.mono ?_; rintro e w' ⟨rfl, rfl⟩)
                  | (go_at_call 49; refine href.mono ?_; rintro e w2 ⟨hb2, z, j2, rfl, ⟨zo, rfl, hzo⟩, hj2, he1, he2, hs2⟩; have hcz := hcat zo hzo))
                go_roundg 0
                case measure => omega
                case rel => exact ⟨HB.out.trans hb2, .inr ⟨rfl, _, rfl, by rw [ByteArray.size_append]; omega, er, HRE.out, he1, he2, j2, hj2, hs2⟩⟩
              | ok q =>
                obtain ⟨d, s⟩ := q
                rw [hre] at href hwf
                have hlt := ref_more hre (by rw [hS1]; simp)
                have HRE := Lib.hid hwf
                obtain ⟨e1, e2⟩ := acc_next (acc := acc) (d := d) (by omega)
                have HE := Lib.hid e1
                clear hd hwf hS1 hS2 hsome hre e1 hbl
                go_wp2_with (first
                  | (go_at_call 42; refine hc.mono ?_; rintro e w' ⟨rfl, rfl⟩)
                  | (go_at_call 49; refine href.mono ?_; rintro e w2 ⟨hb2, j2, rfl, hj2, rfl, hs2⟩))
                simp only [S_eq, List.length_drop] at hlt
                go_roundg (cs.length - j2 + 1)
                case measure => omega
                case rel => exact ⟨HB.out.trans hb2, .inl ⟨acc ++ [d], j2, by rw [HE.out], rfl, HRE.out.symm, hj2, by simp; omega, hs2⟩⟩
            · have n38 : ((c : Int) == 38) = false := by rw [beq_eq_false_iff_ne]; omega
              have hwf : VF 39 (S cs (j + 1)) (acc ++ [sp c]) = R := by
                rw [← HW.out, hS1, hS2]
                exact (VF_one _ c hm h38 h60 _ _ _).symm
              have HWF := Lib.hid hwf
              cases hblk : K.blank c with
              | true =>
                rw [hblk] at hbl
                have hsp : sp c = 32 := by unfold sp; rw [if_pos hblk]
                rw [hsp] at HWF
                obtain ⟨e1, e2⟩ := acc_next (acc := acc) (d := 32) (by omega)
                have e1 : bs (U.n8 acc) ++ ⟨#[32]⟩ = bs (U.n8 (acc ++ [32])) := e1
                have e2 : ¬ ((bs (U.n8 acc)).size + 1 > 9223372036854775807) := by omega
                have HE := Lib.hid e1
                clear hd hwf hS1 hS2 hsome e1 hblk hsp
                go_wp2_with (first
                  | (go_at_call 42; refine hc.mono ?_; rintro e w' ⟨rfl, rfl⟩)
                  | (go_at_call 41; refine hbl.mono ?_; rintro e w' ⟨rfl, rfl⟩))
                go_roundg (cs.length - (j + 1) + 1)
                case measure => omega
                case rel => exact ⟨HB.out.trans (Bar.set _ 3 _), .inl ⟨acc ++ [32], j + 1, by rw [HE.out], rfl, HWF.out, by omega, by simp; omega, HS.out.set3 (j + 1)⟩⟩
              | false =>
                rw [hblk] at hbl
                have hsp : sp c = c := by unfold sp; rw [hblk]; rfl
                rw [hsp] at HWF
                obtain ⟨g, m, hT, hcell⟩ := HR'.out.texts j c hsome
                have hcl := hcell wr (Bar.refl _ _)
                rw [hT] at c0
                have hjz : (j : Int) < (cs.length : Int) := by omega
                obtain ⟨e1, e2⟩ := acc_next (acc := acc) (d := c) (by omega)
                have HE := Lib.hid e1
                clear hd hwf hS1 hS2 hsome e1 hT hcell hblk hsp
                go_wp2_with (first
                  | (go_at_call 42; refine hc.mono ?_; rintro e w' ⟨rfl, rfl⟩)
                  | (go_at_call 41; refine hbl.mono ?_; rintro e w' ⟨rfl, rfl⟩))
                go_quiet (fail)
                go_wp2
                go_roundg (cs.length - (j + 1) + 1)
                case measure => omega
                case rel => exact ⟨HB.out.trans ((bar_drew b wr _).trans (Bar.set _ 3 _)), .inl ⟨acc ++ [c], j + 1, by rw [HE.out], rfl, HWF.out, by omega, by simp; omega, (HS.out.drew _).set3 (j + 1)⟩⟩
    · obtain ⟨_, _, _, c3, c4⟩ := hs.cells
      have f3 := hs.free 3
      have hne : ((er.1 : Int) == 0) = false := by rw [beq_eq_false_iff_ne]; omega
      have HRES := Lib.hid hRe
      have HS := Lib.hid hs
      go_wp2
      go_ret
      rw [HRES.out]
      exact ⟨HB.out.trans (Bar.set _ 3 _), _, j + 1, rfl, ⟨o, rfl, ho⟩, by omega, hs1, hs2, HS.out.set3 (j + 1)⟩

theorem value_none_rf {b : Nat} {cs : List Nat} {T C A : Value} {i : Nat} {w : World} (hn : Sn b T C A i 0 (0, 0) w) (hr : Sr b cs T C A w) (hi : i ≤ cs.length) (h : ∀ c r, cs.drop i = c :: r → c ≠ 34 ∧ c ≠ 39) :
    Calls Tryz.prog 73 #[.pointer (some ⟨b, 0, none⟩)] w (RPost b cs T C A w 3 strN (badStr 300000) (K.value (S cs i))) := by
  have hlen := hr.len
  have hR : K.value (S cs i) = .error (21, pl cs i) := by
    rw [S_eq]
    cases hd : cs.drop i with
    | nil => rfl
    | cons c r =>
      obtain ⟨h1, h2⟩ := h c r hd
      unfold K.value
      simp only
      rw [if_neg (by omega)]
  rw [hR]
  obtain ⟨_, _, _, c3, c4⟩ := hn.cells
  have hc := c_any hn hr i (by omega)
  have hbad := bad_ok hn hr i (by omega) 21
  rw [Nat.min_eq_left hi] at hbad
  have n34 : (cnum cs i == 34) = false := by
    rw [beq_eq_false_iff_ne]
    rcases cnum_cases cs i with ⟨_, e⟩ | ⟨c, r, hd, e⟩
    · omega
    · have := (h c r hd).1; omega
  have n39 : (cnum cs i == 39) = false := by
    rw [beq_eq_false_iff_ne]
    rcases cnum_cases cs i with ⟨_, e⟩ | ⟨c, r, hd, e⟩
    · omega
    · have := (h c r hd).2; omega
  obtain ⟨z, hz⟩ : ∃ z, cnum cs i = z := ⟨_, rfl⟩
  rw [hz] at hc n34 n39
  have m34 : z ≠ 34 := by simpa using n34
  have m39 : z ≠ 39 := by simpa using n39
  have b34 : (z != 34) = true := by simpa using m34
  have b39 : (z != 39) = true := by simpa using m39
  clear hn hr h hR hz
  go_enter Tryz.func73, Tryz.ntmps73
  go_wp2_with (first
    | (go_at_call 42; refine hc.mono ?_; rintro e w' ⟨rfl, rfl⟩)
    | (go_at_call 26; refine hbad.mono ?_; rintro e w2 ⟨rfl, hs2, hb2⟩))
  go_ret
  exact ⟨hb2, _, i, rfl, ⟨⟨#[]⟩, rfl, by decide⟩, by omega, by simp, by simp, hs2⟩
theorem value_rf {b : Nat} {cs : List Nat} {T C A : Value} {i : Nat} {w : World} (hn : Sn b T C A i 0 (0, 0) w) (hr : Sr b cs T C A w) (hi : i ≤ cs.length) :
    Calls Tryz.prog 73 #[.pointer (some ⟨b, 0, none⟩)] w (RPost b cs T C A w 3 strN (badStr 300000) (K.value (S cs i))) := by
  by_cases h34 : ∃ r, cs.drop i = 34 :: r
  · obtain ⟨r, h⟩ := h34
    exact value34_rf hn hr h
  · by_cases h39 : ∃ r, cs.drop i = 39 :: r
    · obtain ⟨r, h⟩ := h39
      exact value39_rf hn hr h
    · refine value_none_rf hn hr hi fun c r h => ⟨?_, ?_⟩
      · rintro rfl; exact h34 ⟨r, h⟩
      · rintro rfl; exact h39 ⟨r, h⟩
end Go.Proofs.YtdilngjolhmjnaaGreatDoor
