/- What the document's own answers (pennantref01) say: a unit's two bytes, a character's bytes, a unit. -/
import Derived.Test.YtalhpihoblhacaaDoorWideA
import Derived.Laws.IdiomStrings
namespace Go.Proofs.YtalhpihoblhacaaDoor
open Go.RowKit Go.Shelf
set_option linter.unusedVariables false

theorem conv_list (w : World) (l : List UInt8) (C : Array Value) (hc : C.toList = l.map fun b => Value.int .u8 (b.toNat : Int)) :
    (convert 54 9 (.slice (some ⟨w.heap.size, 0, none⟩) l.length l.length)).run Tryd.prog (w.alloc (.cells C 5)) = .ok (.string ⟨l.toArray⟩) (w.alloc (.cells C 5)) := by
  refine run_convert_bytes_back (P := Tryd.prog) (w.alloc (.cells C 5)) 54 9 5 ⟨w.heap.size, 0, none⟩ l.length l Tryd.underlying54 Tryd.underlying5 Tryd.underlying9 (fun j hj => ?_)
  have e : (⟨w.heap.size, 0, none⟩ : Addr).add j = ⟨w.heap.size, j, none⟩ := by unfold Addr.add; split <;> simp_all
  rw [e]
  have h := World.cell?_alloc_mark w C 5 (0, 0) j
  have h2 : C[j]? = some (.int .u8 (l[j].toNat : Int)) := by
    rw [← Array.getElem?_toList, hc, List.getElem?_map, List.getElem?_eq_getElem hj]
    rfl
  rw [h2] at h
  exact h

set_option maxHeartbeats 1000000 in
theorem unitS (z : Int) (h0 : 0 ≤ z) (h1 : z < 65536) (w : World) :
    Calls Tryd.prog 30 #[.int .i64 z] w fun e w' => e = .returned (.string ⟨(U.be z.toNat).toArray⟩) ∧ Below w.heap.size w w' := by
  have hb := conv_list w (U.be z.toNat) #[.int .u8 (z / 256), .int .u8 (z % 256)] (byteCells_be z h0 h1).symm
  rw [show (U.be z.toNat).length = 2 from rfl] at hb
  obtain ⟨R, hR⟩ : ∃ R : ByteArray, (⟨(U.be z.toNat).toArray⟩ : ByteArray) = R := ⟨_, rfl⟩
  rw [hR] at hb ⊢
  clear hR
  go_enter Tryd.func30, Tryd.ntmps30
  go_wp2
  go_ret
  exact ⟨rfl, (Below.refl _ _).alloc (Nat.le_refl _) _⟩

set_option maxHeartbeats 2000000 in
theorem bytesS (c : Nat) (hc : c ≤ 1114111) (w : World) :
    Calls Tryd.prog 33 #[.int .i64 (c : Int)] w fun e w' => e = .returned (.string ⟨(U.enc c).toArray⟩) ∧ Below w.heap.size w w' := by
  by_cases h1 : c < 128
  · have he : U.enc c = [UInt8.ofNat c] := by unfold U.enc; rw [if_pos h1]
    have hb := conv_list w (U.enc c) #[.int .u8 (c : Int)] (by rw [he]; simp only [List.map_cons, List.map_nil, U.ofNat_toNat c (by omega)])
    rw [show (U.enc c).length = 1 by rw [he]; rfl] at hb
    have d1 : decide ((c : Int) < 128) = true := decide_eq_true (by omega)
    have z1 : (c : Int) < 128 := by omega
    obtain ⟨R, hR⟩ : ∃ R : ByteArray, (⟨(U.enc c).toArray⟩ : ByteArray) = R := ⟨_, rfl⟩
    rw [hR] at hb ⊢
    clear hR he
    go_enter Tryd.func33, Tryd.ntmps33
    go_wp2
    go_ret
    exact ⟨rfl, (Below.refl _ _).alloc (Nat.le_refl _) _⟩
  · by_cases h2 : c < 2048
    · have he : U.enc c = [UInt8.ofNat (192 + c / 64), UInt8.ofNat (128 + c % 64)] := by unfold U.enc; rw [if_neg h1, if_pos h2]
      have hb := conv_list w (U.enc c) #[.int .u8 (192 + (c : Int) / 64), .int .u8 (128 + (c : Int) % 64)] (by
        rw [he]
        simp only [List.map_cons, List.map_nil, U.ofNat_toNat (192 + c / 64) (by omega), U.ofNat_toNat (128 + c % 64) (by omega)]
        rfl)
      rw [show (U.enc c).length = 2 by rw [he]; rfl] at hb
      have d1 : decide ((c : Int) < 128) = false := decide_eq_false (by omega)
      have d2 : decide ((c : Int) < 2048) = true := decide_eq_true (by omega)
      have z1 : ¬ (c : Int) < 128 := by omega
      have z2 : (c : Int) < 2048 := by omega
      obtain ⟨R, hR⟩ : ∃ R : ByteArray, (⟨(U.enc c).toArray⟩ : ByteArray) = R := ⟨_, rfl⟩
      rw [hR] at hb ⊢
      clear hR he
      go_enter Tryd.func33, Tryd.ntmps33
      go_wp2
      go_ret
      exact ⟨rfl, (Below.refl _ _).alloc (Nat.le_refl _) _⟩
    · by_cases h3 : c < 65536
      · have he : U.enc c = [UInt8.ofNat (224 + c / 4096), UInt8.ofNat (128 + c / 64 % 64), UInt8.ofNat (128 + c % 64)] := by unfold U.enc; rw [if_neg h1, if_neg h2, if_pos h3]
        have hb := conv_list w (U.enc c) #[.int .u8 (224 + (c : Int) / 4096), .int .u8 (128 + (c : Int) / 64 % 64), .int .u8 (128 + (c : Int) % 64)] (by
          rw [he]
          simp only [List.map_cons, List.map_nil, U.ofNat_toNat (224 + c / 4096) (by omega), U.ofNat_toNat (128 + c / 64 % 64) (by omega), U.ofNat_toNat (128 + c % 64) (by omega)]
          rfl)
        rw [show (U.enc c).length = 3 by rw [he]; rfl] at hb
        have d1 : decide ((c : Int) < 128) = false := decide_eq_false (by omega)
        have d2 : decide ((c : Int) < 2048) = false := decide_eq_false (by omega)
        have d3 : decide ((c : Int) < 65536) = true := decide_eq_true (by omega)
        have z1 : ¬ (c : Int) < 128 := by omega
        have z2 : ¬ (c : Int) < 2048 := by omega
        have z3 : (c : Int) < 65536 := by omega
        obtain ⟨R, hR⟩ : ∃ R : ByteArray, (⟨(U.enc c).toArray⟩ : ByteArray) = R := ⟨_, rfl⟩
        rw [hR] at hb ⊢
        clear hR he
        go_enter Tryd.func33, Tryd.ntmps33
        go_wp2
        go_ret
        exact ⟨rfl, (Below.refl _ _).alloc (Nat.le_refl _) _⟩
      · have he : U.enc c = [UInt8.ofNat (240 + c / 262144), UInt8.ofNat (128 + c / 4096 % 64), UInt8.ofNat (128 + c / 64 % 64), UInt8.ofNat (128 + c % 64)] := by unfold U.enc; rw [if_neg h1, if_neg h2, if_neg h3]
        have hb := conv_list w (U.enc c) #[.int .u8 (240 + (c : Int) / 262144), .int .u8 (128 + (c : Int) / 4096 % 64), .int .u8 (128 + (c : Int) / 64 % 64), .int .u8 (128 + (c : Int) % 64)] (by
          rw [he]
          simp only [List.map_cons, List.map_nil, U.ofNat_toNat (240 + c / 262144) (by omega), U.ofNat_toNat (128 + c / 4096 % 64) (by omega), U.ofNat_toNat (128 + c / 64 % 64) (by omega), U.ofNat_toNat (128 + c % 64) (by omega)]
          rfl)
        rw [show (U.enc c).length = 4 by rw [he]; rfl] at hb
        have d1 : decide ((c : Int) < 128) = false := decide_eq_false (by omega)
        have d2 : decide ((c : Int) < 2048) = false := decide_eq_false (by omega)
        have d3 : decide ((c : Int) < 65536) = false := decide_eq_false (by omega)
        have z1 : ¬ (c : Int) < 128 := by omega
        have z2 : ¬ (c : Int) < 2048 := by omega
        have z3 : ¬ (c : Int) < 65536 := by omega
        have z4 : (c : Int) ≤ 1114111 := by omega
        obtain ⟨R, hR⟩ : ∃ R : ByteArray, (⟨(U.enc c).toArray⟩ : ByteArray) = R := ⟨_, rfl⟩
        rw [hR] at hb ⊢
        clear hR he
        go_enter Tryd.func33, Tryd.ntmps33
        go_wp2
        go_ret
        exact ⟨rfl, (Below.refl _ _).alloc (Nat.le_refl _) _⟩

set_option maxHeartbeats 1000000 in
theorem refAt_out (s : ByteArray) (hs : s.size ≤ 140737488355328) (i : Int) (hi : i < 0 ∨ (s.size : Int) / 2 ≤ i) (w : World) :
    Calls Tryd.prog 17 #[.string s, .int .i64 i] w fun e w' => e = .returned (.int .i64 (-1)) ∧ ∃ n, w' = w.drewN n := by
  rcases hi with hi | hi
  · go_enter Tryd.func17, Tryd.ntmps17
    go_wp2
    go_ret
    exact ⟨rfl, 0, rfl⟩
  · have hi2 : (s.size : Int) / 2 - 1 < i := by omega
    by_cases h0 : i < 0
    · go_enter Tryd.func17, Tryd.ntmps17
      go_wp2
      go_ret
      exact ⟨rfl, 0, rfl⟩
    · go_enter Tryd.func17, Tryd.ntmps17
      go_wp2
      go_ret
      exact ⟨rfl, 0, rfl⟩

set_option maxHeartbeats 1000000 in
theorem refAt_in (s : ByteArray) (hs : s.size ≤ 140737488355328) (i : Nat) (hi : 2 * i + 1 < s.size) (w : World) :
    Calls Tryd.prog 17 #[.string s, .int .i64 (i : Int)] w fun e w' => e = .returned (.int .i64 (U.unitAt (ls s) i : Nat)) ∧ ∃ n, w' = w.drewN n := by
  have e1 : IntKind.i64.wrap (2 * (i : Int)) = 2 * (i : Int) := IntWalk.i64_in _ (by omega)
  have e2 : IntKind.i64.wrap (2 * (i : Int) + 1) = 2 * (i : Int) + 1 := IntWalk.i64_in _ (by omega)
  have l1 : 0 ≤ 2 * (i : Int) := by omega
  have l2 : 2 * (i : Int) < s.size := by omega
  have l3 : 2 * (i : Int) + 1 < s.size := by omega
  have l4 : 0 ≤ 2 * (i : Int) + 1 := by omega
  have q1 : (2 * (i : Int)).toNat < s.size := by omega
  have q2 : (2 * (i : Int) + 1).toNat < s.size := by omega
  obtain ⟨x, hx⟩ : ∃ x, s[(2 * (i : Int)).toNat] = x := ⟨_, rfl⟩
  obtain ⟨y, hy⟩ : ∃ y, s[(2 * (i : Int) + 1).toNat] = y := ⟨_, rfl⟩
  have hu : Hid (U.unitAt (ls s) i = x.toNat * 256 + y.toNat) := by
    show _ = _
    unfold U.unitAt
    rw [g_at s (2 * i) (by omega), g_at s (2 * i + 1) hi, ← hx, ← hy]
    have a1 : (2 * (i : Int)).toNat = 2 * i := by omega
    have a2 : (2 * (i : Int) + 1).toNat = 2 * i + 1 := by omega
    simp only [a1, a2]
  have x8 := x.toNat_lt
  have y8 := y.toNat_lt
  have w1 : IntKind.i64.wrap (x.toNat : Int) = x.toNat := IntWalk.i64_in _ (by omega)
  have w2 : IntKind.i64.wrap (y.toNat : Int) = y.toNat := IntWalk.i64_in _ (by omega)
  have w3 : IntKind.i64.wrap ((x.toNat : Int) * 256) = (x.toNat : Int) * 256 := IntWalk.i64_in _ (by omega)
  have w4 : IntKind.i64.wrap ((x.toNat : Int) * 256 + (y.toNat : Int)) = (x.toNat : Int) * 256 + (y.toNat : Int) := IntWalk.i64_in _ (by omega)
  have hz : ¬ ((s.size : Int) / 2 - 1 < (i : Int)) := by omega
  have dz : decide ((s.size : Int) / 2 - 1 < (i : Int)) = false := decide_eq_false hz
  go_enter Tryd.func17, Tryd.ntmps17
  go_wp2
  go_quiet (fail)
  go_wp2
  go_ret
  refine ⟨ret_int ?_, _, rfl⟩
  rw [hu.out]
  rfl
end Go.Proofs.YtalhpihoblhacaaDoor
