/- strconv.ParseUint at bases 10 and 16 and 31 bits. Conditions: those that each theorem names. -/
import Derived.Test.YtdilngjolhmjnaaGreatDoorA4
import Derived.Lib.ParseIntBMem
import Derived.Lib.ConvBytes
import Derived.Lib.AtoiErrMem
import Derived.BigCall
import Derived.BigGuard
import Derived.Laws.Strings3
import Derived.Laws.Closers25
import Derived.Laws.Closers25b
namespace Go.Proofs.YtdilngjolhmjnaaGreatDoor
open Go.RowKit
set_option linter.all false

/-- The number of digits, or why there is none (false: no digit; true: too great). -/
def pu (base : Nat) : List UInt8 → Nat → Except Bool Nat
  | [], a => .ok a
  | c :: r, a => match K.digit base c.toNat with
    | none => .error false
    | some d => if 2147483647 < a * base + d then .error true else pu base r (a * base + d)
def puTuple : Except Bool Nat → Value
  | .ok n => .tuple #[.int .u64 (n : Int), .nilIface]
  | .error false => .tuple #[.int .u64 0, .iface 170 (.int .i64 2)]
  | .error true => .tuple #[.int .u64 2147483647, .iface 170 (.int .i64 1)]
theorem low_bits : ∀ m : Nat, m < 256 → bits BinOp.or IntKind.u8 (m : Int) 32 = ((m ||| 32 : Nat) : Int) := by decide +kernel
theorem low_lt : ∀ m : Nat, m < 256 → m ||| 32 < 256 := by decide +kernel
theorem dig10_some : ∀ m : Nat, m < 256 → ∀ d, K.digit 10 m = some d → 48 ≤ m ∧ m ≤ 57 ∧ d = m - 48 := by
  intro m _ d h
  unfold K.digit at h
  split at h
  · simp at h; omega
  · simp at h
theorem dig10_none : ∀ m : Nat, m < 256 → K.digit 10 m = none → ¬ (48 ≤ m ∧ m ≤ 57) := by
  intro m _ h
  unfold K.digit at h
  split at h
  · simp at h
  · assumption
theorem dig16_some : ∀ m : Nat, m < 256 → ∀ d, K.digit 16 m = some d → (48 ≤ m ∧ m ≤ 57 ∧ d = m - 48) ∨ (57 < m ∧ m ||| 32 = d + 87 ∧ 10 ≤ d ∧ d < 16) := by
  intro m hm d h
  unfold K.digit at h
  split at h
  · simp at h; left; omega
  · split at h
    · rename_i h1 h2
      have : ∀ m : Nat, m < 256 → 97 ≤ m → m ≤ 102 → m ||| 32 = m := by decide +kernel
      have e := this m hm h2.2.1 h2.2.2
      simp at h
      right; omega
    · split at h
      · rename_i h1 h2 h3
        have : ∀ m : Nat, m < 256 → 65 ≤ m → m ≤ 70 → m ||| 32 = m + 32 := by decide +kernel
        have e := this m hm h3.2.1 h3.2.2
        simp at h
        right; omega
      · simp at h
theorem dig16_none : ∀ m : Nat, m < 256 → K.digit 16 m = none → ¬ (48 ≤ m ∧ m ≤ 57) ∧ (m ||| 32 < 97 ∨ 102 < m ||| 32) := by decide +kernel

set_option maxHeartbeats 32000000 in
set_option maxRecDepth 100000 in
theorem parse10 (t : ByteArray) (hne : t.size ≠ 0) (hmax : t.size ≤ 65536) (w : World) :
    Calls Tryz.prog 128 #[.string t, .int .i64 10, .int .i64 31] w fun e w' => e = .returned (puTuple (pu 10 t.data.toList 0)) ∧ w' = Lib.bytesWorld w 5 t := by
  have hemp : t.toList.isEmpty = false := by
    rw [← decide_eq_emptyBytes]
    exact decide_eq_false (fun h => hne (by rw [h]; rfl))
  have hcv := Lib.run_convert_string_bytes (P := Tryz.prog) w 9 53 5 t (u := .string) Tryz.underlying9 Tryz.underlying53 Tryz.underlying5
  have hB : ∀ j, j < t.size → (Lib.bytesWorld w 5 t).cell? ⟨w.heap.size, j, none⟩ = some (.int .u8 (t.data.toList.getD j 0).toNat) := fun j hj => Lib.bytesWorld_cell w 5 t j hj
  obtain ⟨W1, hW1⟩ : ∃ W1, W1 = Lib.bytesWorld w 5 t := ⟨_, rfl⟩
  rw [← hW1] at hcv hB ⊢
  clear hW1
  obtain ⟨bs, hL⟩ : ∃ bs, bs = t.data.toList := ⟨_, rfl⟩
  have hLn : bs.length = t.size := by rw [hL, Lib.size_eq]
  rw [← hL] at hB ⊢
  clear hL
  have hmv : IntKind.u64.wrap (IntKind.u64.wrap 2147483648 - 1) = 2147483647 := by
    rw [IntKind.wrap_u64, IntKind.wrap_u64]
    decide
  go_enter Tryz.func128, Tryz.ntmps128
  go_wp2
  go_loop [12, 13, 101] (fun vu vn vi => ∃ (k acc : Nat) (a : Int), vu = .bool false ∧ vn = .int .u64 a ∧ vi = .int .i64 k ∧ k ≤ t.size ∧ Hid (a = (acc : Int) ∧ acc ≤ 2147483647 ∧ pu 10 bs 0 = pu 10 (bs.drop k) acc))
    (fun _ _ vi => t.size - (intOf vi).toNat)
  case atStart => exact ⟨0, 0, 0, rfl, rfl, rfl, by omega, rfl, by omega, rfl⟩
  case round =>
    obtain ⟨k, acc, a, rfl, rfl, rfl, hk, hh⟩ := hrel
    obtain ⟨ha, hacc, hdec⟩ := hh.out
    clear hh
    have a0 : 0 ≤ a := by omega
    have a1 : a ≤ 2147483647 := by omega
    by_cases hkn : k < t.size
    · have hc := hB k hkn
      have hdrop : bs.drop k = bs[k]'(by omega) :: bs.drop (k + 1) := List.drop_eq_getElem_cons (by omega)
      have hget : bs.getD k 0 = bs[k]'(by omega) := by simp [List.getD, List.getElem?_eq_getElem (show k < bs.length by omega)]
      rw [hdrop] at hdec
      rw [hget] at hc
      generalize bs[k]'(by omega) = c at hc hdec
      have hc256 : c.toNat < 256 := c.toNat_lt
      clear hB hdrop hget
      cases hdg : K.digit 10 c.toNat with
      | some d =>
        obtain ⟨hd0, hd1, hd2⟩ := dig10_some _ hc256 d hdg
        by_cases hov : 2147483647 < acc * 10 + d
        · have hF : pu 10 (c :: bs.drop (k + 1)) acc = .error true := by simp [pu, hdg, hov]
          have HD := Lib.hid (hdec.trans hF)
          have iov : 2147483647 < a * 10 + ((c.toNat : Int) - 48) := by omega
          clear hdec hacc hF hov ha hdg hd2
          go_wp2
          go_ret2
          exact ⟨by rw [HD.out]; rfl, rfl⟩
        · have hF : pu 10 (c :: bs.drop (k + 1)) acc = pu 10 (bs.drop (k + 1)) (acc * 10 + d) := by simp [pu, hdg, hov]
          have HN : Hid (a * 10 + ((c.toNat : Int) - 48) = ((acc * 10 + d : Nat) : Int) ∧ acc * 10 + d ≤ 2147483647 ∧ pu 10 bs 0 = pu 10 (bs.drop (k + 1)) (acc * 10 + d)) := Lib.hid ⟨by omega, by omega, hdec.trans hF⟩
          have iov : a * 10 + ((c.toNat : Int) - 48) ≤ 2147483647 := by omega
          clear hacc hF hov hdec ha hdg hd2
          go_wp2
          refine ⟨⟨k + 1, acc * 10 + d, a * 10 + ((c.toNat : Int) - 48), rfl, (by first | rfl | (congr 1; omega)), (by first | rfl | (congr 1; omega)), by omega, HN⟩, by simp [intOf]; omega⟩
      | none =>
        have hnd := dig10_none _ hc256 hdg
        have hF : pu 10 (c :: bs.drop (k + 1)) acc = .error false := by simp [pu, hdg]
        have HD := Lib.hid (hdec.trans hF)
        clear hacc hF ha hdg hdec
        have hv0 := bits_lo_u8 .or (c.toNat : Int) 32
        have hv1 := bits_hi_u8 .or (c.toNat : Int) 32
        have hu0 := bits_lo_u8 .or 95 32
        have hu1 := bits_hi_u8 .or 95 32
        go_wp2_with (go_at_call 136; refine (Tryz.internal_strconv_lower _ _).mono ?_; rintro e w' ⟨rfl, rfl⟩)
        all_goals go_ret2
        all_goals exact ⟨by rw [HD.out]; rfl, rfl⟩
    · have hkk : k = t.size := by omega
      subst hkk
      have hF : pu 10 (bs.drop t.size) acc = .ok acc := by rw [List.drop_eq_nil_of_le (by omega)]; rfl
      have HD := Lib.hid (hdec.trans hF)
      subst ha
      clear hacc hF a0 a1 hdec
      go_wp2
      go_ret2
      exact ⟨by rw [HD.out]; rfl, rfl⟩
end Go.Proofs.YtdilngjolhmjnaaGreatDoor
