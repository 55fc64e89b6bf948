/- strconv.ParseUint at base 16 and 31 bits; the public call. Conditions: those that each theorem names. What the package-level variables of the library hold, and what keeps it; strconv.ParseUint; the look for a reference by a number. Conditions: those that each theorem names. -/
import Derived.Test.YtdilngjolhmjnaaGreatDoorParse
namespace Go.Proofs.YtdilngjolhmjnaaGreatDoor
open Go.RowKit
set_option linter.all false
theorem lower_any (m : Nat) (h : m < 256) (w : World) : Calls Tryz.prog 136 #[.int .u8 (m : Int)] w fun e w' => e = .returned (.int .u8 ((m ||| 32 : Nat) : Int)) ∧ w = w' := by
  refine (Tryz.internal_strconv_lower _ _).mono ?_
  rintro e w' ⟨rfl, rfl⟩
  exact ⟨by rw [low_bits m h], rfl⟩

theorem low95 (w : World) : Calls Tryz.prog 136 #[.int .u8 95] w fun e w' => e = .returned (.int .u8 127) ∧ w = w' := by
  refine (lower_any 95 (by decide) w).mono ?_
  rintro e w' ⟨rfl, rfl⟩
  exact ⟨rfl, rfl⟩

set_option maxHeartbeats 32000000 in
set_option maxRecDepth 100000 in
theorem parse16 (t : ByteArray) (hne : t.size ≠ 0) (hmax : t.size ≤ 65536) (w : World) :
    Calls Tryz.prog 128 #[.string t, .int .i64 16, .int .i64 31] w fun e w' => e = .returned (puTuple (pu 16 t.data.toList 0)) ∧ w' = Lib.bytesWorld w 5 t := by
  have hemp : t.toList.isEmpty = false := by
    rw [← decide_eq_emptyBytes]
    exact decide_eq_false (fun h => hne (by rw [h]; rfl))
  have hcv := Lib.run_convert_string_bytes (P := Tryz.prog) w 9 53 5 t (u := .string) Tryz.underlying9 Tryz.underlying53 Tryz.underlying5
  have hB : ∀ j, j < t.size → (Lib.bytesWorld w 5 t).cell? ⟨w.heap.size, j, none⟩ = some (.int .u8 (t.data.toList.getD j 0).toNat) := fun j hj => Lib.bytesWorld_cell w 5 t j hj
  obtain ⟨W1, hW1⟩ : ∃ W1, W1 = Lib.bytesWorld w 5 t := ⟨_, rfl⟩
  rw [← hW1] at hcv hB ⊢
  clear hW1
  obtain ⟨bs, hL⟩ : ∃ bs, bs = t.data.toList := ⟨_, rfl⟩
  have hLn : bs.length = t.size := by rw [hL, Lib.size_eq]
  rw [← hL] at hB ⊢
  clear hL
  have hmv : IntKind.u64.wrap (IntKind.u64.wrap 2147483648 - 1) = 2147483647 := by
    rw [IntKind.wrap_u64, IntKind.wrap_u64]
    decide
  go_enter Tryz.func128, Tryz.ntmps128
  go_wp2
  go_loop [12, 13, 101] (fun vu vn vi => ∃ (k acc : Nat) (a : Int), vu = .bool false ∧ vn = .int .u64 a ∧ vi = .int .i64 k ∧ k ≤ t.size ∧ Hid (a = (acc : Int) ∧ acc ≤ 2147483647 ∧ pu 16 bs 0 = pu 16 (bs.drop k) acc))
    (fun _ _ vi => t.size - (intOf vi).toNat)
  case atStart => exact ⟨0, 0, 0, rfl, rfl, rfl, by omega, rfl, by omega, rfl⟩
  case round =>
    obtain ⟨k, acc, a, rfl, rfl, rfl, hk, hh⟩ := hrel
    obtain ⟨ha, hacc, hdec⟩ := hh.out
    clear hh
    have a0 : 0 ≤ a := by omega
    have a1 : a ≤ 2147483647 := by omega
    by_cases hkn : k < t.size
    · have hc := hB k hkn
      have hdrop : bs.drop k = bs[k]'(by omega) :: bs.drop (k + 1) := List.drop_eq_getElem_cons (by omega)
      have hget : bs.getD k 0 = bs[k]'(by omega) := by simp [List.getD, List.getElem?_eq_getElem (show k < bs.length by omega)]
      rw [hdrop] at hdec
      rw [hget] at hc
      generalize bs[k]'(by omega) = c at hc hdec
      have hc256 : c.toNat < 256 := c.toNat_lt
      clear hB hdrop hget
      cases hdg : K.digit 16 c.toNat with
      | some d =>
        rcases dig16_some _ hc256 d hdg with ⟨hd0, hd1, hd2⟩ | ⟨hd0, hd1, hd2, hd3⟩
        · by_cases hov : 2147483647 < acc * 16 + d
          · have hF : pu 16 (c :: bs.drop (k + 1)) acc = .error true := by simp [pu, hdg, hov]
            have HD := Lib.hid (hdec.trans hF)
            have iov : 2147483647 < a * 16 + ((c.toNat : Int) - 48) := by omega
            clear hdec hacc hF hov ha hdg hd2
            go_wp2
            go_ret2
            exact ⟨by rw [HD.out]; rfl, rfl⟩
          · have hF : pu 16 (c :: bs.drop (k + 1)) acc = pu 16 (bs.drop (k + 1)) (acc * 16 + d) := by simp [pu, hdg, hov]
            have HN : Hid (a * 16 + ((c.toNat : Int) - 48) = ((acc * 16 + d : Nat) : Int) ∧ acc * 16 + d ≤ 2147483647 ∧ pu 16 bs 0 = pu 16 (bs.drop (k + 1)) (acc * 16 + d)) := Lib.hid ⟨by omega, by omega, hdec.trans hF⟩
            have iov : a * 16 + ((c.toNat : Int) - 48) ≤ 2147483647 := by omega
            clear hacc hF hov hdec ha hdg hd2
            go_wp2
            refine ⟨⟨k + 1, acc * 16 + d, a * 16 + ((c.toNat : Int) - 48), rfl, (by first | rfl | (congr 1; omega)), (by first | rfl | (congr 1; omega)), by omega, HN⟩, by simp [intOf]; omega⟩
        · have hlow := lower_any c.toNat hc256 W1
          have i95 : ((c.toNat : Int) == 95) = false := by
            have h95 : c.toNat ≠ 95 := by
              intro e
              rw [e] at hd1
              have : 95 ||| 32 = 127 := by decide
              omega
            simp; omega
          rw [hd1] at hlow
          clear hd1
          by_cases hov : 2147483647 < acc * 16 + d
          · have hF : pu 16 (c :: bs.drop (k + 1)) acc = .error true := by simp [pu, hdg, hov]
            have HD := Lib.hid (hdec.trans hF)
            have iov : 2147483647 < a * 16 + (d : Int) := by omega
            clear hdec hacc hF hov ha hdg
            go_wp2_with (go_at_call 136; refine hlow.mono ?_; rintro e w' ⟨rfl, rfl⟩)
            go_ret2
            exact ⟨by rw [HD.out]; rfl, rfl⟩
          · have hF : pu 16 (c :: bs.drop (k + 1)) acc = pu 16 (bs.drop (k + 1)) (acc * 16 + d) := by simp [pu, hdg, hov]
            have HN : Hid (a * 16 + (d : Int) = ((acc * 16 + d : Nat) : Int) ∧ acc * 16 + d ≤ 2147483647 ∧ pu 16 bs 0 = pu 16 (bs.drop (k + 1)) (acc * 16 + d)) := Lib.hid ⟨by omega, by omega, hdec.trans hF⟩
            have iov : a * 16 + (d : Int) ≤ 2147483647 := by omega
            clear hacc hF hov hdec ha hdg
            go_wp2_with (go_at_call 136; refine hlow.mono ?_; rintro e w' ⟨rfl, rfl⟩)
            refine ⟨⟨k + 1, acc * 16 + d, a * 16 + (d : Int), rfl, (by first | rfl | (congr 1; omega)), (by first | rfl | (congr 1; omega)), by omega, HN⟩, by simp [intOf]; omega⟩
      | none =>
        obtain ⟨hnd, hnl⟩ := dig16_none _ hc256 hdg
        have hF : pu 16 (c :: bs.drop (k + 1)) acc = .error false := by simp [pu, hdg]
        have HD := Lib.hid (hdec.trans hF)
        clear hacc hF ha hdg hdec
        have hlow := lower_any c.toNat hc256 W1
        have hl256 := low_lt _ hc256
        obtain ⟨l, hl⟩ : ∃ l, c.toNat ||| 32 = l := ⟨_, rfl⟩
        rw [hl] at hlow hnl hl256
        clear hl
        by_cases h95 : c.toNat = 95
        case' pos =>
          have hlow2 := low95 W1
          rw [show ((c.toNat : Nat) : Int) = 95 by omega] at hc
          clear hlow hnl hl256 hnd h95
          go_wp2_with (go_at_call 136; refine hlow2.mono ?_; rintro e w' ⟨rfl, rfl⟩)
        case' neg =>
          have i95 : ((c.toNat : Int) == 95) = false := by simp; omega
          clear h95
          rcases hnl with hnl | hnl
          all_goals go_wp2_with (go_at_call 136; refine hlow.mono ?_; rintro e w' ⟨rfl, rfl⟩)
        all_goals go_ret2
        all_goals exact ⟨by rw [HD.out]; rfl, rfl⟩
    · have hkk : k = t.size := by omega
      subst hkk
      have hF : pu 16 (bs.drop t.size) acc = .ok acc := by rw [List.drop_eq_nil_of_le (by omega)]; rfl
      have HD := Lib.hid (hdec.trans hF)
      subst ha
      clear hacc hF a0 a1 hdec
      go_wp2
      go_ret2
      exact ⟨by rw [HD.out]; rfl, rfl⟩
end Go.Proofs.YtdilngjolhmjnaaGreatDoor
namespace Go.Proofs.YtdilngjolhmjnaaGreatDoor
open Go.RowKit
set_option linter.all false

/-- What the library's variables hold. -/
structure Low (w : World) : Prop where
  tabs : Lib.Utf8Tabs 1 2 w
  maxl : ∃ m, w.cell? ⟨6, 0, none⟩ = some (.int .i64 m)
  synt : ∃ te pe, w.cell? ⟨7, 0, none⟩ = some (.iface te pe)
  rang : ∃ te pe, w.cell? ⟨8, 0, none⟩ = some (.iface te pe)
  errt : w.cell? ⟨0, 0, none⟩ = some (.iface 108 (.agg #[.pointer (some ⟨12, 25, none⟩)]))
  fold : ∀ c, c < 128 → w.cell? ⟨3, c, none⟩ = some (.int .u16 (if 65 ≤ c ∧ c ≤ 90 then (c : Int) + 32 else if c = 107 then 8490 else if c = 115 then 383 else if 97 ≤ c ∧ c ≤ 122 then (c : Int) - 32 else c))
theorem Low.of {w w' : World} (h : Low w) (k : ∀ i, i < 12 → w'.heap[i]? = w.heap[i]?) : Low w' := by
  have c : ∀ (a : Addr), a.block < 12 → w'.cell? a = w.cell? a := by
    intro a ha
    unfold World.cell?
    rw [k a.block ha]
  refine ⟨⟨fun x hx => (c _ (by show 1 < 12; decide)).trans (h.tabs.1 x hx), fun i hi => ⟨(c _ (by show 2 < 12; decide)).trans (h.tabs.2 i hi).1, (c _ (by show 2 < 12; decide)).trans (h.tabs.2 i hi).2⟩⟩, ?_, ?_, ?_, (c _ (by decide)).trans h.errt, fun x hx => (c _ (by show 3 < 12; decide)).trans (h.fold x hx)⟩
  · obtain ⟨m, hm⟩ := h.maxl; exact ⟨m, (c _ (by decide)).trans hm⟩
  · obtain ⟨m, n, hm⟩ := h.synt; exact ⟨m, n, (c _ (by decide)).trans hm⟩
  · obtain ⟨m, n, hm⟩ := h.rang; exact ⟨m, n, (c _ (by decide)).trans hm⟩
theorem Low.size {w : World} (h : Low w) : 8 < w.heap.size := by
  obtain ⟨m, n, hm⟩ := h.rang
  rcases Nat.lt_or_ge 8 w.heap.size with h' | h'
  · exact h'
  · simp [World.cell?, Array.getElem?_eq_none h'] at hm
theorem Low.below {w w' : World} {B : Nat} (h : Low w) (k : Below B w w') (hB : 12 ≤ B) : Low w' := h.of fun i hi => k.block i (by omega)
theorem Low.bar {w w' : World} {b : Nat} (h : Low w) (k : Bar b w w') (hB : 12 ≤ b) (hs : 12 ≤ w.heap.size) : Low w' := h.of fun i hi => k.block i (by omega) (by omega)

/-- What strconv.ParseUint hands back. -/
def PuRet (r : Except Bool Nat) (w : World) (e : Ending) (w' : World) : Prop := (match r with
  | .ok n => e = .returned (.tuple #[.int .u64 (n : Int), .nilIface])
  | .error _ => ∃ v p, e = .returned (.tuple #[.int .u64 v, .iface 172 (.pointer p)])) ∧ Below w.heap.size w w'
theorem pu_empty (base : Nat) : pu base [] 0 = .ok 0 := rfl

set_option maxHeartbeats 4000000 in
theorem parse_any (base : Nat) (hb : base = 10 ∨ base = 16) (t : ByteArray) (hmax : t.size ≤ 65536) (w : World) (h : Low w) (hs : 12 ≤ w.heap.size) :
    Calls Tryz.prog 119 #[.string t, .int .i64 (base : Int), .int .i64 31] w (PuRet (if t.size = 0 then .error false else pu base t.data.toList 0) w) := by
  obtain ⟨ts, ps, hsy⟩ := h.synt
  obtain ⟨tr, pr, hra⟩ := h.rang
  have hin : Calls Tryz.prog 128 #[.string t, .int .i64 (base : Int), .int .i64 31] w fun e w' => e = .returned (puTuple (if t.size = 0 then .error false else pu base t.data.toList 0)) ∧ Below w.heap.size w w' := by
    by_cases hz : t.size = 0
    · rw [if_pos hz]
      have ht : t = ⟨#[]⟩ := by
        have : t.data = #[] := Array.eq_empty_of_size_eq_zero hz
        cases t; simp at this; rw [this]
      rw [ht]
      refine (Tryz.internal_strconv_ParseUint_empty _ _ w).mono ?_
      rintro e w' ⟨rfl, rfl⟩
      exact ⟨rfl, Below.refl _ _⟩
    · rw [if_neg hz]
      rcases hb with rfl | rfl
      · refine (parse10 t hz hmax w).mono ?_
        rintro e w' ⟨rfl, rfl⟩
        exact ⟨rfl, Lib.bytesWorld_below w 5 t⟩
      · refine (parse16 t hz hmax w).mono ?_
        rintro e w' ⟨rfl, rfl⟩
        exact ⟨rfl, Lib.bytesWorld_below w 5 t⟩
  generalize (if t.size = 0 then Except.error false else pu base t.data.toList 0) = r at hin ⊢
  have hbb : (base : Int) ≤ 16 := by omega
  clear hb
  cases r with
  | ok n =>
    have hin' : Calls Tryz.prog 128 #[.string t, .int .i64 (base : Int), .int .i64 31] w fun e w' => e = .returned (.tuple #[.int .u64 (n : Int), .nilIface]) ∧ Below w.heap.size w w' := hin
    clear hin h hsy hra
    go_enter Tryz.func119, Tryz.ntmps119
    go_wp2_with (go_at_call 128; refine hin'.mono ?_; rintro e w1 ⟨rfl, hb1⟩)
    go_ret2
    exact ⟨rfl, hb1⟩
  | error k =>
    have h7 : ∀ w', Below w.heap.size w w' → w'.cell? ⟨7, 0, none⟩ = some (.iface ts ps) := fun w' hb => (hb.cell (p := ⟨7, 0, none⟩) (by show 7 < w.heap.size; omega)).trans hsy
    have h8 : ∀ w', Below w.heap.size w w' → w'.cell? ⟨8, 0, none⟩ = some (.iface tr pr) := fun w' hb => (hb.cell (p := ⟨8, 0, none⟩) (by show 8 < w.heap.size; omega)).trans hra
    have H7 := Lib.hid h7
    have H8 := Lib.hid h8
    have hsi : t.size ≤ 281474976710656 := by omega
    cases k with
    | false =>
      have hin' : Calls Tryz.prog 128 #[.string t, .int .i64 (base : Int), .int .i64 31] w fun e w' => e = .returned (.tuple #[.int .u64 0, .iface 170 (.int .i64 2)]) ∧ Below w.heap.size w w' := hin
      clear hin h hsy hra h7 h8
      go_enter Tryz.func119, Tryz.ntmps119
      go_wp2_with (go_at_call 128; refine hin'.mono ?_; rintro e w1 ⟨rfl, hb1⟩)
      refine (Tryz.strconv_toError_syntax _ _ _ _ _ _ hsi (H7.out _ hb1) (.inr ⟨_, _, rfl⟩)).mono ?_
      rintro e w2 ⟨N, rfl, _, _, hb2⟩
      go_wp2
      go_ret2
      exact ⟨⟨_, _, rfl⟩, hb1.trans (hb2.mono hb1.size)⟩
    | true =>
      have hin' : Calls Tryz.prog 128 #[.string t, .int .i64 (base : Int), .int .i64 31] w fun e w' => e = .returned (.tuple #[.int .u64 2147483647, .iface 170 (.int .i64 1)]) ∧ Below w.heap.size w w' := hin
      clear hin h hsy hra h7 h8
      go_enter Tryz.func119, Tryz.ntmps119
      go_wp2_with (go_at_call 128; refine hin'.mono ?_; rintro e w1 ⟨rfl, hb1⟩)
      refine (Tryz.strconv_toError_range _ _ _ _ _ _ hsi (H8.out _ hb1) (.inr ⟨_, _, rfl⟩)).mono ?_
      rintro e w2 ⟨N, rfl, _, _, hb2⟩
      go_wp2
      go_ret2
      exact ⟨⟨_, _, rfl⟩, hb1.trans (hb2.mono hb1.size)⟩
end Go.Proofs.YtdilngjolhmjnaaGreatDoor
