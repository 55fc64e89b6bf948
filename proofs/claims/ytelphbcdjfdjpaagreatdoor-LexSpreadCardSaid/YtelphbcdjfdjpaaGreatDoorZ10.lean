/- strconv.ParseUint at base 16 and 16 bits; what the library's variables hold. Conditions: those that each theorem names. How many bytes from a place on are such: the loop at the three looks that are handed to it. Conditions: those that each theorem names. -/
import Derived.Test.YtelphbcdjfdjpaaGreatDoorZ3
import Derived.Test.YtelphbcdjfdjpaaGreatDoorZ9
import Derived.Lib.ParseIntBMem
import Derived.Lib.ConvBytes
import Derived.Lib.AtoiErrMem
import Derived.BigCall
import Derived.BigGuard
import Derived.Laws.Strings3
import Derived.Laws.Closers25
import Derived.Laws.Closers25b
import Derived.Test.YtelphbcdjfdjpaaGreatDoorZ1
namespace Go.Proofs.YtelphbcdjfdjpaaGreatDoor
open Go.RowKit
set_option linter.all false

/-- The number of digits of sixteen, or why there is none (false: no digit; true: too great). -/
def pu : List UInt8 → Nat → Except Bool Nat
  | [], a => .ok a
  | c :: r, a => match X.hexd c.toNat with
    | none => .error false
    | some d => if 65535 < a * 16 + d then .error true else pu r (a * 16 + d)
def puTuple : Except Bool Nat → Value
  | .ok n => .tuple #[.int .u64 (n : Int), .nilIface]
  | .error false => .tuple #[.int .u64 0, .iface 136 (.int .i64 2)]
  | .error true => .tuple #[.int .u64 65535, .iface 136 (.int .i64 1)]
theorem low_bits : ∀ m : Nat, m < 256 → bits BinOp.or IntKind.u8 (m : Int) 32 = ((m ||| 32 : Nat) : Int) := by decide +kernel
theorem low_lt : ∀ m : Nat, m < 256 → m ||| 32 < 256 := by decide +kernel
def digOk (m : Nat) : Bool := match X.hexd m with
  | some d => (decide (48 ≤ m) && decide (m ≤ 57) && decide (d = m - 48)) || (decide (57 < m) && decide (m ||| 32 = d + 87) && decide (10 ≤ d) && decide (d < 16))
  | none => !(decide (48 ≤ m) && decide (m ≤ 57)) && (decide (m ||| 32 < 97) || decide (102 < m ||| 32))
theorem dig_all : ∀ m : Nat, m < 256 → digOk m = true := by decide +kernel
theorem dig16_some (m : Nat) (hm : m < 256) (d : Nat) (h : X.hexd m = some d) : (48 ≤ m ∧ m ≤ 57 ∧ d = m - 48) ∨ (57 < m ∧ m ||| 32 = d + 87 ∧ 10 ≤ d ∧ d < 16) := by
  have := dig_all m hm
  unfold digOk at this
  rw [h] at this
  simp only [Bool.or_eq_true, Bool.and_eq_true, decide_eq_true_eq] at this
  omega
theorem dig16_none (m : Nat) (hm : m < 256) (h : X.hexd m = none) : ¬ (48 ≤ m ∧ m ≤ 57) ∧ (m ||| 32 < 97 ∨ 102 < m ||| 32) := by
  have := dig_all m hm
  unfold digOk at this
  rw [h] at this
  simp only [Bool.or_eq_true, Bool.and_eq_true, Bool.not_eq_true', Bool.and_eq_false_iff, decide_eq_true_eq, decide_eq_false_iff_not] at this
  omega
theorem hexd_lt {m d : Nat} (hm : m < 256) (h : X.hexd m = some d) : d < 16 := by
  rcases dig16_some m hm d h with h | h <;> omega
/-- Four digits at most are not too great. -/
theorem pu_few : ∀ (l : List UInt8) (a : Nat), (a + 1) * 16 ^ l.length ≤ 65536 → pu l a = match X.hexv l a with
    | some n => .ok n
    | none => .error false
  | [], a, _ => rfl
  | c :: r, a, h => by
    unfold pu X.hexv
    cases hd : X.hexd c.toNat with
    | none => rfl
    | some d =>
      have hl := hexd_lt (UInt8.toNat_lt _) hd
      have h2 : (a * 16 + d + 1) * 16 ^ r.length ≤ 65536 := by
        rw [List.length_cons, Nat.pow_succ] at h
        refine Nat.le_trans ?_ h
        rw [Nat.mul_comm (16 ^ r.length) 16, ← Nat.mul_assoc]
        exact Nat.mul_le_mul_right _ (by omega)
      have h3 : a * 16 + d < 65536 := by
        have : 0 < 16 ^ r.length := Nat.pow_pos (by decide)
        have := Nat.le_trans (Nat.le_mul_of_pos_right (a * 16 + d + 1) this) h2
        omega
      simp only
      rw [if_neg (by omega), pu_few r _ h2]
theorem hexv_lt : ∀ (l : List UInt8) (a n : Nat), (a + 1) * 16 ^ l.length ≤ 65536 → X.hexv l a = some n → n < 65536
  | [], a, n, h, e => by
    simp only [X.hexv, Option.some.injEq] at e
    simp at h
    omega
  | c :: r, a, n, h, e => by
    unfold X.hexv at e
    cases hd : X.hexd c.toNat with
    | none => rw [hd] at e; cases e
    | some d =>
      rw [hd] at e
      have hl := hexd_lt (UInt8.toNat_lt _) hd
      refine hexv_lt r _ n ?_ e
      rw [List.length_cons, Nat.pow_succ] at h
      refine Nat.le_trans ?_ h
      rw [Nat.mul_comm (16 ^ r.length) 16, ← Nat.mul_assoc]
      exact Nat.mul_le_mul_right _ (by omega)

theorem lower_any (m : Nat) (h : m < 256) (w : World) : Calls Tryz.prog 128 #[.int .u8 (m : Int)] w fun e w' => e = .returned (.int .u8 ((m ||| 32 : Nat) : Int)) ∧ w = w' := by
  refine (Tryz.internal_strconv_lower _ _).mono ?_
  rintro e w' ⟨rfl, rfl⟩
  exact ⟨by rw [low_bits m h], rfl⟩

theorem low95 (w : World) : Calls Tryz.prog 128 #[.int .u8 95] w fun e w' => e = .returned (.int .u8 127) ∧ w = w' := by
  refine (lower_any 95 (by decide) w).mono ?_
  rintro e w' ⟨rfl, rfl⟩
  exact ⟨rfl, rfl⟩

set_option maxHeartbeats 32000000 in
set_option maxRecDepth 100000 in
theorem parse16 (t : ByteArray) (hne : t.size ≠ 0) (hmax : t.size ≤ 65536) (w : World) :
    Calls Tryz.prog 119 #[.string t, .int .i64 16, .int .i64 16] w fun e w' => e = .returned (puTuple (pu t.data.toList 0)) ∧ w' = Lib.bytesWorld w 5 t := by
  have hemp : t.toList.isEmpty = false := by
    rw [← decide_eq_emptyBytes]
    exact decide_eq_false (fun h => hne (by rw [h]; rfl))
  have hcv := Lib.run_convert_string_bytes (P := Tryz.prog) w 9 87 5 t (u := .string) Tryz.underlying9 Tryz.underlying87 Tryz.underlying5
  have hB : ∀ j, j < t.size → (Lib.bytesWorld w 5 t).cell? ⟨w.heap.size, j, none⟩ = some (.int .u8 (t.data.toList.getD j 0).toNat) := fun j hj => Lib.bytesWorld_cell w 5 t j hj
  obtain ⟨W1, hW1⟩ : ∃ W1, W1 = Lib.bytesWorld w 5 t := ⟨_, rfl⟩
  rw [← hW1] at hcv hB ⊢
  clear hW1
  obtain ⟨bs, hL⟩ : ∃ bs, bs = t.data.toList := ⟨_, rfl⟩
  have hLn : bs.length = t.size := by rw [hL, Lib.size_eq]
  rw [← hL] at hB ⊢
  clear hL
  have hmv : IntKind.u64.wrap (IntKind.u64.wrap 65536 - 1) = 65535 := by
    rw [IntKind.wrap_u64, IntKind.wrap_u64]
    decide
  go_enter Tryz.func119, Tryz.ntmps119
  go_wp2
  go_loop [12, 13, 101] (fun vu vn vi => ∃ (k acc : Nat) (a : Int), vu = .bool false ∧ vn = .int .u64 a ∧ vi = .int .i64 k ∧ k ≤ t.size ∧ Hid (a = (acc : Int) ∧ acc ≤ 65535 ∧ pu bs 0 = pu (bs.drop k) acc))
    (fun _ _ vi => t.size - (intOf vi).toNat)
  case atStart => exact ⟨0, 0, 0, rfl, rfl, rfl, by omega, rfl, by omega, rfl⟩
  case round =>
    obtain ⟨k, acc, a, rfl, rfl, rfl, hk, hh⟩ := hrel
    obtain ⟨ha, hacc, hdec⟩ := hh.out
    clear hh
    have a0 : 0 ≤ a := by omega
    have a1 : a ≤ 65535 := by omega
    by_cases hkn : k < t.size
    · have hc := hB k hkn
      have hdrop : bs.drop k = bs[k]'(by omega) :: bs.drop (k + 1) := List.drop_eq_getElem_cons (by omega)
      have hget : bs.getD k 0 = bs[k]'(by omega) := by simp [List.getD, List.getElem?_eq_getElem (show k < bs.length by omega)]
      rw [hdrop] at hdec
      rw [hget] at hc
      generalize bs[k]'(by omega) = c at hc hdec
      have hc256 : c.toNat < 256 := c.toNat_lt
      clear hB hdrop hget
      cases hdg : X.hexd c.toNat with
      | some d =>
        rcases dig16_some _ hc256 d hdg with ⟨hd0, hd1, hd2⟩ | ⟨hd0, hd1, hd2, hd3⟩
        · by_cases hov : 65535 < acc * 16 + d
          · have hF : pu (c :: bs.drop (k + 1)) acc = .error true := by simp [pu, hdg, hov]
            have HD := Lib.hid (hdec.trans hF)
            have iov : 65535 < a * 16 + ((c.toNat : Int) - 48) := by omega
            clear hdec hacc hF hov ha hdg hd2
            go_wp2
            go_ret2
            exact ⟨by rw [HD.out]; rfl, rfl⟩
          · have hF : pu (c :: bs.drop (k + 1)) acc = pu (bs.drop (k + 1)) (acc * 16 + d) := by simp [pu, hdg, hov]
            have HN : Hid (a * 16 + ((c.toNat : Int) - 48) = ((acc * 16 + d : Nat) : Int) ∧ acc * 16 + d ≤ 65535 ∧ pu bs 0 = pu (bs.drop (k + 1)) (acc * 16 + d)) := Lib.hid ⟨by omega, by omega, hdec.trans hF⟩
            have iov : a * 16 + ((c.toNat : Int) - 48) ≤ 65535 := by omega
            clear hacc hF hov hdec ha hdg hd2
            go_wp2
            refine ⟨⟨k + 1, acc * 16 + d, a * 16 + ((c.toNat : Int) - 48), rfl, (by first | rfl | (congr 1; omega)), (by first | rfl | (congr 1; omega)), by omega, HN⟩, by simp [intOf]; omega⟩
        · have hlow := lower_any c.toNat hc256 W1
          have i95 : ((c.toNat : Int) == 95) = false := by
            have h95 : c.toNat ≠ 95 := by
              intro e
              rw [e] at hd1
              have : 95 ||| 32 = 127 := by decide
              omega
            simp; omega
          rw [hd1] at hlow
          clear hd1
          by_cases hov : 65535 < acc * 16 + d
          · have hF : pu (c :: bs.drop (k + 1)) acc = .error true := by simp [pu, hdg, hov]
            have HD := Lib.hid (hdec.trans hF)
            have iov : 65535 < a * 16 + (d : Int) := by omega
            clear hdec hacc hF hov ha hdg
            go_wp2_with (go_at_call 128; refine hlow.mono ?_; rintro e w' ⟨rfl, rfl⟩)
            go_ret2
            exact ⟨by rw [HD.out]; rfl, rfl⟩
          · have hF : pu (c :: bs.drop (k + 1)) acc = pu (bs.drop (k + 1)) (acc * 16 + d) := by simp [pu, hdg, hov]
            have HN : Hid (a * 16 + (d : Int) = ((acc * 16 + d : Nat) : Int) ∧ acc * 16 + d ≤ 65535 ∧ pu bs 0 = pu (bs.drop (k + 1)) (acc * 16 + d)) := Lib.hid ⟨by omega, by omega, hdec.trans hF⟩
            have iov : a * 16 + (d : Int) ≤ 65535 := by omega
            clear hacc hF hov hdec ha hdg
            go_wp2_with (go_at_call 128; refine hlow.mono ?_; rintro e w' ⟨rfl, rfl⟩)
            refine ⟨⟨k + 1, acc * 16 + d, a * 16 + (d : Int), rfl, (by first | rfl | (congr 1; omega)), (by first | rfl | (congr 1; omega)), by omega, HN⟩, by simp [intOf]; omega⟩
      | none =>
        obtain ⟨hnd, hnl⟩ := dig16_none _ hc256 hdg
        have hF : pu (c :: bs.drop (k + 1)) acc = .error false := by simp [pu, hdg]
        have HD := Lib.hid (hdec.trans hF)
        clear hacc hF ha hdg hdec
        have hlow := lower_any c.toNat hc256 W1
        have hl256 := low_lt _ hc256
        obtain ⟨l, hl⟩ : ∃ l, c.toNat ||| 32 = l := ⟨_, rfl⟩
        rw [hl] at hlow hnl hl256
        clear hl
        by_cases h95 : c.toNat = 95
        case' pos =>
          have hlow2 := low95 W1
          rw [show ((c.toNat : Nat) : Int) = 95 by omega] at hc
          clear hlow hnl hl256 hnd h95
          go_wp2_with (go_at_call 128; refine hlow2.mono ?_; rintro e w' ⟨rfl, rfl⟩)
        case' neg =>
          have i95 : ((c.toNat : Int) == 95) = false := by simp; omega
          clear h95
          rcases hnl with hnl | hnl
          all_goals go_wp2_with (go_at_call 128; refine hlow.mono ?_; rintro e w' ⟨rfl, rfl⟩)
        all_goals go_ret2
        all_goals exact ⟨by rw [HD.out]; rfl, rfl⟩
    · have hkk : k = t.size := by omega
      subst hkk
      have hF : pu (bs.drop t.size) acc = .ok acc := by rw [List.drop_eq_nil_of_le (by omega)]; rfl
      have HD := Lib.hid (hdec.trans hF)
      subst ha
      clear hacc hF a0 a1 hdec
      go_wp2
      go_ret2
      exact ⟨by rw [HD.out]; rfl, rfl⟩

/-- What the package-level variables hold, all in blocks below N. -/
structure Low (N : Nat) (w : World) : Prop where
  big : 19 ≤ N
  size : N ≤ w.heap.size
  tabs : Lib.Utf8Tabs 3 4 w
  maxl : ∃ m, w.cell? ⟨5, 0, none⟩ = some (.int .i64 m)
  synt : ∃ te pe, w.cell? ⟨6, 0, none⟩ = some (.iface te pe)
  rang : ∃ te pe, w.cell? ⟨7, 0, none⟩ = some (.iface te pe)
  words : Tab N 0 X.words w
  marks : Tab N 2 X.marks w
  num : NumE N w
theorem Low.below {N B : Nat} {w w' : World} (h : Low N w) (k : Below B w w') (hB : N ≤ B) : Low N w' := by
  have h19 := h.big
  have c : ∀ (a : Addr), a.block < 19 → w'.cell? a = w.cell? a := by
    intro a ha
    unfold World.cell?
    rw [k.block a.block (by omega)]
  refine ⟨h.big, Nat.le_trans h.size k.size, ⟨fun x hx => (c _ (by show 3 < 19; decide)).trans (h.tabs.1 x hx), fun i hi => ⟨(c _ (by show 4 < 19; decide)).trans (h.tabs.2 i hi).1, (c _ (by show 4 < 19; decide)).trans (h.tabs.2 i hi).2⟩⟩, ?_, ?_, ?_, h.words.below k hB, h.marks.below k hB, h.num.keep k hB⟩
  · obtain ⟨m, hm⟩ := h.maxl; exact ⟨m, (c _ (by decide)).trans hm⟩
  · obtain ⟨m, n, hm⟩ := h.synt; exact ⟨m, n, (c _ (by decide)).trans hm⟩
  · obtain ⟨m, n, hm⟩ := h.rang; exact ⟨m, n, (c _ (by decide)).trans hm⟩
theorem Low.bel {N : Nat} {w w' : World} (h : Low N w) (k : Below w.heap.size w w') : Low N w' := h.below k h.size
theorem Low.bar {N b : Nat} {w w' : World} (h : Low N w) (k : Bar b w w') (hb : N ≤ b) : Low N w' := h.below (k.below (B := N) hb h.size) (Nat.le_refl _)

/-- What strconv.ParseUint hands back. -/
def PuRet (r : Except Bool Nat) (w : World) (e : Ending) (w' : World) : Prop := (match r with
  | .ok n => e = .returned (.tuple #[.int .u64 (n : Int), .nilIface])
  | .error _ => ∃ v p, e = .returned (.tuple #[.int .u64 v, .iface 138 (.pointer p)])) ∧ Below w.heap.size w w'

set_option maxHeartbeats 4000000 in
theorem parse_any (N : Nat) (t : ByteArray) (hz : t.size ≠ 0) (hmax : t.size ≤ 65536) (w : World) (h : Low N w) :
    Calls Tryz.prog 114 #[.string t, .int .i64 16, .int .i64 16] w (PuRet (pu t.data.toList 0) w) := by
  obtain ⟨ts, ps, hsy⟩ := h.synt
  obtain ⟨tr, pr, hra⟩ := h.rang
  have hs : 19 ≤ w.heap.size := Nat.le_trans h.big h.size
  have hin : Calls Tryz.prog 119 #[.string t, .int .i64 16, .int .i64 16] w fun e w' => e = .returned (puTuple (pu t.data.toList 0)) ∧ Below w.heap.size w w' := by
    refine (parse16 t hz hmax w).mono ?_
    rintro e w' ⟨rfl, rfl⟩
    exact ⟨rfl, Lib.bytesWorld_below w 5 t⟩
  generalize pu t.data.toList 0 = r at hin ⊢
  cases r with
  | ok n =>
    have hin' : Calls Tryz.prog 119 #[.string t, .int .i64 16, .int .i64 16] w fun e w' => e = .returned (.tuple #[.int .u64 (n : Int), .nilIface]) ∧ Below w.heap.size w w' := hin
    clear hin h hsy hra
    go_enter Tryz.func114, Tryz.ntmps114
    go_wp2_with (go_at_call 119; refine hin'.mono ?_; rintro e w1 ⟨rfl, hb1⟩)
    go_ret2
    exact ⟨rfl, hb1⟩
  | error k =>
    have h7 : ∀ w', Below w.heap.size w w' → w'.cell? ⟨6, 0, none⟩ = some (.iface ts ps) := fun w' hb => (hb.cell (p := ⟨6, 0, none⟩) (by show 6 < w.heap.size; omega)).trans hsy
    have h8 : ∀ w', Below w.heap.size w w' → w'.cell? ⟨7, 0, none⟩ = some (.iface tr pr) := fun w' hb => (hb.cell (p := ⟨7, 0, none⟩) (by show 7 < w.heap.size; omega)).trans hra
    have H7 := Lib.hid h7
    have H8 := Lib.hid h8
    have hsi : t.size ≤ 281474976710656 := by omega
    cases k with
    | false =>
      have hin' : Calls Tryz.prog 119 #[.string t, .int .i64 16, .int .i64 16] w fun e w' => e = .returned (.tuple #[.int .u64 0, .iface 136 (.int .i64 2)]) ∧ Below w.heap.size w w' := hin
      clear hin h hsy hra h7 h8
      go_enter Tryz.func114, Tryz.ntmps114
      go_wp2_with (go_at_call 119; refine hin'.mono ?_; rintro e w1 ⟨rfl, hb1⟩)
      refine (Tryz.strconv_toError_syntax _ _ _ _ _ _ hsi (H7.out _ hb1) (.inr ⟨_, _, rfl⟩)).mono ?_
      rintro e w2 ⟨N, rfl, _, _, hb2⟩
      go_wp2
      go_ret2
      exact ⟨⟨_, _, rfl⟩, hb1.trans (hb2.mono hb1.size)⟩
    | true =>
      have hin' : Calls Tryz.prog 119 #[.string t, .int .i64 16, .int .i64 16] w fun e w' => e = .returned (.tuple #[.int .u64 65535, .iface 136 (.int .i64 1)]) ∧ Below w.heap.size w w' := hin
      clear hin h hsy hra h7 h8
      go_enter Tryz.func114, Tryz.ntmps114
      go_wp2_with (go_at_call 119; refine hin'.mono ?_; rintro e w1 ⟨rfl, hb1⟩)
      refine (Tryz.strconv_toError_range _ _ _ _ _ _ hsi (H8.out _ hb1) (.inr ⟨_, _, rfl⟩)).mono ?_
      rintro e w2 ⟨N, rfl, _, _, hb2⟩
      go_wp2
      go_ret2
      exact ⟨⟨_, _, rfl⟩, hb1.trans (hb2.mono hb1.size)⟩
end Go.Proofs.YtelphbcdjfdjpaaGreatDoor
namespace Go.Proofs.YtelphbcdjfdjpaaGreatDoor
open Go.RowKit
set_option linter.all false
theorem past_goes (l : List UInt8) (hl : l.length ≤ 140737488355328) (a : Nat) (ha : a ≤ l.length) (m : Nat) (hm : a + X.past X.goes (l.drop a) = m) (w : World) :
    Calls Tryz.prog 34 #[.string (bs l), .int .i64 (a : Int), .func (.func 35) #[] #[]] w fun e w' => e = .returned (.int .i64 (m : Int)) ∧ w = w' := by
  have hrun := run_of l a ha X.goes m hm
  have hsz := bs_size l
  have hR : (bs l).size ≤ 140737488355328 := by omega
  clear hsz hm
  generalize bs l = R at hrun hR ⊢
  have hle := hrun.le
  have hge := hrun.ge
  have HF := Lib.hid goes_any
  have HR := Lib.hid hrun
  clear hrun hl ha
  go_enter Tryz.func34, Tryz.ntmps34
  go_wp2
  go_loop [1] (fun v => ∃ k : Nat, a ≤ k ∧ k ≤ m ∧ v = .int .i64 (k : Int)) (fun v => m - (intOf v).toNat)
  case atStart => exact ⟨a, Nat.le_refl _, hge, rfl⟩
  case round =>
    obtain ⟨k, hk1, hk2, rfl⟩ := hrel
    by_cases hkn : k < m
    · have hks : k < R.size := by omega
      obtain ⟨b0, hb0⟩ : ∃ b0, R[k] = b0 := ⟨_, rfl⟩
      have hy := HR.out.yes k hks hk1 hkn
      rw [hb0] at hy
      have hbl := HF.out b0.toNat (UInt8.toNat_lt _)
      rw [hy] at hbl
      have hv : b0.toNat < 256 := UInt8.toNat_lt _
      have hki : (k : Int) < (R.size : Int) := by omega
      clear hy
      go_wp2_with ((with_reducible refine (hbl _).mono ?_); rintro e w' ⟨rfl, rfl⟩)
      go_round
      case rel => exact ⟨k + 1, by omega, by omega, by go_num⟩
      case measure => simp [intOf]; omega
    · obtain rfl : k = m := by omega
      rcases Nat.lt_or_ge k R.size with hks | hks
      · obtain ⟨b0, hb0⟩ : ∃ b0, R[k] = b0 := ⟨_, rfl⟩
        have hy := HR.out.no hks
        rw [hb0] at hy
        have hbl := HF.out b0.toNat (UInt8.toNat_lt _)
        rw [hy] at hbl
        have hv : b0.toNat < 256 := UInt8.toNat_lt _
        have hki : (k : Int) < (R.size : Int) := by omega
        clear hy
        go_wp2_with ((with_reducible refine (hbl _).mono ?_); rintro e w' ⟨rfl, rfl⟩)
        go_ret
        exact ⟨rfl, rfl⟩
      · have hki : ¬ (k : Int) < (R.size : Int) := by omega
        go_wp2
        go_ret
        exact ⟨rfl, rfl⟩
theorem past_digit (l : List UInt8) (hl : l.length ≤ 140737488355328) (a : Nat) (ha : a ≤ l.length) (m : Nat) (hm : a + X.past X.digit (l.drop a) = m) (w : World) :
    Calls Tryz.prog 34 #[.string (bs l), .int .i64 (a : Int), .func (.func 57) #[] #[]] w fun e w' => e = .returned (.int .i64 (m : Int)) ∧ w = w' := by
  have hrun := run_of l a ha X.digit m hm
  have hsz := bs_size l
  have hR : (bs l).size ≤ 140737488355328 := by omega
  clear hsz hm
  generalize bs l = R at hrun hR ⊢
  have hle := hrun.le
  have hge := hrun.ge
  have HF := Lib.hid isDigit_any
  have HR := Lib.hid hrun
  clear hrun hl ha
  go_enter Tryz.func34, Tryz.ntmps34
  go_wp2
  go_loop [1] (fun v => ∃ k : Nat, a ≤ k ∧ k ≤ m ∧ v = .int .i64 (k : Int)) (fun v => m - (intOf v).toNat)
  case atStart => exact ⟨a, Nat.le_refl _, hge, rfl⟩
  case round =>
    obtain ⟨k, hk1, hk2, rfl⟩ := hrel
    by_cases hkn : k < m
    · have hks : k < R.size := by omega
      obtain ⟨b0, hb0⟩ : ∃ b0, R[k] = b0 := ⟨_, rfl⟩
      have hy := HR.out.yes k hks hk1 hkn
      rw [hb0] at hy
      have hbl := HF.out b0.toNat (UInt8.toNat_lt _)
      rw [hy] at hbl
      have hv : b0.toNat < 256 := UInt8.toNat_lt _
      have hki : (k : Int) < (R.size : Int) := by omega
      clear hy
      go_wp2_with ((with_reducible refine (hbl _).mono ?_); rintro e w' ⟨rfl, rfl⟩)
      go_round
      case rel => exact ⟨k + 1, by omega, by omega, by go_num⟩
      case measure => simp [intOf]; omega
    · obtain rfl : k = m := by omega
      rcases Nat.lt_or_ge k R.size with hks | hks
      · obtain ⟨b0, hb0⟩ : ∃ b0, R[k] = b0 := ⟨_, rfl⟩
        have hy := HR.out.no hks
        rw [hb0] at hy
        have hbl := HF.out b0.toNat (UInt8.toNat_lt _)
        rw [hy] at hbl
        have hv : b0.toNat < 256 := UInt8.toNat_lt _
        have hki : (k : Int) < (R.size : Int) := by omega
        clear hy
        go_wp2_with ((with_reducible refine (hbl _).mono ?_); rintro e w' ⟨rfl, rfl⟩)
        go_ret
        exact ⟨rfl, rfl⟩
      · have hki : ¬ (k : Int) < (R.size : Int) := by omega
        go_wp2
        go_ret
        exact ⟨rfl, rfl⟩
theorem past_six (l : List UInt8) (hl : l.length ≤ 140737488355328) (a : Nat) (ha : a ≤ l.length) (m : Nat) (hm : a + X.past X.six (l.drop a) = m) (w : World) :
    Calls Tryz.prog 34 #[.string (bs l), .int .i64 (a : Int), .func (.func 107) #[] #[]] w fun e w' => e = .returned (.int .i64 (m : Int)) ∧ w = w' := by
  have hrun := run_of l a ha X.six m hm
  have hsz := bs_size l
  have hR : (bs l).size ≤ 140737488355328 := by omega
  clear hsz hm
  generalize bs l = R at hrun hR ⊢
  have hle := hrun.le
  have hge := hrun.ge
  have HF := Lib.hid six_any
  have HR := Lib.hid hrun
  clear hrun hl ha
  go_enter Tryz.func34, Tryz.ntmps34
  go_wp2
  go_loop [1] (fun v => ∃ k : Nat, a ≤ k ∧ k ≤ m ∧ v = .int .i64 (k : Int)) (fun v => m - (intOf v).toNat)
  case atStart => exact ⟨a, Nat.le_refl _, hge, rfl⟩
  case round =>
    obtain ⟨k, hk1, hk2, rfl⟩ := hrel
    by_cases hkn : k < m
    · have hks : k < R.size := by omega
      obtain ⟨b0, hb0⟩ : ∃ b0, R[k] = b0 := ⟨_, rfl⟩
      have hy := HR.out.yes k hks hk1 hkn
      rw [hb0] at hy
      have hbl := HF.out b0.toNat (UInt8.toNat_lt _)
      rw [hy] at hbl
      have hv : b0.toNat < 256 := UInt8.toNat_lt _
      have hki : (k : Int) < (R.size : Int) := by omega
      clear hy
      go_wp2_with ((with_reducible refine (hbl _).mono ?_); rintro e w' ⟨rfl, rfl⟩)
      go_round
      case rel => exact ⟨k + 1, by omega, by omega, by go_num⟩
      case measure => simp [intOf]; omega
    · obtain rfl : k = m := by omega
      rcases Nat.lt_or_ge k R.size with hks | hks
      · obtain ⟨b0, hb0⟩ : ∃ b0, R[k] = b0 := ⟨_, rfl⟩
        have hy := HR.out.no hks
        rw [hb0] at hy
        have hbl := HF.out b0.toNat (UInt8.toNat_lt _)
        rw [hy] at hbl
        have hv : b0.toNat < 256 := UInt8.toNat_lt _
        have hki : (k : Int) < (R.size : Int) := by omega
        clear hy
        go_wp2_with ((with_reducible refine (hbl _).mono ?_); rintro e w' ⟨rfl, rfl⟩)
        go_ret
        exact ⟨rfl, rfl⟩
      · have hki : ¬ (k : Int) < (R.size : Int) := by omega
        go_wp2
        go_ret
        exact ⟨rfl, rfl⟩
end Go.Proofs.YtelphbcdjfdjpaaGreatDoor
