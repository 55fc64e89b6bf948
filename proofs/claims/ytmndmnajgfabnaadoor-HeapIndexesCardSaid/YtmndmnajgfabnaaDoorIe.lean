/- Layer 8: a number's digits, as the document writes them. Conditions: those that each theorem names. -/
import Derived.Test.YtmndmnajgfabnaaDoorId
namespace Go.Proofs.YtmndmnajgfabnaaDoor
open Go.RowKit Go.Maps Go.Shelf
set_option linter.all false

/-- Still to write: m; written: ds. -/
def DigRel (n : Int) (w : World) (m : Nat) (z : Int) (S : ByteArray) (wr : World) : Prop :=
  z = (if n < 0 then -(m : Int) else (m : Int)) ∧ m ≤ n.natAbs ∧ Fr [] w wr ∧ ∃ ds, S = bs ds ∧ Lib.decDigits m ++ ds = Lib.decDigits n.natAbs
def digC (m : Nat) : List UInt8 := [UInt8.ofNat (48 + m % 10)]
theorem digC_cells (m : Nat) (X : Int) (hX : X = ((48 + m % 10 : Nat) : Int)) : (#[Value.int .u8 X] : Array Value).toList = (digC m).map fun b => Value.int .u8 (b.toNat : Int) := by
  subst hX
  show [Value.int .u8 _] = [Value.int .u8 _]
  rw [UInt8.toNat_ofNat']
  congr 3
  omega
theorem dd_small (m : Nat) (h : m < 10) : Lib.decDigits m = [UInt8.ofNat (48 + m)] := by rw [Lib.decDigits, dif_pos h]
theorem dd_big (m : Nat) (h : ¬ m < 10) : Lib.decDigits m = Lib.decDigits (m / 10) ++ [UInt8.ofNat (48 + m % 10)] := by
  conv => lhs; rw [Lib.decDigits, dif_neg h]
theorem DigRel.size {n : Int} (h0 : -9223372036854775808 ≤ n) (h1 : n ≤ 9223372036854775807) {w : World} {m : Nat} {z : Int} {S : ByteArray} {wr : World} (h : DigRel n w m z S wr) : S.size ≤ 20 := by
  obtain ⟨_, _, _, ds, rfl, hd⟩ := h
  have hl := congrArg List.length hd
  rw [List.length_append, Lib.decDigits_length n.natAbs] at hl
  have := Lib.nDigits_le20 n.natAbs (by omega)
  rw [bs_size]
  omega
theorem DigRel.next {n : Int} {w : World} {m : Nat} {z : Int} {S : ByteArray} {wr W : World} (h : DigRel n w m z S wr) (hF : Fr [] wr W) (h10 : m / 10 ≠ 0) (q : Int) (hq : q = if n < 0 then -((m / 10 : Nat) : Int) else ((m / 10 : Nat) : Int)) : DigRel n w (m / 10) q (bs (digC m) ++ S) W := by
  obtain ⟨_, hm, hf, ds, rfl, hd⟩ := h
  refine ⟨hq, by omega, hf.trans hF (fun _ h => by cases h), digC m ++ ds, bs_append _ _, ?_⟩
  rw [← hd]
  rw [dd_big m (by omega)]
  simp [digC]
theorem DigRel.fin {n : Int} {w : World} {m : Nat} {z : Int} {S : ByteArray} {wr W : World} (h : DigRel n w m z S wr) (hF : Fr [] wr W) (h10 : m / 10 = 0) : bs (digC m) ++ S = bs (Lib.decDigits n.natAbs) ∧ Fr [] w W := by
  obtain ⟨_, hm, hf, ds, rfl, hd⟩ := h
  refine ⟨?_, hf.trans hF (fun _ h => by cases h)⟩
  rw [bs_append, ← hd, dd_small m (by omega)]
  unfold digC
  rw [Nat.mod_eq_of_lt (by omega)]
theorem tm_neg (m : Nat) : (-(m : Int)).tmod 10 = -((m % 10 : Nat) : Int) := by rw [Int.neg_tmod]; rfl
theorem td_neg (m : Nat) : (-(m : Int)).tdiv 10 = -((m / 10 : Nat) : Int) := by rw [Int.neg_tdiv]; rfl
theorem tm_pos (m : Nat) : ((m : Int)).tmod 10 = ((m % 10 : Nat) : Int) := rfl
theorem td_pos (m : Nat) : ((m : Int)).tdiv 10 = ((m / 10 : Nat) : Int) := rfl
set_option maxRecDepth 100000 in
set_option maxHeartbeats 2000000 in
theorem digits_any (n : Int) (h0 : -9223372036854775808 ≤ n) (h1 : n ≤ 9223372036854775807) (w : World) :
    Calls Tryd.prog 36 #[.int .i64 n] w fun e w' => e = .returned (.string (bs (Lib.itoa n))) ∧ Fr [] w w' := by
  have hR0 : DigRel n w n.natAbs n ⟨#[]⟩ w := ⟨by split <;> omega, Nat.le_refl _, Fr.refl _ _, [], rfl, by simp⟩
  have HR0 := Lib.hid hR0
  have HB := Lib.hid (And.intro h0 h1)
  obtain ⟨RR, hRR⟩ : ∃ RR, bs (Lib.itoa n) = RR := ⟨_, rfl⟩
  rw [hRR]
  have HRR := Lib.hid hRR
  clear hRR hR0
  by_cases hn : n < 0
  · have hsg : ∀ A : ByteArray, A = bs (Lib.decDigits n.natAbs) → (⟨#[45]⟩ : ByteArray) ++ A = RR := by
      rintro A rfl
      rw [← HRR.out]
      unfold Lib.itoa
      rw [if_pos hn]
      exact bs_append [45] _
    have HSG := Lib.hid hsg
    have HN := Lib.hid hn
    clear hsg
    go_enter Tryd.func36, Tryd.ntmps36
    go_wp2
    go_loopg [0, 3, 5] n.natAbs (fun m zv sv dv wr => ∃ (z : Int) (T : ByteArray), zv = .int .i64 z ∧ sv = .string T ∧ Hid (DigRel n w m z T wr))
    case atStart => exact ⟨n, ⟨#[]⟩, rfl, rfl, HR0⟩
    case round =>
      obtain ⟨z, T, rfl, rfl, hrl⟩ := hrel
      have hT := hrl.out.size HB.out.1 HB.out.2
      have hz := hrl.out.1
      have hm := hrl.out.2.1
      have hb0 := HB.out
      rw [if_pos HN.out] at hz
      have hr : z.tmod 10 = -((gk % 10 : Nat) : Int) := by rw [hz]; exact tm_neg gk
      have hq : z.tdiv 10 = -((gk / 10 : Nat) : Int) := by rw [hz]; exact td_neg gk
      have hqh : Hid (z.tdiv 10 = if n < 0 then -((gk / 10 : Nat) : Int) else ((gk / 10 : Nat) : Int)) := Lib.hid (by rw [if_pos HN.out]; exact hq)
      have c0 : -9223372036854775808 ≤ z := by omega
      have c1 : z ≤ 9223372036854775807 := by omega
      by_cases hr9 : z.tmod 10 < 0
      · have r1 : -9 ≤ z.tmod 10 := by omega
        have hb := fun W => conv_list W (digC gk) #[.int .u8 (48 + -z.tmod 10)] (digC_cells gk _ (by omega))
        rw [show (digC gk).length = 1 from rfl] at hb
        have hN2 := fun W (hF : Fr [] wr W) h10 => hrl.out.next (W := W) hF h10 _ hqh.out
        have hF2 := fun W (hF : Fr [] wr W) h10 => hrl.out.fin (W := W) hF h10
        have hBs : (bs (digC gk)).size = 1 := rfl
        have hb2 : ∀ W : World, (convert 105 9 (.slice (some ⟨W.heap.size, 0, none⟩) 1 1)).run Tryd.prog (W.alloc (.cells #[.int .u8 (48 + -z.tmod 10)] 5)) = .ok (.string (bs (digC gk))) (W.alloc (.cells #[.int .u8 (48 + -z.tmod 10)] 5)) := hb
        clear hb
        obtain ⟨B, hB⟩ : ∃ B, B = bs (digC gk) := ⟨_, rfl⟩
        rw [← hB] at hb2 hBs
        rw [← hB] at hN2 hF2
        clear hB
        have s1 : ¬ (B.size + T.size > 9223372036854775807) := by omega
        have HN2 := Lib.hid hN2
        have HF2 := Lib.hid hF2
        have q1 : -9223372036854775808 ≤ z.tdiv 10 := by omega
        have q2 : z.tdiv 10 ≤ 9223372036854775807 := by omega
        have hqd : gk / 10 = 0 → z.tdiv 10 = 0 := fun h => by omega
        have hqe : gk / 10 ≠ 0 → (z.tdiv 10 == 0) = false := fun h => by rw [beq_eq_false_iff_ne]; omega
        clear hN2 hF2 hrl hz hm hb0 hr hq hqh
        by_cases h10 : gk / 10 = 0
        · have q0 : z.tdiv 10 = 0 := hqd h10
          have H10 := Lib.hid h10
          have s2 : ¬ ((⟨#[45]⟩ : ByteArray).size + (B ++ T).size > 9223372036854775807) := by rw [ByteArray.size_append, show (⟨#[45]⟩ : ByteArray).size = 1 from rfl]; omega
          clear h10 hqd hqe
          go_wp2
          go_ret
          exact ⟨by rw [HSG.out _ (HF2.out _ (Fr.refl _ _) H10.out).1]; rfl, (HF2.out _ (Fr.alloc _ _) H10.out).2⟩
        · have q0 : (z.tdiv 10 == 0) = false := hqe h10
          have H10 := Lib.hid h10
          have hlt : Hid (gk / 10 < gk) := Lib.hid (by omega)
          clear h10 hqd hqe
          go_wp2
          go_roundg (gk / 10)
          case measure => exact hlt.out
          case rel => exact ⟨_, _, rfl, rfl, Lib.hid (HN2.out _ (Fr.alloc _ _) H10.out)⟩
      · have r0 : 0 ≤ z.tmod 10 := by omega
        have r1 : z.tmod 10 ≤ 9 := by omega
        have hb := fun W => conv_list W (digC gk) #[.int .u8 (48 + z.tmod 10)] (digC_cells gk _ (by omega))
        rw [show (digC gk).length = 1 from rfl] at hb
        have hN2 := fun W (hF : Fr [] wr W) h10 => hrl.out.next (W := W) hF h10 _ hqh.out
        have hF2 := fun W (hF : Fr [] wr W) h10 => hrl.out.fin (W := W) hF h10
        have hBs : (bs (digC gk)).size = 1 := rfl
        have hb2 : ∀ W : World, (convert 105 9 (.slice (some ⟨W.heap.size, 0, none⟩) 1 1)).run Tryd.prog (W.alloc (.cells #[.int .u8 (48 + z.tmod 10)] 5)) = .ok (.string (bs (digC gk))) (W.alloc (.cells #[.int .u8 (48 + z.tmod 10)] 5)) := hb
        clear hb
        obtain ⟨B, hB⟩ : ∃ B, B = bs (digC gk) := ⟨_, rfl⟩
        rw [← hB] at hb2 hBs
        rw [← hB] at hN2 hF2
        clear hB
        have s1 : ¬ (B.size + T.size > 9223372036854775807) := by omega
        have HN2 := Lib.hid hN2
        have HF2 := Lib.hid hF2
        have q1 : -9223372036854775808 ≤ z.tdiv 10 := by omega
        have q2 : z.tdiv 10 ≤ 9223372036854775807 := by omega
        have hqd : gk / 10 = 0 → z.tdiv 10 = 0 := fun h => by omega
        have hqe : gk / 10 ≠ 0 → (z.tdiv 10 == 0) = false := fun h => by rw [beq_eq_false_iff_ne]; omega
        clear hN2 hF2 hrl hz hm hb0 hr hq hqh
        by_cases h10 : gk / 10 = 0
        · have q0 : z.tdiv 10 = 0 := hqd h10
          have H10 := Lib.hid h10
          have s2 : ¬ ((⟨#[45]⟩ : ByteArray).size + (B ++ T).size > 9223372036854775807) := by rw [ByteArray.size_append, show (⟨#[45]⟩ : ByteArray).size = 1 from rfl]; omega
          clear h10 hqd hqe
          go_wp2
          go_ret
          exact ⟨by rw [HSG.out _ (HF2.out _ (Fr.refl _ _) H10.out).1]; rfl, (HF2.out _ (Fr.alloc _ _) H10.out).2⟩
        · have q0 : (z.tdiv 10 == 0) = false := hqe h10
          have H10 := Lib.hid h10
          have hlt : Hid (gk / 10 < gk) := Lib.hid (by omega)
          clear h10 hqd hqe
          go_wp2
          go_roundg (gk / 10)
          case measure => exact hlt.out
          case rel => exact ⟨_, _, rfl, rfl, Lib.hid (HN2.out _ (Fr.alloc _ _) H10.out)⟩
  · have hsg : ∀ A : ByteArray, A = bs (Lib.decDigits n.natAbs) → (⟨#[]⟩ : ByteArray) ++ A = RR := by
      rintro A rfl
      rw [← HRR.out]
      unfold Lib.itoa
      rw [if_neg hn]
      have := bs_append [] (Lib.decDigits n.natAbs)
      rw [List.nil_append, show n.natAbs = n.toNat by omega] at this
      rw [show n.natAbs = n.toNat by omega]
      exact this
    have HSG := Lib.hid hsg
    have HN := Lib.hid hn
    clear hsg
    go_enter Tryd.func36, Tryd.ntmps36
    go_wp2
    go_loopg [0, 3, 5] n.natAbs (fun m zv sv dv wr => ∃ (z : Int) (T : ByteArray), zv = .int .i64 z ∧ sv = .string T ∧ Hid (DigRel n w m z T wr))
    case atStart => exact ⟨n, ⟨#[]⟩, rfl, rfl, HR0⟩
    case round =>
      obtain ⟨z, T, rfl, rfl, hrl⟩ := hrel
      have hT := hrl.out.size HB.out.1 HB.out.2
      have hz := hrl.out.1
      have hm := hrl.out.2.1
      have hb0 := HB.out
      rw [if_neg (by have := HN.out; omega)] at hz
      have hr : z.tmod 10 = ((gk % 10 : Nat) : Int) := by rw [hz]; exact tm_pos gk
      have hq : z.tdiv 10 = ((gk / 10 : Nat) : Int) := by rw [hz]; exact td_pos gk
      have hqh : Hid (z.tdiv 10 = if n < 0 then -((gk / 10 : Nat) : Int) else ((gk / 10 : Nat) : Int)) := Lib.hid (by rw [if_neg (by have := HN.out; omega)]; exact hq)
      have c0 : -9223372036854775808 ≤ z := by omega
      have c1 : z ≤ 9223372036854775807 := by omega
      have r0 : 0 ≤ z.tmod 10 := by omega
      have r1 : z.tmod 10 ≤ 9 := by omega
      have hb := fun W => conv_list W (digC gk) #[.int .u8 (48 + z.tmod 10)] (digC_cells gk _ (by omega))
      rw [show (digC gk).length = 1 from rfl] at hb
      have hN2 := fun W (hF : Fr [] wr W) h10 => hrl.out.next (W := W) hF h10 _ hqh.out
      have hF2 := fun W (hF : Fr [] wr W) h10 => hrl.out.fin (W := W) hF h10
      have hBs : (bs (digC gk)).size = 1 := rfl
      have hb2 : ∀ W : World, (convert 105 9 (.slice (some ⟨W.heap.size, 0, none⟩) 1 1)).run Tryd.prog (W.alloc (.cells #[.int .u8 (48 + z.tmod 10)] 5)) = .ok (.string (bs (digC gk))) (W.alloc (.cells #[.int .u8 (48 + z.tmod 10)] 5)) := hb
      clear hb
      obtain ⟨B, hB⟩ : ∃ B, B = bs (digC gk) := ⟨_, rfl⟩
      rw [← hB] at hb2 hBs
      rw [← hB] at hN2 hF2
      clear hB
      have s1 : ¬ (B.size + T.size > 9223372036854775807) := by omega
      have HN2 := Lib.hid hN2
      have HF2 := Lib.hid hF2
      have q1 : -9223372036854775808 ≤ z.tdiv 10 := by omega
      have q2 : z.tdiv 10 ≤ 9223372036854775807 := by omega
      have hqd : gk / 10 = 0 → z.tdiv 10 = 0 := fun h => by omega
      have hqe : gk / 10 ≠ 0 → (z.tdiv 10 == 0) = false := fun h => by rw [beq_eq_false_iff_ne]; omega
      clear hN2 hF2 hrl hz hm hb0 hr hq hqh
      by_cases h10 : gk / 10 = 0
      · have q0 : z.tdiv 10 = 0 := hqd h10
        have H10 := Lib.hid h10
        have s2 : ¬ ((⟨#[]⟩ : ByteArray).size + (B ++ T).size > 9223372036854775807) := by rw [ByteArray.size_append, show (⟨#[]⟩ : ByteArray).size = 0 from rfl]; omega
        clear h10 hqd hqe
        go_wp2
        go_ret
        exact ⟨by rw [HSG.out _ (HF2.out _ (Fr.refl _ _) H10.out).1]; rfl, (HF2.out _ (Fr.alloc _ _) H10.out).2⟩
      · have q0 : (z.tdiv 10 == 0) = false := hqe h10
        have H10 := Lib.hid h10
        have hlt : Hid (gk / 10 < gk) := Lib.hid (by omega)
        clear h10 hqd hqe
        go_wp2
        go_roundg (gk / 10)
        case measure => exact hlt.out
        case rel => exact ⟨_, _, rfl, rfl, Lib.hid (HN2.out _ (Fr.alloc _ _) H10.out)⟩
end Go.Proofs.YtmndmnajgfabnaaDoor
