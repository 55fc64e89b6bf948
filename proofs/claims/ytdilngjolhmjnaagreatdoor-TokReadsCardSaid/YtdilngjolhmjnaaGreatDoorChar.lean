/- What pennantref01.Char answers of every text and place: the character there and its bytes, as 'nextAt' says; the world is as it was. -/
import Derived.Test.YtdilngjolhmjnaaGreatDoorNext
import Derived.Test.YtdilngjolhmjnaaGreatDoorA1
namespace Go.Proofs.YtdilngjolhmjnaaGreatDoor
open Go.RowKit Go.Shelf
set_option linter.all false

theorem g_drop (s : ByteArray) (i m : Nat) (h : i + m < s.size) : U.g ((ls s).drop i) m = (s[i + m]).toNat := by
  unfold U.g
  rw [List.getD_eq_getElem?_getD, List.getElem?_drop, List.getElem?_eq_getElem (by rw [ls_length]; exact h)]
  rfl
theorem nextAt_out (s : ByteArray) (i : Int) (h : i < 0 ∨ (s.size : Int) ≤ i) : nextAt (ls s) i = (0, 0) := by
  unfold nextAt
  rw [if_neg (by rw [ls_length]; omega)]
theorem nextAt_in (s : ByteArray) (i : Nat) (h : i < s.size) : nextAt (ls s) i = U.dec ((ls s).drop i) := by
  unfold nextAt
  rw [if_pos (by rw [ls_length]; omega)]
  rfl

set_option maxRecDepth 100000 in
set_option maxHeartbeats 1000000 in
theorem char_out (s : ByteArray) (i : Int) (hs : s.size ≤ 140737488355328) (h : i < 0 ∨ (s.size : Int) ≤ i) (w : World) :
    Calls Tryz.prog 31 #[.string s, .int .i64 i] w fun e w' => e = .returned (.tuple #[.int .i64 0, .int .i64 0]) ∧ w = w' := by
  rcases h with h | h
  all_goals
    go_enter Tryz.func31, Tryz.ntmps31
    go_wp2
    go_ret2
    exact ⟨rfl, rfl⟩

set_option maxRecDepth 100000 in
set_option maxHeartbeats 1000000 in
theorem char_ascii (s : ByteArray) (i : Nat) (hs : s.size ≤ 140737488355328) (h2 : i < s.size) (b0 : UInt8) (hb0 : s[i] = b0) (h : (b0.toNat : Int) < 128) (w : World) :
    Calls Tryz.prog 31 #[.string s, .int .i64 (i : Int)] w fun e w' => e = .returned (.tuple #[.int .i64 (b0.toNat : Int), .int .i64 1]) ∧ w = w' := by
  go_enter Tryz.func31, Tryz.ntmps31
  go_wp2
  go_ret2
  exact ⟨rfl, rfl⟩

set_option maxRecDepth 100000 in
set_option maxHeartbeats 1000000 in
theorem char_bad (s : ByteArray) (i : Nat) (hs : s.size ≤ 140737488355328) (h2 : i < s.size) (b0 : UInt8) (hb0 : s[i] = b0) (h : (128 ≤ (b0.toNat : Int) ∧ (b0.toNat : Int) < 192) ∨ 248 ≤ (b0.toNat : Int)) (w : World) :
    Calls Tryz.prog 31 #[.string s, .int .i64 (i : Int)] w fun e w' => e = .returned (.tuple #[.int .i64 0, .int .i64 0]) ∧ w = w' := by
  have hu : (b0.toNat : Int) < 256 := by have := b0.toNat_lt; omega
  rcases h with ⟨h, h'⟩ | h
  all_goals
    go_enter Tryz.func31, Tryz.ntmps31
    go_wp2
    go_ret2
    exact ⟨rfl, rfl⟩

set_option maxRecDepth 100000 in
set_option maxHeartbeats 1000000 in
theorem char_short (s : ByteArray) (i : Nat) (hs : s.size ≤ 140737488355328) (h2 : i < s.size) (b0 : UInt8) (hb0 : s[i] = b0) (n c low : Nat) (hL : U.Lead b0.toNat n c low) (hn : s.size < i + n) (w : World) :
    Calls Tryz.prog 31 #[.string s, .int .i64 (i : Int)] w fun e w' => e = .returned (.tuple #[.int .i64 0, .int .i64 0]) ∧ w = w' := by
  rcases hL with ⟨h3, h4, e1, e2, e3⟩ | ⟨h3, h4, e1, e2, e3⟩ | ⟨h3, h4, e1, e2, e3⟩
  all_goals
    clear e2 e3
    subst e1
    have h3 : (_ : Int) ≤ (b0.toNat : Int) := Int.ofNat_le.2 h3
    have h4 : (b0.toNat : Int) < (_ : Int) := Int.ofNat_lt.2 h4
    have hn := Int.ofNat_lt.2 hn
    simp only [Int.natCast_add, Int.cast_ofNat_Int] at h3 h4 hn
    go_enter Tryz.func31, Tryz.ntmps31
    go_wp2
    go_ret2
    exact ⟨rfl, rfl⟩

def GoodC (l : List UInt8) (k : Nat) : Prop := ∀ m, 1 ≤ m → m < k → 128 ≤ U.g l m ∧ U.g l m < 192
theorem ret_two {a b c d : Int} (h1 : a = c) (h2 : b = d) : Ending.returned (.tuple #[.int .i64 a, .int .i64 b]) = .returned (.tuple #[.int .i64 c, .int .i64 d]) := by rw [h1, h2]
theorem val_small (l : List UInt8) (c n m : Nat) (hc : c < 64) (hn : n ≤ 4) (hm : m ≤ n) : U.val l c (m - 1) < 134217728 := by
  have h := U.val_lt l c hc (m - 1) (by omega)
  have h2 : m - 1 = 0 ∨ m - 1 = 1 ∨ m - 1 = 2 ∨ m - 1 = 3 := by omega
  rcases h2 with h2 | h2 | h2 | h2 <;> rw [h2] at h ⊢ <;> omega
theorem val_next (l : List UInt8) (c m : Nat) (h1 : 1 ≤ m) (hg : 128 ≤ U.g l m) : ((U.val l c (m + 1 - 1) : Nat) : Int) = (U.val l c (m - 1) : Nat) * 64 + (U.g l m : Nat) - 128 := by
  obtain ⟨k, rfl⟩ : ∃ k, m = k + 1 := ⟨m - 1, by omega⟩
  show ((U.val l c k * 64 + U.g l (k + 1) - 128 : Nat) : Int) = _
  simp only [Nat.add_sub_cancel]
  omega
set_option maxRecDepth 100000 in
set_option maxHeartbeats 4000000 in
theorem char_full (s : ByteArray) (i : Nat) (hs : s.size ≤ 140737488355328) (h2 : i < s.size) (b0 : UInt8) (hb0 : s[i] = b0) (n c low : Nat) (hL : U.Lead b0.toNat n c low) (hn : i + n ≤ s.size)
    (C N : Nat) (hd : U.dec ((ls s).drop i) = (C, N)) (w : World) :
    Calls Tryz.prog 31 #[.string s, .int .i64 (i : Int)] w fun e w' => e = .returned (.tuple #[.int .i64 (C : Int), .int .i64 (N : Int)]) ∧ w = w' := by
  obtain ⟨l, hl⟩ : ∃ l, (ls s).drop i = l := ⟨_, rfl⟩
  rw [hl] at hd
  have hll : l.length = s.size - i := by rw [← hl, List.length_drop, ls_length]
  have hg : ∀ m (h : i + m < s.size), U.g l m = (s[i + m]).toNat := fun m h => by rw [← hl]; exact g_drop s i m h
  have hg0 : U.g l 0 = b0.toNat := by rw [hg 0 (by omega)]; simp [hb0]
  have HL := Lib.hid (hg0 ▸ hL)
  have HG := Lib.hid hg
  have HD := Lib.hid hd
  have HLL := Lib.hid hll
  clear hg hd hg0 hl hll
  rcases hL with ⟨h3, h4, e1, e2, e3⟩ | ⟨h3, h4, e1, e2, e3⟩ | ⟨h3, h4, e1, e2, e3⟩
  all_goals
    have hc64 : c < 64 := by omega
    have hn4 : n ≤ 4 := by omega
    have hn1 : 1 < n := by omega
    have HN := Lib.hid e1
    have HLow := Lib.hid e3
    have hcz := Int.ofNat_sub h3
    rw [← e2] at hcz
    simp only [Int.cast_ofNat_Int] at hcz
    have HC := Lib.hid hcz
    have hnn := hn
    rw [e1] at hn
    clear e2 e3 e1 hcz
    have h3 := Int.ofNat_le.2 h3
    have h4 := Int.ofNat_lt.2 h4
    have hn := Int.ofNat_le.2 hn
    simp only [Int.natCast_add, Int.cast_ofNat_Int] at h3 h4 hn
    have hdz1 : decide (s.size ≤ i) = false := decide_eq_false (by omega)
    have hdz2 : decide ((i : Int) < 0) = false := decide_eq_false (by omega)
    go_enter Tryz.func31, Tryz.ntmps31
    go_wp2
    go_loop [8, 10] (fun v k => ∃ m : Nat, 1 ≤ m ∧ m ≤ n ∧ k = .int .i64 m ∧ v = .int .i64 (U.val l c (m - 1) : Nat) ∧ GoodC l m) (fun _ k => n - (intOf k).toNat)
    case atStart => exact ⟨1, by omega, by omega, rfl, by show _ = Value.int .i64 (c : Int); rw [HC.out], fun j h1 h2 => by omega⟩
    case round =>
      obtain ⟨m, hm1, hm2, rfl, rfl, hgood⟩ := hrel
      have HGood := Lib.hid hgood
      clear hgood
      have hv := val_small l c n m hc64 hn4 hm2
      by_cases hmn : m < n
      · have hlt : i + m < s.size := by omega
        obtain ⟨x, hx⟩ : ∃ x, s[i + m] = x := ⟨_, rfl⟩
        have HX := Lib.hid (show U.g l m = x.toNat by rw [HG.out m hlt, hx])
        have hx8 : (x.toNat : Int) < 256 := by have := x.toNat_lt; omega
        have hlz : (i : Int) + (m : Int) < s.size := by omega
        have hN : Hid (U.val l c (m + 1 - 1) = U.val l c (m + 1 - 1)) := rfl
        have hlit : Hid (((m : Int) < n)) := by show (m : Int) < n; omega
        by_cases hbad : x.toNat < 128 ∨ 192 ≤ x.toNat
        · have HB := Lib.hid (U.dec_cont l n c low m HL.out hm1 hmn (by rw [HX.out]; exact hbad))
          have hC : C = 0 := by have h := HD.out; rw [HB.out] at h; injection h with h1 h2; exact h1.symm
          have hN0 : N = 0 := by have h := HD.out; rw [HB.out] at h; injection h with h1 h2; exact h2.symm
          have HC0 := Lib.hid hC
          have HN0 := Lib.hid hN0
          clear hC hN0
          first
          | have hmk : (m : Int) < 2 := by have := HN.out; omega
          | have hmk : (m : Int) < 3 := by have := HN.out; omega
          | have hmk : (m : Int) < 4 := by have := HN.out; omega
          rcases hbad with hbad | hbad
          · have hbz : (x.toNat : Int) < 128 := by omega
            go_wp2
            go_ret2
            exact ⟨ret_two (by rw [HC0.out]; rfl) (by rw [HN0.out]; rfl), rfl⟩
          · have hbz : 192 ≤ (x.toNat : Int) := by omega
            go_wp2
            go_ret2
            exact ⟨ret_two (by rw [HC0.out]; rfl) (by rw [HN0.out]; rfl), rfl⟩
        · have hb1 : 128 ≤ (x.toNat : Int) := by omega
          have hb2 : (x.toNat : Int) < 192 := by omega
          have hgm : 128 ≤ U.g l m ∧ U.g l m < 192 := by rw [HX.out]; omega
          have HV := Lib.hid (val_next l c m hm1 hgm.1)
          have HGM := Lib.hid hgm
          clear hgm hbad
          first
          | have hmk : (m : Int) < 2 := by have := HN.out; omega
          | have hmk : (m : Int) < 3 := by have := HN.out; omega
          | have hmk : (m : Int) < 4 := by have := HN.out; omega
          go_wp2
          go_round
          case rel =>
            refine ⟨m + 1, by omega, by omega, by go_num, ?_, fun j h1 h2 => ?_⟩
            · rw [HV.out, HX.out]
            · by_cases hj : j = m
              · rw [hj]; exact HGM.out
              · exact HGood.out j h1 (by omega)
          case measure => simp [intOf]; omega
      · obtain rfl : m = n := by omega
        have hf := U.dec_full l m c low HL.out (by rw [HLL.out]; omega) HGood.out
        rw [HD.out] at hf
        have HF := Lib.hid hf
        obtain ⟨v, hvv⟩ : ∃ v, U.val l c (m - 1) = v := ⟨_, rfl⟩
        rw [hvv] at HF hv ⊢
        clear hf hvv HGood hmn
        have HFF : Hid ((v < low ∨ 1114111 < v ∨ 55296 ≤ v ∧ v < 57344) → C = 0 ∧ N = 0) := fun hh => by
          have h := HF.out
          rw [if_pos hh] at h
          injection h with h1 h2
          exact ⟨h1, h2⟩
        have HFG : Hid (¬ (v < low ∨ 1114111 < v ∨ 55296 ≤ v ∧ v < 57344) → C = v ∧ N = m) := fun hh => by
          have h := HF.out
          rw [if_neg hh] at h
          injection h with h1 h2
          exact ⟨h1, h2⟩
        first
        | have hmk : 4 ≤ (m : Int) := by have := HN.out; omega
        | have hmk : 3 ≤ (m : Int) := by have := HN.out; omega
        | have hmk : 2 ≤ (m : Int) := by have := HN.out; omega
        go_wp2
        all_goals go_ret2
        all_goals refine ⟨ret_two ?_ ?_, rfl⟩
        all_goals first
          | (have h := HFF.out (by have := HLow.out; omega); rw [h.1]; rfl)
          | (have h := HFF.out (by have := HLow.out; omega); rw [h.2]; rfl)
          | (have h := HFG.out (by have := HLow.out; omega); rw [h.1])
          | (have h := HFG.out (by have := HLow.out; omega); rw [h.2, HN.out]; rfl)
end Go.Proofs.YtdilngjolhmjnaaGreatDoor
