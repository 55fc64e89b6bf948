/- The law's own look whether a text may stand in a document. Conditions: those that each theorem names. -/
import Derived.Test.YtdilngjolhmjnaaGreatDoorChar
import Derived.Test.YtdilngjolhmjnaaGreatDoorLawLines
import Derived.Deep.QuietTactic
import Derived.BigQuiet
namespace Go.Proofs.YtdilngjolhmjnaaGreatDoor
open Go.RowKit Go.Shelf
set_option linter.all false

theorem char_any (s : ByteArray) (hs : s.size ≤ 140737488355328) (i : Int) (C N : Nat) (h : nextAt (ls s) i = (C, N)) (w : World) :
    Calls Tryz.prog 31 #[.string s, .int .i64 i] w fun e w' => e = .returned (.tuple #[.int .i64 (C : Int), .int .i64 (N : Int)]) ∧ w = w' := by
  by_cases ho : i < 0 ∨ (s.size : Int) ≤ i
  · rw [nextAt_out s i ho] at h
    injection h with h1 h2
    subst h1 h2
    exact char_out s i hs ho w
  · obtain ⟨k, rfl⟩ : ∃ k : Nat, i = k := ⟨i.toNat, by omega⟩
    have hk : k < s.size := by omega
    rw [nextAt_in s k hk] at h
    have hg : U.g ((ls s).drop k) 0 = (s[k]).toNat := g_drop s k 0 (by omega)
    have hlen : ((ls s).drop k).length = s.size - k := by rw [List.length_drop, ls_length]
    have hne : (ls s).drop k ≠ [] := by intro e; rw [e] at hlen; simp at hlen; omega
    have hlt := (s[k]).toNat_lt
    by_cases h1 : (s[k]).toNat < 128
    · rw [U.dec_ascii _ hne (by rw [hg]; exact h1), hg] at h
      injection h with e1 e2
      subst e1 e2
      exact char_ascii s k hs hk _ rfl (by omega) w
    · by_cases h2 : (s[k]).toNat < 192 ∨ 248 ≤ (s[k]).toNat
      · rw [U.dec_badlead _ (by rw [hg]; omega)] at h
        injection h with e1 e2
        subst e1 e2
        exact char_bad s k hs hk _ rfl (by omega) w
      · have hL : ∃ n c low, U.Lead (s[k]).toNat n c low := by
          unfold U.Lead
          by_cases h3 : (s[k]).toNat < 224
          · exact ⟨2, _, 128, .inl ⟨by omega, h3, rfl, rfl, rfl⟩⟩
          · by_cases h4 : (s[k]).toNat < 240
            · exact ⟨3, _, 2048, .inr (.inl ⟨by omega, h4, rfl, rfl, rfl⟩)⟩
            · exact ⟨4, _, 65536, .inr (.inr ⟨by omega, by omega, rfl, rfl, rfl⟩)⟩
        obtain ⟨n, c, low, hL⟩ := hL
        by_cases hn : k + n ≤ s.size
        · exact char_full s k hs hk _ rfl n c low hL hn C N h w
        · rw [U.dec_short _ n c low (by rw [hg]; exact hL) (by rw [hlen]; omega)] at h
          injection h with e1 e2
          subst e1 e2
          exact char_short s k hs hk _ rfl n c low hL (by omega) w
/-- A text of characters that may stand in a document, or come back out of a number. -/
def Plain (d : List UInt8) : Prop := ∃ cs : List Nat, U.n8 cs = d ∧ ∀ c ∈ cs, U.scalar c ∧ (K.allowed c = true ∨ c = 13)
def PlnRel (d : List UInt8) (w : World) (g : Nat) (iv : Value) (wr : World) : Prop :=
  ∃ (i : Nat) (acc : List Nat), iv = .int .i64 (i : Int) ∧ d.length - i = g ∧ i ≤ d.length ∧ U.n8 acc = d.take i ∧ (∀ c ∈ acc, U.scalar c ∧ (K.allowed c = true ∨ c = 13)) ∧ Below w.heap.size w wr

theorem plain_next {d : List UInt8} {i m c : Nat} {acc : List Nat} {w wr : World} (hacc : U.n8 acc = d.take i) (hok : ∀ c ∈ acc, U.scalar c ∧ (K.allowed c = true ∨ c = 13)) (hsc : U.scalar c) (hen : (U.enc c).length = m + 1)
    (hdr : d.drop i = U.enc c ++ (d.drop i).drop (m + 1)) (h : K.allowed c = true ∨ c = 13) (hmi : i + (m + 1) ≤ d.length) (hb : Below w.heap.size w wr) : PlnRel d w (d.length - (i + (m + 1))) (.int .i64 ((i + (m + 1) : Nat) : Int)) wr := by
  refine ⟨i + (m + 1), acc ++ [c], rfl, rfl, hmi, ?_, ?_, hb⟩
  · rw [U.n8_append, hacc, show U.n8 [c] = U.enc c by simp [U.n8], List.take_add, hdr, ← hen, List.take_left']
    rfl
  · intro x hx
    rcases List.mem_append.1 hx with hx | hx
    · exact hok x hx
    · simp only [List.mem_singleton] at hx
      subst hx
      exact ⟨hsc, h⟩
theorem pln_cast {d : List UInt8} {w wr : World} {g : Nat} {a b : Value} (h : PlnRel d w g a wr) (e : b = a) : PlnRel d w g b wr := by rw [e]; exact h

set_option maxHeartbeats 16000000 in
set_option maxRecDepth 100000 in
theorem plain_any (d : List UInt8) (hs : d.length ≤ 1000) (w : World) :
    Calls Tryz.prog 14 #[.string (bs d)] w fun e w' => ∃ r : Bool, e = .returned (.bool r) ∧ (r = true → Plain d) ∧ Below w.heap.size w w' := by
  have hsz := bs_size d
  have hls : ls (bs d) = d := by simp [ls, bs]
  go_enter Tryz.func14, Tryz.ntmps14
  go_wp2
  go_loopg [3] d.length (fun g iv wr => PlnRel d w g iv wr)
  case atStart => exact ⟨0, [], rfl, rfl, Nat.zero_le _, rfl, (fun c hc => by cases hc), Below.refl _ _⟩
  case round =>
    obtain ⟨i, acc, rfl, hg, him, hacc, hok, hbel⟩ := hrel
    have HBel := Lib.hid hbel
    have HACC := Lib.hid hacc
    have HOK := Lib.hid hok
    clear hbel hacc hok
    by_cases hlt : i < d.length
    · have hlts : (i : Int) < ((bs d).size : Int) := by omega
      obtain ⟨c, n, hcn⟩ : ∃ c n, U.dec (d.drop i) = (c, n) := ⟨_, _, rfl⟩
      have hna : nextAt (ls (bs d)) (i : Int) = (c, n) := by rw [nextAt_in _ i (by omega), hls, hcn]
      have hch := char_any (bs d) (by omega) (i : Int) c n hna wr
      have HCN := Lib.hid hcn
      have HCH := Lib.hid hch
      clear hcn hna hch hls
      cases n with
      | zero =>
        have hch := HCH.out
        go_wp2_with (go_at_call 31; refine hch.mono ?_; rintro e w' ⟨rfl, rfl⟩)
        go_ret
        exact ⟨false, rfl, (fun h => by cases h), HBel.out⟩
      | succ m =>
        obtain ⟨hsc, hen, hdr⟩ := U.enc_dec _ c m HCN.out
        have hle := U.dec_le (d.drop i)
        rw [HCN.out, List.length_drop] at hle
        have hc31 : c < 2147483648 := by unfold U.scalar at hsc; omega
        have hal := fun W => refAllowed_any c hc31 W
        have HAL := Lib.hid hal
        have hch := HCH.out
        have HSC := Lib.hid hsc
        have HDR := Lib.hid hdr
        have HEN := Lib.hid hen
        have hm0 : ((m : Int) + 1 == 0) = false := by rw [beq_eq_false_iff_ne]; omega
        have hmi : i + (m + 1) ≤ d.length := by omega
        have htk : ∀ (h : K.allowed c = true ∨ c = 13), PlnRel d w (d.length - (i + (m + 1))) (.int .i64 ((i + (m + 1) : Nat) : Int)) wr := fun h => plain_next HACC.out HOK.out HSC.out HEN.out HDR.out h hmi HBel.out
        have HTK := Lib.hid htk
        clear hal hsc hdr hen htk
        by_cases hA : K.allowed c = true
        · have hA2 : ∀ W, Calls Tryz.prog 32 #[.int .i64 (c : Int)] W fun e w' => e = .returned (.bool true) ∧ W = w' := fun W => by have h := HAL.out W; rw [hA] at h; exact h
          have HA2 := Lib.hid hA2
          have HTA := Lib.hid (HTK.out (.inl hA))
          clear hA hA2
          go_wp2_with (first | (go_at_call 31; refine hch.mono ?_; rintro e w' ⟨rfl, rfl⟩) | (go_at_call 32; refine (HA2.out _).mono ?_; rintro e w' ⟨rfl, rfl⟩))
          go_roundg (d.length - (i + (m + 1)))
          case measure => omega
          case rel => exact pln_cast HTA.out (by go_num)
        · have hA' : K.allowed c = false := by simpa using hA
          have hA2 : ∀ W, Calls Tryz.prog 32 #[.int .i64 (c : Int)] W fun e w' => e = .returned (.bool false) ∧ W = w' := fun W => by have h := HAL.out W; rw [hA'] at h; exact h
          have HA2 := Lib.hid hA2
          clear hA hA2 hA'
          by_cases h13 : c = 13
          · have HTA := Lib.hid (HTK.out (.inr h13))
            subst h13
            go_wp2_with (first | (go_at_call 31; refine hch.mono ?_; rintro e w' ⟨rfl, rfl⟩) | (go_at_call 32; refine (HA2.out _).mono ?_; rintro e w' ⟨rfl, rfl⟩))
            go_roundg (d.length - (i + (m + 1)))
            case measure => omega
            case rel => exact pln_cast HTA.out (by go_num)
          · have n13 : ((c : Int) == 13) = false := by rw [beq_eq_false_iff_ne]; omega
            have n13' : (c == 13) = false := by rw [beq_eq_false_iff_ne]; omega
            go_wp2_with (first | (go_at_call 31; refine hch.mono ?_; rintro e w' ⟨rfl, rfl⟩) | (go_at_call 32; refine (HA2.out _).mono ?_; rintro e w' ⟨rfl, rfl⟩))
            go_ret
            exact ⟨false, rfl, (fun h => by cases h), HBel.out⟩
    · have hie : d.take i = d := List.take_of_length_le (by omega)
      have hge : ((bs d).size : Int) ≤ (i : Int) := by omega
      have HIE := Lib.hid hie
      clear hie
      go_wp2
      go_ret
      exact ⟨true, rfl, fun _ => ⟨acc, HACC.out.trans HIE.out, HOK.out⟩, HBel.out⟩
end Go.Proofs.YtdilngjolhmjnaaGreatDoor
