/- What utf.Next answers of every text and place, and what it leaves of the world. Condition: the two tables of unicode/utf8 hold what they were laid with. -/
import Derived.Test.YtmndmnajgfabnaaDoorW1
namespace Go.Proofs.YtmndmnajgfabnaaDoor
open Go.RowKit Go.Shelf
set_option linter.unusedVariables false

abbrev ls (s : ByteArray) : List UInt8 := s.data.toList
theorem ls_length (s : ByteArray) : (ls s).length = s.size := Array.length_toList
theorem get!_ls (s : ByteArray) (k : Nat) : (s.get! k).toNat = U.g (ls s) k := by
  unfold U.g ls
  cases s with
  | mk a =>
    show (a[k]!).toNat = _
    simp [List.getD_eq_getElem?_getD, Array.getElem!_eq_getD]
    rfl
theorem decodeGo_ls (s : ByteArray) (h : s.size ≠ 0) : Lib.decodeGo s = U.decL (ls s) := by
  unfold Lib.decodeGo U.decL
  rw [if_neg h, Lib.decode_at, get!_ls, get!_ls, get!_ls, get!_ls, ls_length]
  rfl
theorem ls_extract (s : ByteArray) (i : Nat) : ls (s.extract i s.size) = (ls s).drop i := by
  show (s.extract i s.size).data.toList = s.data.toList.drop i
  rw [Lib.extract_data]
  exact List.take_of_length_le (by rw [List.length_drop]; exact Nat.le_of_eq (by rw [← ls_length]))
/-- The character at place i of a text, and its bytes; 0 bytes: none. -/
def nextAt (l : List UInt8) (i : Int) : Nat × Nat := if 0 ≤ i ∧ i < l.length then U.dec (l.drop i.toNat) else (0, 0)

theorem dec_pos_go (s : ByteArray) (i : Nat) (hi : i < s.size) (c n : Nat) (h : U.dec ((ls s).drop i) = (c, n + 1)) : Lib.decodeGo (s.extract i s.size) = (c, n + 1) ∧ ¬ (c = 65533 ∧ n + 1 = 1) := by
  have hl : (ls (s.extract i s.size)).length = s.size - i := by rw [ls_extract, List.length_drop, ls_length]
  have hz : (s.extract i s.size).size ≠ 0 := by rw [← ls_length, hl]; omega
  rw [decodeGo_ls _ hz, ls_extract]
  unfold U.dec at h
  split at h
  · cases h
  · rename_i hn
    refine ⟨h, ?_⟩
    rintro ⟨rfl, hn1⟩
    apply hn
    right
    rw [h, hn1]
theorem dec_zero_go (s : ByteArray) (i : Nat) (hi : i < s.size) (c : Nat) (h : U.dec ((ls s).drop i) = (c, 0)) : Lib.decodeGo (s.extract i s.size) = (65533, 1) := by
  have hl : (ls (s.extract i s.size)).length = s.size - i := by rw [ls_extract, List.length_drop, ls_length]
  have hz : (s.extract i s.size).size ≠ 0 := by rw [← ls_length, hl]; omega
  rw [decodeGo_ls _ hz, ls_extract]
  unfold U.dec at h
  split at h
  · rename_i hn
    rcases hn with hn | hn
    · have := congrArg List.length hn
      rw [List.length_drop, ls_length] at this
      simp at this
      omega
    · exact hn
  · exfalso
    have hp : (U.decL ((ls s).drop i)).2 ≠ 0 := by
      unfold U.decL Lib.decodeN
      repeat' split
      all_goals simp
    rw [h] at hp
    exact hp rfl

set_option maxHeartbeats 1000000 in
theorem next_ok (s : ByteArray) (hs : s.size ≤ 140737488355328) (i : Nat) (hi : i < s.size) (c n : Nat) (h : U.dec ((ls s).drop i) = (c, n + 1)) (w : World) (hT : Lib.Utf8Tabs 1 2 w) :
    Calls Tryd.prog 60 #[.string s, .int .i64 (i : Int)] w fun e w' => e = .returned (.tuple #[.int .i64 (c : Int), .int .i64 ((n + 1 : Nat) : Int), .bool true]) ∧ Below w.heap.size w w' := by
  obtain ⟨hd, hne⟩ := dec_pos_go s i hi c n h
  have cd := Tryd.utf8_DecodeRuneInString (s.extract i s.size) w hT
  rw [hd] at cd
  have hc : c ≤ 1114111 := by
    obtain ⟨h1, _⟩ := U.enc_dec _ c n h
    unfold U.scalar at h1
    omega
  clear hd h
  have h1 : (i : Int) < (s.size : Int) := by omega
  obtain ⟨m, rfl⟩ : ∃ m, n + 1 = m := ⟨_, rfl⟩
  by_cases hcf : c = 65533
  · have hm : ((n + 1 : Nat) : Int) ≠ 1 := by omega
    subst hcf
    go_enter Tryd.func60, Tryd.ntmps60
    go_wp2_with fail
    refine cd.mono ?_
    rintro e w1 ⟨rfl, hb⟩
    go_wp2
    go_ret3
    exact ⟨rfl, hb⟩
  · have hcz : (c : Int) ≠ 65533 := by omega
    go_enter Tryd.func60, Tryd.ntmps60
    go_wp2_with fail
    refine cd.mono ?_
    rintro e w1 ⟨rfl, hb⟩
    go_wp2
    go_ret3
    exact ⟨rfl, hb⟩

set_option maxHeartbeats 1000000 in
theorem next_no (s : ByteArray) (hs : s.size ≤ 140737488355328) (i : Int) (c : Nat) (h : nextAt (ls s) i = (c, 0)) (w : World) (hT : Lib.Utf8Tabs 1 2 w) :
    Calls Tryd.prog 60 #[.string s, .int .i64 i] w fun e w' => e = .returned (.tuple #[.int .i64 0, .int .i64 0, .bool false]) ∧ Below w.heap.size w w' := by
  by_cases h0 : i < 0
  · clear h
    go_enter Tryd.func60, Tryd.ntmps60
    go_wp2
    go_ret3
    exact ⟨rfl, Below.refl _ _⟩
  · by_cases h1 : i < (s.size : Int)
    · obtain ⟨k, rfl⟩ : ∃ k : Nat, i = k := ⟨i.toNat, by omega⟩
      unfold nextAt at h
      rw [if_pos ⟨by omega, by rw [ls_length]; omega⟩] at h
      have hd := dec_zero_go s k (by omega) c (by simpa using h)
      have cd := Tryd.utf8_DecodeRuneInString (s.extract k s.size) w hT
      rw [hd] at cd
      clear h hd
      go_enter Tryd.func60, Tryd.ntmps60
      go_wp2_with fail
      refine cd.mono ?_
      rintro e w1 ⟨rfl, hb⟩
      go_wp2
      go_ret3
      exact ⟨rfl, hb⟩
    · clear h
      have h2 : (s.size : Int) ≤ i := by omega
      go_enter Tryd.func60, Tryd.ntmps60
      go_wp2
      go_ret3
      exact ⟨rfl, Below.refl _ _⟩
end Go.Proofs.YtmndmnajgfabnaaDoor
