/- What strings.Builder's writers do to a builder that the call itself has made: one byte, or one character's bytes, go in behind what it holds; below the call's own blocks nothing turns. Condition: at most 2^47 bytes in all. What utf.Next answers of every text and place, and what it leaves of the world. Condition: the two tables of unicode/utf8 hold what they were laid with. What the small functions on wide texts answer: a unit, a length, a part. What utf.Wide answers of every text of at most 1000000 bytes: the units of its characters, or the place of the first fault; below the call's own blocks nothing turns. Condition: the two tables of unicode/utf8 hold what they were laid with. -/
import Derived.Test.YtmhoebbdapjpeaaDoorShelf
import Derived.Test.YtmhoebbdapjpeaaDoorChecked
import Derived.Test.YtmhoebbdapjpeaaDoorY1
import Derived.Lib.FrozenHead2
import Derived.Lib.Hide
import Derived.Deep.QuietTactic
import Derived.BigQuiet
import Derived.IntWalk
import Derived.WalkKit
import Derived.WalkLawsBesides
import Derived.Outline
namespace Go.Proofs.YtmhoebbdapjpeaaDoor
open Go.RowKit Go.Shelf

theorem X72 : Builder.X72 Tryd.prog Tryd.lays169_ren where
  sizeBuilder := by kernel_rfl
  liesBuilder := by kernel_rfl

set_option maxHeartbeats 1000000 in
set_option maxRecDepth 100000 in
theorem copyCheck_used (b : Nat) (w : World) (h0 : w.cell? ⟨b, 0, none⟩ = some (.pointer (some ⟨b, 0, none⟩))) :
    Calls Tryd.prog 91 #[.pointer (some ⟨b, 0, none⟩)] w fun e w' => e = .returned (.tuple #[]) ∧ w = w' := by
  obtain ⟨j, hj, _⟩ := Option.map_eq_some_iff.1 X72.sizeBuilder
  go_enter Tryd.func91, Tryd.ntmps91
  go_wp2
  rw [Lib.run_neq_ptr_same w _ Tryd.underlying104 hj]
  go_wp2
  go_end0
  exact ⟨rfl, rfl⟩

set_option maxHeartbeats 1000000 in
set_option maxRecDepth 100000 in
theorem copyCheck_fresh (b : Nat) (w : World) (h0 : w.cell? ⟨b, 0, none⟩ = some (.pointer none)) (hsh : w.shape? b = some (107, 2)) (hfz : w.frozen? ⟨b, 0, none⟩ = false) :
    Calls Tryd.prog 91 #[.pointer (some ⟨b, 0, none⟩)] w fun e w' => e = .returned (.tuple #[]) ∧ w.setCell ⟨b, 0, none⟩ (.pointer (some ⟨b, 0, none⟩)) = w' := by
  obtain ⟨j, hj, hjs⟩ := Option.map_eq_some_iff.1 X72.sizeBuilder
  go_enter Tryd.func91, Tryd.ntmps91
  go_wp2
  rw [Lib.run_to_unsafe w ⟨b, 0, none⟩ Tryd.underlying104 Tryd.underlying146 hj (by rw [hjs]; decide) hsh (Nat.zero_lt_succ 1)]
  simp only [Result.andThen]
  rw [Oper.upon_value]
  go_wp2
  rw [run_callFunc_extern Tryd.func97 (by kernel_rfl) (by kernel_rfl) (by kernel_rfl) (e := Extern.AbiNoEscape.same) (by kernel_rfl)]
  rw [Lib.run_noEscape]
  simp only [Result.andThen]
  rw [Oper.upon_value]
  go_wp2
  rw [Lib.run_from_unsafe w ⟨b, 0, none⟩ Tryd.underlying146 Tryd.underlying104 hj hsh X72.liesBuilder]
  simp only [Result.andThen]
  rw [Oper.upon_value]
  go_wp2
  go_end0
  exact ⟨rfl, rfl⟩

theorem copyCheck_any (B b : Nat) (bs : List Value) (w : World) (h : Lib.IsBuilderF 107 5 B b bs w) :
    Calls Tryd.prog 91 #[.pointer (some ⟨b, 0, none⟩)] w fun e w' => e = .returned (.tuple #[]) ∧ (Lib.BuilderAtF 107 5 B b (.pointer (some ⟨b, 0, none⟩)) bs w' ∧ Below B w w') := by
  rcases h with h | h
  · refine (copyCheck_fresh b w h.cell0 h.shape h.frozen0).mono ?_
    rintro e w' ⟨rfl, rfl⟩
    exact ⟨rfl, h.used _, (Below.refl B w).setCell (p := ⟨b, 0, none⟩) h.1 _⟩
  · refine (copyCheck_used b w h.cell0).mono ?_
    rintro e w' ⟨rfl, rfl⟩
    exact ⟨rfl, h, Below.refl B _⟩

set_option maxHeartbeats 2000000 in
set_option maxRecDepth 100000 in
theorem writeByte_any (B b : Nat) (bs : List Value) (c : Int) (w : World) (h : Lib.IsBuilderF 107 5 B b bs w) (hlen : bs.length + 1 ≤ 140737488355328) (hBw : B ≤ w.heap.size) :
    Calls Tryd.prog 81 #[.pointer (some ⟨b, 0, none⟩), .int .u8 c] w fun e w' => e = .returned .nilIface ∧ (Lib.BuilderAtF 107 5 B b (.pointer (some ⟨b, 0, none⟩)) (bs ++ [.int .u8 c]) w' ∧ Below B w w') := by
  obtain ⟨i0, hi, hz0, hz1, hz2⟩ := info_parts Tryd.Builder_Extra_169.infoByte
  go_enter Tryd.func81, Tryd.ntmps81
  go_wp2_with (go_at_call 91; refine (copyCheck_any B b bs _ h).mono ?_)
  rintro e w1 ⟨rfl, h1, hb1⟩
  obtain ⟨hB, v, hbk, hown, hne⟩ := h1
  have c0 : w1.cell? ⟨b, 0, none⟩ = some (.pointer (some ⟨b, 0, none⟩)) := by rw [Lib.cell_of_heap hbk]; rfl
  have c1 : w1.cell? ⟨b, 1, none⟩ = some v := by rw [Lib.cell_of_heap hbk]; rfl
  go_wp2_with (at_builtin; refine wpList_append_ownF _ rfl _ _ 105 rfl B 5 i0 (.int .u8 0) 1 1 Tryd.underlying105 hi hz0 hz1 hz2 rfl (by decide) _ _ _ rfl (hown.alloc _) ⟨w1.heap.size, 0, none⟩ 1 1 [.int .u8 c] rfl rfl ?c1 ?c2 ?c3 ?c4 ?c5 ?_)
  case c1 =>
    intro j u hj
    match j, hj with
    | 0, hj => simp at hj; subst hj; simp [Addr.add]
  case c2 => intro u hu; simp at hu; subst hu; rfl
  case c3 => unfold maxLen; omega
  case c4 => omega
  case c5 => have := hb1.size; simp; omega
  intro v' w2 hown' hgrow _
  have hlt : b < w1.heap.size := by
    rcases Nat.lt_or_ge b w1.heap.size with h' | h'
    · exact h'
    · simp [Array.getElem?_eq_none h'] at hbk
  have hb2 : w2.heap[b]? = some (.cells #[.pointer (some ⟨b, 0, none⟩), v] 107 (0, 0)) := by
    rw [hgrow.block b (by simp; omega) (fun e => hne e.symm), Lib.alloc_old w1 _ b hlt]
    exact hbk
  have d0 : w2.cell? ⟨b, 0, none⟩ = some (.pointer (some ⟨b, 0, none⟩)) := by rw [Lib.cell_of_heap hb2]; rfl
  have d1 : w2.cell? ⟨b, 1, none⟩ = some v := by rw [Lib.cell_of_heap hb2]; rfl
  have f1 : w2.frozen? ⟨b, 1, none⟩ = false := Lib.frozen_of_heap hb2 1
  obtain ⟨g, cap, rfl⟩ : ∃ g cap, v' = .slice (some ⟨g, 0, none⟩) (bs.length + 1) cap := by
    rcases hown'.2 with ⟨_, h0⟩ | ⟨g, cap, cur, fz, hv, _⟩
    · omega
    · exact ⟨g, cap, hv⟩
  go_wp2
  go_ret
  refine ⟨rfl, ?_, ?_⟩
  · exact Lib.BuilderAtF.put (T := 107) (e := 5) hB hb2 (bs' := bs ++ [.int .u8 c]) (by simpa using hown') Tryd.Builder_Extra_169.neB5
  · exact ((hb1.alloc (by have := hb1.size; omega) _).grown hgrow (by have := hb1.size; simp; omega) (fun k hk => (hown.lt k hk).1)).setCell (p := ⟨b, 1, none⟩) hB _

theorem byteCells_append (a b : List UInt8) : Lib.byteCells (a ++ b) = Lib.byteCells a ++ Lib.byteCells b := by simp [Lib.byteCells]
theorem be_length (u : Nat) : (U.be u).length = 2 := rfl
theorem byteCells_be (z : Int) (h0 : 0 ≤ z) (h1 : z < 65536) : Lib.byteCells (U.be z.toNat) = [.int .u8 (z / 256), .int .u8 (z % 256)] := by
  simp only [Lib.byteCells, U.be, List.map_cons, List.map_nil, U.ofNat_toNat _ (show z.toNat / 256 < 256 by omega), U.ofNat_toNat _ (show z.toNat % 256 < 256 by omega)]
  rw [show ((z.toNat / 256 : Nat) : Int) = z / 256 by omega, show ((z.toNat % 256 : Nat) : Int) = z % 256 by omega]

theorem i32_and1023 (x : Int) (h0 : 0 ≤ x) (h1 : x < 2147483648) : bits .and .i32 x 1023 = x % 1024 := bits_mask .i32 31 (by decide) wraps_i32 10 (by decide) x h0 h1
theorem wraps_i64 (n : Int) (h₀ : 0 ≤ n) (h₁ : n < 2 ^ 63) : IntKind.i64.wrap n = n := by rw [IntKind.wrap_i64]; omega
theorem i64_join8 (x y : Int) (hx0 : 0 ≤ x) (hx : x % 256 = 0) (hx1 : x < 9223372036854775808) (h0 : 0 ≤ y) (h1 : y < 256) : bits .or .i64 x y = x + y :=
  bits_join .i64 63 (by decide) wraps_i64 8 x y hx0 hx hx1 h0 h1 (by omega)

set_option maxHeartbeats 1000000 in
theorem writeUnit_any (B b : Nat) (z : Int) (h0 : 0 ≤ z) (h1 : z < 65536) (bs : List Value) (w : World) (h : Lib.IsBuilderF 107 5 B b bs w) (hlen : bs.length + 2 ≤ 140737488355328) (hBw : B ≤ w.heap.size) :
    Calls Tryd.prog 73 #[.pointer (some ⟨b, 0, none⟩), .int .i32 z] w fun e w' => e = .returned (.tuple #[]) ∧ (Lib.BuilderAtF 107 5 B b (.pointer (some ⟨b, 0, none⟩)) (bs ++ Lib.byteCells (U.be z.toNat)) w' ∧ Below B w w') := by
  have HC := Lib.hid (byteCells_be z h0 h1)
  go_enter Tryd.func73, Tryd.ntmps73
  go_wp2_with (go_at_call 81; refine (writeByte_any B b bs _ _ h (by omega) hBw).mono ?_)
  rintro e w1 ⟨rfl, h1, hb1⟩
  go_wp2_with (go_at_call 81; refine (writeByte_any B b _ _ _ (.inr h1) (by rw [List.length_append]; simp only [List.length_cons, List.length_nil]; omega) (by have := hb1.size; omega)).mono ?_)
  rintro e w2 ⟨rfl, h2, hb2⟩
  go_wp2
  go_end0
  refine ⟨rfl, ?_, hb1.trans hb2⟩
  rw [HC.out]
  rw [List.append_assoc] at h2
  exact h2

set_option maxHeartbeats 1000000 in
theorem writeCharacter_any (B b : Nat) (c : Nat) (hc : c ≤ 1114111) (bs : List Value) (w : World) (h : Lib.IsBuilderF 107 5 B b bs w) (hlen : bs.length + 4 ≤ 140737488355328) (hBw : B ≤ w.heap.size) :
    Calls Tryd.prog 61 #[.pointer (some ⟨b, 0, none⟩), .int .i32 (c : Int)] w fun e w' => e = .returned (.tuple #[]) ∧ (Lib.IsBuilderF 107 5 B b (bs ++ Lib.byteCells ((U.units c).flatMap U.be)) w' ∧ Below B w w') := by
  by_cases hc1 : c < 65536
  · have hu := Lib.hid (U.units_one c hc1)
    have hz : (c : Int) < 65536 := by omega
    go_enter Tryd.func61, Tryd.ntmps61
    go_wp2_with fail
    refine (writeUnit_any B b _ (by omega) hz bs _ h (by omega) hBw).mono ?_
    rintro e w1 ⟨rfl, h1, hb1⟩
    go_wp2
    refine bodyPost_ret (v := .tuple #[]) (by simp [results, Tryd.results61, go_sem]) rfl ⟨rfl, .inr ?_, hb1⟩
    rw [hu.out]
    simpa using h1
  · have hz : ¬ (c : Int) < 65536 := by omega
    have hm := i32_and1023 ((c : Int) - 65536) (by omega) (by omega)
    have HE : Hid (bs ++ Lib.byteCells (U.be (55296 + ((c : Int) - 65536) / 1024).toNat) ++ Lib.byteCells (U.be (56320 + ((c : Int) - 65536) % 1024).toNat) = bs ++ Lib.byteCells ((U.units c).flatMap U.be)) := by
      show _ = _
      unfold U.units
      rw [if_neg hc1, show (55296 + ((c : Int) - 65536) / 1024).toNat = 55296 + (c - 65536) / 1024 by omega, show (56320 + ((c : Int) - 65536) % 1024).toNat = 56320 + (c - 65536) % 1024 by omega]
      simp [byteCells_append]
    go_enter Tryd.func61, Tryd.ntmps61
    go_wp2_with fail
    refine (writeUnit_any B b _ (by omega) (by omega) bs _ h (by omega) hBw).mono ?_
    rintro e w1 ⟨rfl, h1, hb1⟩
    go_wp2_with fail
    refine (writeUnit_any B b _ (by omega) (by omega) _ _ (.inr h1) (by rw [List.length_append, Lib.byteCells_length, be_length]; omega) (by have := hb1.size; omega)).mono ?_
    rintro e w2 ⟨rfl, h2, hb2⟩
    go_wp2
    go_end0
    refine ⟨rfl, .inr ?_, hb1.trans hb2⟩
    rw [← HE.out]
    exact h2
end Go.Proofs.YtmhoebbdapjpeaaDoor
namespace Go.Proofs.YtmhoebbdapjpeaaDoor
open Go.RowKit Go.Shelf
set_option linter.unusedVariables false

abbrev ls (s : ByteArray) : List UInt8 := s.data.toList
theorem ls_length (s : ByteArray) : (ls s).length = s.size := Array.length_toList
theorem get!_ls (s : ByteArray) (k : Nat) : (s.get! k).toNat = U.g (ls s) k := by
  unfold U.g ls
  cases s with
  | mk a =>
    show (a[k]!).toNat = _
    simp [List.getD_eq_getElem?_getD, Array.getElem!_eq_getD]
    rfl
theorem decodeGo_ls (s : ByteArray) (h : s.size ≠ 0) : Lib.decodeGo s = U.decL (ls s) := by
  unfold Lib.decodeGo U.decL
  rw [if_neg h, Lib.decode_at, get!_ls, get!_ls, get!_ls, get!_ls, ls_length]
  rfl
theorem ls_extract (s : ByteArray) (i : Nat) : ls (s.extract i s.size) = (ls s).drop i := by
  show (s.extract i s.size).data.toList = s.data.toList.drop i
  rw [Lib.extract_data]
  exact List.take_of_length_le (by rw [List.length_drop]; exact Nat.le_of_eq (by rw [← ls_length]))
/-- The character at place i of a text, and its bytes; 0 bytes: none. -/
def nextAt (l : List UInt8) (i : Int) : Nat × Nat := if 0 ≤ i ∧ i < l.length then U.dec (l.drop i.toNat) else (0, 0)

theorem dec_pos_go (s : ByteArray) (i : Nat) (hi : i < s.size) (c n : Nat) (h : U.dec ((ls s).drop i) = (c, n + 1)) : Lib.decodeGo (s.extract i s.size) = (c, n + 1) ∧ ¬ (c = 65533 ∧ n + 1 = 1) := by
  have hl : (ls (s.extract i s.size)).length = s.size - i := by rw [ls_extract, List.length_drop, ls_length]
  have hz : (s.extract i s.size).size ≠ 0 := by rw [← ls_length, hl]; omega
  rw [decodeGo_ls _ hz, ls_extract]
  unfold U.dec at h
  split at h
  · cases h
  · rename_i hn
    refine ⟨h, ?_⟩
    rintro ⟨rfl, hn1⟩
    apply hn
    right
    rw [h, hn1]
theorem dec_zero_go (s : ByteArray) (i : Nat) (hi : i < s.size) (c : Nat) (h : U.dec ((ls s).drop i) = (c, 0)) : Lib.decodeGo (s.extract i s.size) = (65533, 1) := by
  have hl : (ls (s.extract i s.size)).length = s.size - i := by rw [ls_extract, List.length_drop, ls_length]
  have hz : (s.extract i s.size).size ≠ 0 := by rw [← ls_length, hl]; omega
  rw [decodeGo_ls _ hz, ls_extract]
  unfold U.dec at h
  split at h
  · rename_i hn
    rcases hn with hn | hn
    · have := congrArg List.length hn
      rw [List.length_drop, ls_length] at this
      simp at this
      omega
    · exact hn
  · exfalso
    have hp : (U.decL ((ls s).drop i)).2 ≠ 0 := by
      unfold U.decL Lib.decodeN
      repeat' split
      all_goals simp
    rw [h] at hp
    exact hp rfl

set_option maxHeartbeats 1000000 in
theorem next_ok (s : ByteArray) (hs : s.size ≤ 140737488355328) (i : Nat) (hi : i < s.size) (c n : Nat) (h : U.dec ((ls s).drop i) = (c, n + 1)) (w : World) (hT : Lib.Utf8Tabs 1 2 w) :
    Calls Tryd.prog 60 #[.string s, .int .i64 (i : Int)] w fun e w' => e = .returned (.tuple #[.int .i64 (c : Int), .int .i64 ((n + 1 : Nat) : Int), .bool true]) ∧ Below w.heap.size w w' := by
  obtain ⟨hd, hne⟩ := dec_pos_go s i hi c n h
  have cd := Tryd.utf8_DecodeRuneInString (s.extract i s.size) w hT
  rw [hd] at cd
  have hc : c ≤ 1114111 := by
    obtain ⟨h1, _⟩ := U.enc_dec _ c n h
    unfold U.scalar at h1
    omega
  clear hd h
  have h1 : (i : Int) < (s.size : Int) := by omega
  obtain ⟨m, rfl⟩ : ∃ m, n + 1 = m := ⟨_, rfl⟩
  by_cases hcf : c = 65533
  · have hm : ((n + 1 : Nat) : Int) ≠ 1 := by omega
    subst hcf
    go_enter Tryd.func60, Tryd.ntmps60
    go_wp2_with fail
    refine cd.mono ?_
    rintro e w1 ⟨rfl, hb⟩
    go_wp2
    go_ret3
    exact ⟨rfl, hb⟩
  · have hcz : (c : Int) ≠ 65533 := by omega
    go_enter Tryd.func60, Tryd.ntmps60
    go_wp2_with fail
    refine cd.mono ?_
    rintro e w1 ⟨rfl, hb⟩
    go_wp2
    go_ret3
    exact ⟨rfl, hb⟩

set_option maxHeartbeats 1000000 in
theorem next_no (s : ByteArray) (hs : s.size ≤ 140737488355328) (i : Int) (c : Nat) (h : nextAt (ls s) i = (c, 0)) (w : World) (hT : Lib.Utf8Tabs 1 2 w) :
    Calls Tryd.prog 60 #[.string s, .int .i64 i] w fun e w' => e = .returned (.tuple #[.int .i64 0, .int .i64 0, .bool false]) ∧ Below w.heap.size w w' := by
  by_cases h0 : i < 0
  · clear h
    go_enter Tryd.func60, Tryd.ntmps60
    go_wp2
    go_ret3
    exact ⟨rfl, Below.refl _ _⟩
  · by_cases h1 : i < (s.size : Int)
    · obtain ⟨k, rfl⟩ : ∃ k : Nat, i = k := ⟨i.toNat, by omega⟩
      unfold nextAt at h
      rw [if_pos ⟨by omega, by rw [ls_length]; omega⟩] at h
      have hd := dec_zero_go s k (by omega) c (by simpa using h)
      have cd := Tryd.utf8_DecodeRuneInString (s.extract k s.size) w hT
      rw [hd] at cd
      clear h hd
      go_enter Tryd.func60, Tryd.ntmps60
      go_wp2_with fail
      refine cd.mono ?_
      rintro e w1 ⟨rfl, hb⟩
      go_wp2
      go_ret3
      exact ⟨rfl, hb⟩
    · clear h
      have h2 : (s.size : Int) ≤ i := by omega
      go_enter Tryd.func60, Tryd.ntmps60
      go_wp2
      go_ret3
      exact ⟨rfl, Below.refl _ _⟩
end Go.Proofs.YtmhoebbdapjpeaaDoor
namespace Go.Proofs.YtmhoebbdapjpeaaDoor
open Go.RowKit Go.Shelf
set_option linter.unusedVariables false

namespace U
def unitAt (l : List UInt8) (i : Nat) : Nat := g l (2 * i) * 256 + g l (2 * i + 1)
end U

theorem g_at (s : ByteArray) (k : Nat) (h : k < s.size) : U.g (ls s) k = (s[k]).toNat := by
  unfold U.g
  rw [List.getD_eq_getElem?_getD, List.getElem?_eq_getElem (by rw [ls_length]; exact h)]
  rfl
set_option maxHeartbeats 1000000 in
theorem length_any (s : ByteArray) (hs : s.size ≤ 140737488355328) (w : World) :
    Calls Tryd.prog 31 #[.string s] w fun e w' => e = .returned (.int .i64 ((s.size : Int) / 2)) ∧ w = w' := by
  go_enter Tryd.func31, Tryd.ntmps31
  go_wp2
  go_ret
  exact ⟨rfl, rfl⟩

set_option maxHeartbeats 1000000 in
theorem unit_any (s : ByteArray) (hs : s.size ≤ 140737488355328) (i : Nat) (hi : 2 * i + 1 < s.size) (w : World) :
    Calls Tryd.prog 59 #[.string s, .int .i64 (i : Int)] w fun e w' => e = .returned (.int .i64 (U.unitAt (ls s) i : Nat)) ∧ ∃ n, w' = w.drewN n := by
  have e1 : IntKind.i64.wrap (2 * (i : Int)) = 2 * (i : Int) := IntWalk.i64_in _ (by omega)
  have e2 : IntKind.i64.wrap (2 * (i : Int) + 1) = 2 * (i : Int) + 1 := IntWalk.i64_in _ (by omega)
  have l1 : 0 ≤ 2 * (i : Int) := by omega
  have l2 : 2 * (i : Int) < s.size := by omega
  have l3 : 2 * (i : Int) + 1 < s.size := by omega
  have l4 : 0 ≤ 2 * (i : Int) + 1 := by omega
  have q1 : (2 * (i : Int)).toNat < s.size := by omega
  have q2 : (2 * (i : Int) + 1).toNat < s.size := by omega
  obtain ⟨x, hx⟩ : ∃ x, s[(2 * (i : Int)).toNat] = x := ⟨_, rfl⟩
  obtain ⟨y, hy⟩ : ∃ y, s[(2 * (i : Int) + 1).toNat] = y := ⟨_, rfl⟩
  have hu : Hid (U.unitAt (ls s) i = x.toNat * 256 + y.toNat) := by
    show _ = _
    unfold U.unitAt
    rw [g_at s (2 * i) (by omega), g_at s (2 * i + 1) hi, ← hx, ← hy]
    have a1 : (2 * (i : Int)).toNat = 2 * i := by omega
    have a2 : (2 * (i : Int) + 1).toNat = 2 * i + 1 := by omega
    simp only [a1, a2]
  have x8 := x.toNat_lt
  have y8 := y.toNat_lt
  have w1 : IntKind.i64.wrap (x.toNat : Int) = x.toNat := IntWalk.i64_in _ (by omega)
  have w2 : IntKind.i64.wrap (y.toNat : Int) = y.toNat := IntWalk.i64_in _ (by omega)
  have w3 : IntKind.i64.wrap ((x.toNat : Int) * 256) = (x.toNat : Int) * 256 := IntWalk.i64_in _ (by omega)
  have w4 := i64_join8 ((x.toNat : Int) * 256) (y.toNat : Int) (by omega) (by omega) (by omega) (by omega) (by omega)
  go_enter Tryd.func59, Tryd.ntmps59
  go_wp2
  go_quiet (fail)
  go_wp2
  go_ret
  refine ⟨ret_int ?_, _, rfl⟩
  rw [hu.out]
  rfl

set_option maxHeartbeats 1000000 in
theorem at_out (s : ByteArray) (hs : s.size ≤ 140737488355328) (i : Int) (hi : i < 0 ∨ (s.size : Int) / 2 ≤ i) (w : World) :
    Calls Tryd.prog 32 #[.string s, .int .i64 i] w fun e w' => e = .returned (.tuple #[.int .i64 0, .bool false]) ∧ ∃ n, w' = w.drewN n := by
  rcases hi with hi | hi
  · go_enter Tryd.func32, Tryd.ntmps32
    go_wp2
    go_ret2
    exact ⟨rfl, 0, rfl⟩
  · by_cases h0 : i < 0
    · go_enter Tryd.func32, Tryd.ntmps32
      go_wp2
      go_ret2
      exact ⟨rfl, 0, rfl⟩
    · go_enter Tryd.func32, Tryd.ntmps32
      go_wp2
      go_ret2
      exact ⟨rfl, 0, rfl⟩

set_option maxHeartbeats 1000000 in
theorem at_in (s : ByteArray) (hs : s.size ≤ 140737488355328) (i : Nat) (hi : 2 * i + 1 < s.size) (w : World) :
    Calls Tryd.prog 32 #[.string s, .int .i64 (i : Int)] w fun e w' => e = .returned (.tuple #[.int .i64 (U.unitAt (ls s) i : Nat), .bool true]) ∧ ∃ n, w' = w.drewN n := by
  have h1 : (i : Int) < (s.size : Int) / 2 := by omega
  go_enter Tryd.func32, Tryd.ntmps32
  go_wp2_with (first | (go_at_call 31; refine (length_any s hs _).mono ?_; rintro e w' ⟨rfl, rfl⟩) | (go_at_call 59; refine (unit_any s hs i hi _).mono ?_; rintro e w' ⟨rfl, n, rfl⟩))
  go_ret2
  exact ⟨rfl, _, rfl⟩

theorem nextAt_in (s : ByteArray) (i : Nat) (h : i < s.size) : nextAt (ls s) i = U.dec ((ls s).drop i) := by
  unfold nextAt
  rw [if_pos (by rw [ls_length]; omega)]
  rfl

theorem str_ext {a b : ByteArray} (h : ls a = ls b) : a = b := by
  cases a; cases b
  congr 1
  exact Array.toList_inj.1 h
end Go.Proofs.YtmhoebbdapjpeaaDoor
namespace Go.Proofs.YtmhoebbdapjpeaaDoor
open Go.RowKit Go.Shelf
set_option linter.unusedVariables false

def full (l : List UInt8) : Prop := (U.scan l).2 = l.length
instance (l : List UInt8) : Decidable (full l) := by unfold full; infer_instance
def wideL (l : List UInt8) : List UInt8 := if full l then U.w8 (U.scan l).1 else []
def wideAt (l : List UInt8) : Nat := if full l then 0 else (U.scan l).2
def wideErr (l : List UInt8) : Nat := if full l then 0 else 10

theorem builder_below {B b : Nat} {bs : List Value} {w w' : World} (h : Lib.IsBuilderF 107 5 B b bs w) (hb : Below w.heap.size w w') : Lib.IsBuilderF 107 5 B b bs w' := by
  have key : ∀ p, Lib.BuilderAtF 107 5 B b p bs w → Lib.BuilderAtF 107 5 B b p bs w' := by
    rintro p ⟨hB, v, hbk, hown, hne⟩
    have lt : ∀ {k : Nat} {o : Obj}, w.heap[k]? = some o → k < w.heap.size := fun h => (Array.getElem?_eq_some_iff.1 h).1
    refine ⟨hB, v, by rw [hb.block b (lt hbk)]; exact hbk, ⟨hown.1, ?_⟩, hne⟩
    rcases hown.2 with hn | ⟨g, cap, cur, fz, hv, hg, hh, rest⟩
    · exact .inl hn
    · exact .inr ⟨g, cap, cur, fz, hv, hg, by rw [hb.block g (lt hh)]; exact hh, rest⟩
  rcases h with h | h
  · exact .inl (key _ h)
  · exact .inr (key _ h)

theorem units_len (l : List UInt8) (c n : Nat) (h : U.dec l = (c, n + 1)) : ((U.units c).flatMap U.be).length ≤ 2 * (n + 1) := by
  obtain ⟨h1, h2, _⟩ := U.enc_dec l c n h
  rw [U.enc_length] at h2
  unfold U.units
  split
  · simp [U.be]; omega
  · rename_i hc
    simp only [List.flatMap_cons, List.flatMap_nil, List.append_nil, List.length_append, U.be, List.length_cons, List.length_nil]
    rw [if_neg (by omega), if_neg (by omega), if_neg hc] at h2
    omega

/-- Behind k bytes, cs read of them. -/
def WideRel (s : ByteArray) (B : Nat) (w : World) (iv : Value) (wr : World) : Prop :=
  ∃ (k : Nat) (cs : List Nat), k ≤ s.size ∧ iv = .int .i64 (k : Int) ∧ Lib.IsBuilderF 107 5 B B (Lib.byteCells (U.w8 cs)) wr ∧ Below B w wr ∧ B < wr.heap.size ∧ (U.w8 cs).length ≤ 2 * k ∧
    U.scan (ls s) = (cs ++ (U.scan ((ls s).drop k)).1, k + (U.scan ((ls s).drop k)).2)

theorem rel_next (s : ByteArray) (k c n : Nat) (cs : List Nat) (hk : k < s.size) (hs : U.scan (ls s) = (cs ++ (U.scan ((ls s).drop k)).1, k + (U.scan ((ls s).drop k)).2)) (hd : U.dec ((ls s).drop k) = (c, n + 1)) :
    k + (n + 1) ≤ s.size ∧ U.scan (ls s) = ((cs ++ [c]) ++ (U.scan ((ls s).drop (k + (n + 1)))).1, k + (n + 1) + (U.scan ((ls s).drop (k + (n + 1)))).2) := by
  have hl := U.dec_le ((ls s).drop k)
  rw [hd, List.length_drop, ls_length] at hl
  refine ⟨by simp only at hl; omega, ?_⟩
  rw [hs, U.scan_step ((ls s).drop k) (by rw [hd]; simp), hd]
  simp only [List.drop_drop, List.append_assoc, List.cons_append, List.nil_append, Nat.add_assoc]
theorem rel_stop (s : ByteArray) (k c : Nat) (cs : List Nat) (hk : k < s.size) (hs : U.scan (ls s) = (cs ++ (U.scan ((ls s).drop k)).1, k + (U.scan ((ls s).drop k)).2)) (hd : U.dec ((ls s).drop k) = (c, 0)) :
    wideL (ls s) = [] ∧ wideAt (ls s) = k ∧ wideErr (ls s) = 10 := by
  rw [U.scan_stop ((ls s).drop k) (by rw [hd])] at hs
  have hf : ¬ full (ls s) := by unfold full; rw [hs, ls_length]; simp only; omega
  unfold wideL wideAt wideErr
  rw [if_neg hf, if_neg hf, if_neg hf, hs]
  exact ⟨rfl, rfl, rfl⟩
theorem rel_end (s : ByteArray) (cs : List Nat) (hs : U.scan (ls s) = (cs ++ (U.scan ((ls s).drop s.size)).1, s.size + (U.scan ((ls s).drop s.size)).2)) :
    wideL (ls s) = U.w8 cs ∧ wideAt (ls s) = 0 ∧ wideErr (ls s) = 0 := by
  rw [List.drop_eq_nil_of_le (by rw [ls_length]; exact Nat.le_refl _), U.scan_nil] at hs
  simp only [List.append_nil, Nat.add_zero] at hs
  have hf : full (ls s) := by unfold full; rw [hs, ls_length]
  unfold wideL wideAt wideErr
  rw [if_pos hf, if_pos hf, if_pos hf, hs]
  exact ⟨rfl, rfl, rfl⟩

theorem ret_sii {a : ByteArray} {l : List UInt8} {b c : Int} {m n : Nat} (h1 : a = ⟨l.toArray⟩) (h2 : b = m) (h3 : c = n) : Ending.returned (.tuple #[.string a, .int .i64 b, .int .i64 c]) = .returned (.tuple #[.string ⟨l.toArray⟩, .int .i64 (m : Int), .int .i64 (n : Int)]) := by rw [h1, h2, h3]

set_option maxHeartbeats 4000000 in
theorem wide_any (s : ByteArray) (hs : s.size ≤ 1000000) (w : World) (hT : Lib.Utf8Tabs 1 2 w) :
    Calls Tryd.prog 34 #[.string s] w fun e w' => e = .returned (.tuple #[.string ⟨(wideL (ls s)).toArray⟩, .int .i64 (wideAt (ls s) : Int), .int .i64 (wideErr (ls s) : Int)]) ∧ Below w.heap.size w w' := by
  have HT := Lib.hid hT
  clear hT
  have Hst : WideRel s w.heap.size w (.int .i64 0) (w.alloc (.cells #[.pointer none, .slice none 0 0] 107)) :=
    ⟨0, [], Nat.zero_le _, rfl, .of (Lib.fresh_isBuilder 107 5 w), (Below.refl _ _).alloc (Nat.le_refl _) _, by simp, by simp [U.w8], by simp⟩
  obtain ⟨B, hB⟩ : ∃ B, w.heap.size = B := ⟨_, rfl⟩
  have HB := Lib.hid hB
  go_enter Tryd.func34, Tryd.ntmps34
  go_wp2
  go_loopw [6] (fun iv wr => WideRel s B w iv wr) (fun iv wr => s.size - (intOf iv).toNat)
  case atStart => exact HB.out ▸ Hst
  case round =>
    obtain ⟨k, cs, hk, rfl, hbuild, hbel, hlt, hlen, hscan⟩ := hrel
    have HS := Lib.hid hscan
    clear hscan
    by_cases hks : k < s.size
    · have hkz : (k : Int) < (s.size : Int) := by omega
      have hTr : Lib.Utf8Tabs 1 2 wr := Utf8Tabs_below HT.out (by rw [HB.out]; exact hbel)
      obtain ⟨c, m, hd⟩ : ∃ c m, U.dec ((ls s).drop k) = (c, m) := ⟨_, _, rfl⟩
      cases m with
      | zero =>
        have cn := next_no s (by omega) (k : Int) c (by rw [nextAt_in s k hks]; exact hd) wr hTr
        have HR := Lib.hid (rel_stop s k c cs hks HS.out hd)
        clear hd hTr
        go_wp2_with fail
        refine cn.mono ?_
        rintro e w1 ⟨rfl, hb1⟩
        go_wp2
        go_ret3
        exact ⟨ret_sii (by rw [HR.out.1]) (by rw [HR.out.2.1]) (by rw [HR.out.2.2]; rfl), by rw [HB.out]; exact hbel.trans (hb1.mono (by omega))⟩
      | succ m =>
        have cn := next_ok s (by omega) k hks c m hd wr hTr
        have HR := Lib.hid (rel_next s k c m cs hks HS.out hd)
        have HU := Lib.hid (units_len _ c m hd)
        have hkm : (k : Int) + ((m : Int) + 1) ≤ (s.size : Int) := by have := HR.out.1; omega
        have hc : c ≤ 1114111 := by
          obtain ⟨h1, _⟩ := U.enc_dec _ c m hd
          unfold U.scalar at h1
          omega
        clear hd hTr
        go_wp2_with fail
        refine cn.mono ?_
        rintro e w1 ⟨rfl, hb1⟩
        go_wp2_with fail
        refine (writeCharacter_any B B c hc _ _ (builder_below hbuild hb1) (by rw [Lib.byteCells_length]; omega) (by have := hb1.size; omega)).mono ?_
        rintro e w2 ⟨rfl, h2, hb2⟩
        go_wp2
        go_roundw
        case rel =>
          refine ⟨k + (m + 1), cs ++ [c], HR.out.1, by go_num, ?_, (hbel.trans (hb1.mono (by omega))).trans hb2, by have := hb1.size; have := hb2.size; omega, ?_, HR.out.2⟩
          · rw [U.w8_append, byteCells_append]
            simpa [U.w8] using h2
          · rw [U.w8_append, List.length_append]
            have := HU.out
            simp only [U.w8, List.flatMap_cons, List.flatMap_nil, List.append_nil] at this hlen ⊢
            omega
        case measure => have := HR.out.1; simp [intOf]; omega
    · obtain rfl : k = s.size := by omega
      have HR := Lib.hid (rel_end s cs HS.out)
      go_wp2_with fail
      refine (Tryd.Builder_String_any_f B B (U.w8 cs) _ hbuild (by omega)).mono ?_
      rintro e w1 ⟨rfl, h1, hb1⟩
      go_wp2
      go_ret3
      exact ⟨ret_sii (by rw [HR.out.1]) (by rw [HR.out.2.1]; rfl) (by rw [HR.out.2.2]; rfl), by rw [HB.out]; exact hbel.trans hb1⟩
end Go.Proofs.YtmhoebbdapjpeaaDoor
