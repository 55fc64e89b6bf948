/- What strings.Builder's writers do to a builder that the call itself has made: one byte, or one character's bytes, go in behind what it holds; below the call's own blocks nothing turns. Condition: at most 2^47 bytes in all. -/
import Derived.Test.YtmndmnajgfabnaaDoorShelf
import Derived.Test.YtmndmnajgfabnaaDoorChecked
import Derived.Test.YtmndmnajgfabnaaDoorL2
import Derived.Lib.FrozenHead2
import Derived.Lib.Hide
import Derived.Deep.QuietTactic
import Derived.BigQuiet
import Derived.IntWalk
import Derived.WalkKit
import Derived.WalkLawsBesides
import Derived.Outline
namespace Go.Proofs.YtmndmnajgfabnaaDoor
open Go.RowKit Go.Shelf

theorem X72 : Builder.X72 Tryd.prog Tryd.lays169_ren where
  sizeBuilder := by kernel_rfl
  liesBuilder := by kernel_rfl

set_option maxHeartbeats 1000000 in
set_option maxRecDepth 100000 in
theorem copyCheck_used (b : Nat) (w : World) (h0 : w.cell? ⟨b, 0, none⟩ = some (.pointer (some ⟨b, 0, none⟩))) :
    Calls Tryd.prog 91 #[.pointer (some ⟨b, 0, none⟩)] w fun e w' => e = .returned (.tuple #[]) ∧ w = w' := by
  obtain ⟨j, hj, _⟩ := Option.map_eq_some_iff.1 X72.sizeBuilder
  go_enter Tryd.func91, Tryd.ntmps91
  go_wp2
  rw [Lib.run_neq_ptr_same w _ Tryd.underlying104 hj]
  go_wp2
  go_end0
  exact ⟨rfl, rfl⟩

set_option maxHeartbeats 1000000 in
set_option maxRecDepth 100000 in
theorem copyCheck_fresh (b : Nat) (w : World) (h0 : w.cell? ⟨b, 0, none⟩ = some (.pointer none)) (hsh : w.shape? b = some (107, 2)) (hfz : w.frozen? ⟨b, 0, none⟩ = false) :
    Calls Tryd.prog 91 #[.pointer (some ⟨b, 0, none⟩)] w fun e w' => e = .returned (.tuple #[]) ∧ w.setCell ⟨b, 0, none⟩ (.pointer (some ⟨b, 0, none⟩)) = w' := by
  obtain ⟨j, hj, hjs⟩ := Option.map_eq_some_iff.1 X72.sizeBuilder
  go_enter Tryd.func91, Tryd.ntmps91
  go_wp2
  rw [Lib.run_to_unsafe w ⟨b, 0, none⟩ Tryd.underlying104 Tryd.underlying146 hj (by rw [hjs]; decide) hsh (Nat.zero_lt_succ 1)]
  simp only [Result.andThen]
  rw [Oper.upon_value]
  go_wp2
  rw [run_callFunc_extern Tryd.func97 (by kernel_rfl) (by kernel_rfl) (by kernel_rfl) (e := Extern.AbiNoEscape.same) (by kernel_rfl)]
  rw [Lib.run_noEscape]
  simp only [Result.andThen]
  rw [Oper.upon_value]
  go_wp2
  rw [Lib.run_from_unsafe w ⟨b, 0, none⟩ Tryd.underlying146 Tryd.underlying104 hj hsh X72.liesBuilder]
  simp only [Result.andThen]
  rw [Oper.upon_value]
  go_wp2
  go_end0
  exact ⟨rfl, rfl⟩

theorem copyCheck_any (B b : Nat) (bs : List Value) (w : World) (h : Lib.IsBuilderF 107 5 B b bs w) :
    Calls Tryd.prog 91 #[.pointer (some ⟨b, 0, none⟩)] w fun e w' => e = .returned (.tuple #[]) ∧ (Lib.BuilderAtF 107 5 B b (.pointer (some ⟨b, 0, none⟩)) bs w' ∧ Below B w w') := by
  rcases h with h | h
  · refine (copyCheck_fresh b w h.cell0 h.shape h.frozen0).mono ?_
    rintro e w' ⟨rfl, rfl⟩
    exact ⟨rfl, h.used _, (Below.refl B w).setCell (p := ⟨b, 0, none⟩) h.1 _⟩
  · refine (copyCheck_used b w h.cell0).mono ?_
    rintro e w' ⟨rfl, rfl⟩
    exact ⟨rfl, h, Below.refl B _⟩

set_option maxHeartbeats 2000000 in
set_option maxRecDepth 100000 in
theorem writeByte_any (B b : Nat) (bs : List Value) (c : Int) (w : World) (h : Lib.IsBuilderF 107 5 B b bs w) (hlen : bs.length + 1 ≤ 140737488355328) (hBw : B ≤ w.heap.size) :
    Calls Tryd.prog 81 #[.pointer (some ⟨b, 0, none⟩), .int .u8 c] w fun e w' => e = .returned .nilIface ∧ (Lib.BuilderAtF 107 5 B b (.pointer (some ⟨b, 0, none⟩)) (bs ++ [.int .u8 c]) w' ∧ Below B w w') := by
  obtain ⟨i0, hi, hz0, hz1, hz2⟩ := info_parts Tryd.Builder_Extra_169.infoByte
  go_enter Tryd.func81, Tryd.ntmps81
  go_wp2_with (go_at_call 91; refine (copyCheck_any B b bs _ h).mono ?_)
  rintro e w1 ⟨rfl, h1, hb1⟩
  obtain ⟨hB, v, hbk, hown, hne⟩ := h1
  have c0 : w1.cell? ⟨b, 0, none⟩ = some (.pointer (some ⟨b, 0, none⟩)) := by rw [Lib.cell_of_heap hbk]; rfl
  have c1 : w1.cell? ⟨b, 1, none⟩ = some v := by rw [Lib.cell_of_heap hbk]; rfl
  go_wp2_with (at_builtin; refine wpList_append_ownF _ rfl _ _ 105 rfl B 5 i0 (.int .u8 0) 1 1 Tryd.underlying105 hi hz0 hz1 hz2 rfl (by decide) _ _ _ rfl (hown.alloc _) ⟨w1.heap.size, 0, none⟩ 1 1 [.int .u8 c] rfl rfl ?c1 ?c2 ?c3 ?c4 ?c5 ?_)
  case c1 =>
    intro j u hj
    match j, hj with
    | 0, hj => simp at hj; subst hj; simp [Addr.add]
  case c2 => intro u hu; simp at hu; subst hu; rfl
  case c3 => unfold maxLen; omega
  case c4 => omega
  case c5 => have := hb1.size; simp; omega
  intro v' w2 hown' hgrow _
  have hlt : b < w1.heap.size := by
    rcases Nat.lt_or_ge b w1.heap.size with h' | h'
    · exact h'
    · simp [Array.getElem?_eq_none h'] at hbk
  have hb2 : w2.heap[b]? = some (.cells #[.pointer (some ⟨b, 0, none⟩), v] 107 (0, 0)) := by
    rw [hgrow.block b (by simp; omega) (fun e => hne e.symm), Lib.alloc_old w1 _ b hlt]
    exact hbk
  have d0 : w2.cell? ⟨b, 0, none⟩ = some (.pointer (some ⟨b, 0, none⟩)) := by rw [Lib.cell_of_heap hb2]; rfl
  have d1 : w2.cell? ⟨b, 1, none⟩ = some v := by rw [Lib.cell_of_heap hb2]; rfl
  have f1 : w2.frozen? ⟨b, 1, none⟩ = false := Lib.frozen_of_heap hb2 1
  obtain ⟨g, cap, rfl⟩ : ∃ g cap, v' = .slice (some ⟨g, 0, none⟩) (bs.length + 1) cap := by
    rcases hown'.2 with ⟨_, h0⟩ | ⟨g, cap, cur, fz, hv, _⟩
    · omega
    · exact ⟨g, cap, hv⟩
  go_wp2
  go_ret
  refine ⟨rfl, ?_, ?_⟩
  · exact Lib.BuilderAtF.put (T := 107) (e := 5) hB hb2 (bs' := bs ++ [.int .u8 c]) (by simpa using hown') Tryd.Builder_Extra_169.neB5
  · exact ((hb1.alloc (by have := hb1.size; omega) _).grown hgrow (by have := hb1.size; simp; omega) (fun k hk => (hown.lt k hk).1)).setCell (p := ⟨b, 1, none⟩) hB _

theorem byteCells_append (a b : List UInt8) : Lib.byteCells (a ++ b) = Lib.byteCells a ++ Lib.byteCells b := by simp [Lib.byteCells]
theorem be_length (u : Nat) : (U.be u).length = 2 := rfl
theorem byteCells_be (z : Int) (h0 : 0 ≤ z) (h1 : z < 65536) : Lib.byteCells (U.be z.toNat) = [.int .u8 (z / 256), .int .u8 (z % 256)] := by
  simp only [Lib.byteCells, U.be, List.map_cons, List.map_nil, U.ofNat_toNat _ (show z.toNat / 256 < 256 by omega), U.ofNat_toNat _ (show z.toNat % 256 < 256 by omega)]
  rw [show ((z.toNat / 256 : Nat) : Int) = z / 256 by omega, show ((z.toNat % 256 : Nat) : Int) = z % 256 by omega]

theorem i32_and1023 (x : Int) (h0 : 0 ≤ x) (h1 : x < 2147483648) : bits .and .i32 x 1023 = x % 1024 := bits_mask .i32 31 (by decide) wraps_i32 10 (by decide) x h0 h1
theorem wraps_i64 (n : Int) (h₀ : 0 ≤ n) (h₁ : n < 2 ^ 63) : IntKind.i64.wrap n = n := by rw [IntKind.wrap_i64]; omega
theorem i64_join8 (x y : Int) (hx0 : 0 ≤ x) (hx : x % 256 = 0) (hx1 : x < 9223372036854775808) (h0 : 0 ≤ y) (h1 : y < 256) : bits .or .i64 x y = x + y :=
  bits_join .i64 63 (by decide) wraps_i64 8 x y hx0 hx hx1 h0 h1 (by omega)

set_option maxHeartbeats 1000000 in
theorem writeUnit_any (B b : Nat) (z : Int) (h0 : 0 ≤ z) (h1 : z < 65536) (bs : List Value) (w : World) (h : Lib.IsBuilderF 107 5 B b bs w) (hlen : bs.length + 2 ≤ 140737488355328) (hBw : B ≤ w.heap.size) :
    Calls Tryd.prog 73 #[.pointer (some ⟨b, 0, none⟩), .int .i32 z] w fun e w' => e = .returned (.tuple #[]) ∧ (Lib.BuilderAtF 107 5 B b (.pointer (some ⟨b, 0, none⟩)) (bs ++ Lib.byteCells (U.be z.toNat)) w' ∧ Below B w w') := by
  have HC := Lib.hid (byteCells_be z h0 h1)
  go_enter Tryd.func73, Tryd.ntmps73
  go_wp2_with (go_at_call 81; refine (writeByte_any B b bs _ _ h (by omega) hBw).mono ?_)
  rintro e w1 ⟨rfl, h1, hb1⟩
  go_wp2_with (go_at_call 81; refine (writeByte_any B b _ _ _ (.inr h1) (by rw [List.length_append]; simp only [List.length_cons, List.length_nil]; omega) (by have := hb1.size; omega)).mono ?_)
  rintro e w2 ⟨rfl, h2, hb2⟩
  go_wp2
  go_end0
  refine ⟨rfl, ?_, hb1.trans hb2⟩
  rw [HC.out]
  rw [List.append_assoc] at h2
  exact h2

set_option maxHeartbeats 1000000 in
theorem writeCharacter_any (B b : Nat) (c : Nat) (hc : c ≤ 1114111) (bs : List Value) (w : World) (h : Lib.IsBuilderF 107 5 B b bs w) (hlen : bs.length + 4 ≤ 140737488355328) (hBw : B ≤ w.heap.size) :
    Calls Tryd.prog 61 #[.pointer (some ⟨b, 0, none⟩), .int .i32 (c : Int)] w fun e w' => e = .returned (.tuple #[]) ∧ (Lib.IsBuilderF 107 5 B b (bs ++ Lib.byteCells ((U.units c).flatMap U.be)) w' ∧ Below B w w') := by
  by_cases hc1 : c < 65536
  · have hu := Lib.hid (U.units_one c hc1)
    have hz : (c : Int) < 65536 := by omega
    go_enter Tryd.func61, Tryd.ntmps61
    go_wp2_with fail
    refine (writeUnit_any B b _ (by omega) hz bs _ h (by omega) hBw).mono ?_
    rintro e w1 ⟨rfl, h1, hb1⟩
    go_wp2
    refine bodyPost_ret (v := .tuple #[]) (by simp [results, Tryd.results61, go_sem]) rfl ⟨rfl, .inr ?_, hb1⟩
    rw [hu.out]
    simpa using h1
  · have hz : ¬ (c : Int) < 65536 := by omega
    have hm := i32_and1023 ((c : Int) - 65536) (by omega) (by omega)
    have HE : Hid (bs ++ Lib.byteCells (U.be (55296 + ((c : Int) - 65536) / 1024).toNat) ++ Lib.byteCells (U.be (56320 + ((c : Int) - 65536) % 1024).toNat) = bs ++ Lib.byteCells ((U.units c).flatMap U.be)) := by
      show _ = _
      unfold U.units
      rw [if_neg hc1, show (55296 + ((c : Int) - 65536) / 1024).toNat = 55296 + (c - 65536) / 1024 by omega, show (56320 + ((c : Int) - 65536) % 1024).toNat = 56320 + (c - 65536) % 1024 by omega]
      simp [byteCells_append]
    go_enter Tryd.func61, Tryd.ntmps61
    go_wp2_with fail
    refine (writeUnit_any B b _ (by omega) (by omega) bs _ h (by omega) hBw).mono ?_
    rintro e w1 ⟨rfl, h1, hb1⟩
    go_wp2_with fail
    refine (writeUnit_any B b _ (by omega) (by omega) _ _ (.inr h1) (by rw [List.length_append, Lib.byteCells_length, be_length]; omega) (by have := hb1.size; omega)).mono ?_
    rintro e w2 ⟨rfl, h2, hb2⟩
    go_wp2
    go_end0
    refine ⟨rfl, .inr ?_, hb1.trans hb2⟩
    rw [← HE.out]
    exact h2
end Go.Proofs.YtmndmnajgfabnaaDoor
