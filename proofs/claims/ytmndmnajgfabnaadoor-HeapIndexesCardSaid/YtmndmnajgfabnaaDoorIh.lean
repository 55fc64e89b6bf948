/- Layer 8: the law HeapIndexes. Conditions: the tables that Key reads. -/
import Derived.Test.YtmndmnajgfabnaaDoorIg
namespace Go.Proofs.YtmndmnajgfabnaaDoor
open Go.RowKit Go.Maps Go.Shelf
set_option linter.all false

set_option maxRecDepth 100000 in
set_option maxHeartbeats 2000000 in
theorem law_indexes (N' : Nat) (k : List UInt8) (hk : k.length ≤ 140737488355328) (n : Int) (h0 : -9223372036854775808 ≤ n) (h1 : n ≤ 9223372036854775807) (w : World) (hT : Tb N' w) :
    Calls Tryd.prog 3 #[.string (bs k), .int .i64 n] w fun e w' => e = .returned (.bool true) ∧ Below w.heap.size w w' := by
  have haw := fun W => awake_any W
  have hsz := bs_size k
  have hw0 : Hid (Fr [] w w) := Lib.hid (Fr.refl _ _)
  have TT := Lib.hid hT
  have HFin : ∀ w', Fr [] w w' → Below w.heap.size w w' := fun w' h => h.below0
  have HF := Lib.hid HFin
  have HD : Hid (∀ W d, Fr [] w W → Tb N' (W.drewN d)) := Lib.hid (fun W d h => hT.fr0 (h.trans (Fr.drewN _ _) (fun _ h => by cases h)))
  have HD0 : Hid (∀ W, Fr [] w W → Tb N' W) := Lib.hid (fun W h => hT.fr0 h)
  have hix1 := fun W => index_any k hk W
  have hlk : (keyB n).length ≤ 140737488355328 := by
    rw [keyB_of, ofB_len]
    have := Lib.itoa_length_le n h0 h1
    omega
  have hix2 := fun W => index_any (keyB n) hlk W
  have hkey : ∀ W, Tb N' W → Calls Tryd.prog 11 #[.int .i64 n] W fun e w' => e = .returned (.string (bs (keyB n))) ∧ Fr [] W w' := fun W hW => key_any N' n h0 h1 (Nat.le_trans (Lib.itoa_length_le n h0 h1) (by omega)) W hW
  have hrk := fun W => refKey_any n h0 h1 W
  have hri : k.length ≤ 400 → ∀ W, Calls Tryd.prog 10 #[.string (bs k)] W fun e w' => e = .returned (.int .i64 (refI k)) ∧ Fr [] W w' := fun h W => refIndex_any k (by omega) W
  rw [refI_idx] at hri
  rw [idx_key] at hix2
  have hO : ∀ m, idx k = some m → m ≤ 2147483647 := fun m h => idx_lt h
  generalize idx k = O at *
  clear hT HFin hlk
  by_cases h400 : 400 < k.length
  · have g : (400 : Int) < ((bs k).size : Int) := by omega
    clear hix1 hix2 hkey hrk hri hO h400 hsz hk
    generalize bs k = S at *
    go_enter Tryd.func3, Tryd.ntmps3
    go_wp2_with (first
      | (go_at_call 8; ((with_reducible refine (haw _).mono ?_); rintro e w1 ⟨rfl, hf⟩; have F1 := Lib.hid hf; clear hf))
      | fail)
    go_ret
    exact ⟨rfl, HF.out _ F1.out⟩
  · have g : ¬ (400 : Int) < ((bs k).size : Int) := by omega
    replace hri := hri (by omega)
    clear h400 hsz hk
    generalize bs k = S at *
    generalize bs (keyB n) = K at *
    have hin : 0 ≤ n ∧ n ≤ 2147483647 ∨ ¬ (0 ≤ n ∧ n ≤ 2147483647) := Classical.em _
    cases O with
    | none =>
      change ∀ W, Calls Tryd.prog 10 #[.string S] W fun e w' => e = .returned (.int .i64 (-1)) ∧ Fr [] W w' at hri
      have hix1' : ∀ W, Calls Tryd.prog 9 #[.string S] W fun e w' => e = .returned (.tuple #[.int .i64 0, .bool false]) ∧ ∃ d, w' = W.drewN d := hix1
      obtain ⟨z, hz⟩ : ∃ z : Int, z = -1 := ⟨_, rfl⟩
      rw [← hz] at hri
      have z0 : z < 0 := by omega
      have z1 : max z 0 = 0 := by omega
      clear hix1 hO hz
      rcases hin with ⟨i0, i1⟩ | hin
      · rw [if_pos ⟨i0, i1⟩] at hix2
        have hix2' : ∀ W, Calls Tryd.prog 9 #[.string K] W fun e w' => e = .returned (.tuple #[.int .i64 n, .bool true]) ∧ ∃ d, w' = W.drewN d := by
          intro W
          refine (hix2 W).mono ?_
          rintro e w' ⟨rfl, hd⟩
          exact ⟨by unfold idxAns; simp only []; rw [Int.toNat_of_nonneg i0], hd⟩
        clear hix2
        go_enter Tryd.func3, Tryd.ntmps3
        go_wp2_with (first
          | (go_at_call 8; ((with_reducible refine (haw _).mono ?_); rintro e w1 ⟨rfl, hf⟩; have F1 := Lib.hid hf; clear hf))
          | (go_at_call 9; ((with_reducible refine (hix1' _).mono ?_); rintro e w1' ⟨rfl, d, rfl⟩))
          | (go_at_call 9; ((with_reducible refine (hix2' _).mono ?_); rintro e w1' ⟨rfl, d2, rfl⟩))
          | (go_at_call 10; ((with_reducible refine (hri _).mono ?_); rintro e w2 ⟨rfl, hf⟩; have F2 := Lib.hid ((F1.out.trans (Fr.drewN _ _) (fun _ h => by cases h)).trans hf (fun _ h => by cases h)); clear hf))
          | (go_at_call 11; ((with_reducible refine (hkey _ (HD.out _ _ F3.out)).mono ?_); rintro e w4 ⟨rfl, hf⟩; have F4 := Lib.hid ((F3.out.trans (Fr.drewN _ _) (fun _ h => by cases h)).trans hf (fun _ h => by cases h)); clear hf))
          | (go_at_call 11; ((with_reducible refine (hkey _ (HD0.out _ F2.out)).mono ?_); rintro e w3 ⟨rfl, hf⟩; have F3 := Lib.hid (F2.out.trans hf (fun _ h => by cases h)); clear hf))
          | (go_at_call 12; ((with_reducible refine (hrk _).mono ?_); rintro e w5 ⟨rfl, hf⟩; have F5 := Lib.hid (F4.out.trans hf (fun _ h => by cases h)); clear hf))
          | fail)
        go_ret
        exact ⟨by first | rfl | (show Ending.returned (Value.bool _) = Ending.returned (Value.bool true); congr 2; simp <;> omega), HF.out _ F5.out⟩
      · rw [if_neg hin] at hix2
        have hix2' : ∀ W, Calls Tryd.prog 9 #[.string K] W fun e w' => e = .returned (.tuple #[.int .i64 0, .bool false]) ∧ ∃ d, w' = W.drewN d := hix2
        clear hix2
        by_cases i0 : n < 0
        · clear hin
          go_enter Tryd.func3, Tryd.ntmps3
          go_wp2_with (first
            | (go_at_call 8; ((with_reducible refine (haw _).mono ?_); rintro e w1 ⟨rfl, hf⟩; have F1 := Lib.hid hf; clear hf))
            | (go_at_call 9; ((with_reducible refine (hix1' _).mono ?_); rintro e w1' ⟨rfl, d, rfl⟩))
            | (go_at_call 9; ((with_reducible refine (hix2' _).mono ?_); rintro e w1' ⟨rfl, d2, rfl⟩))
            | (go_at_call 10; ((with_reducible refine (hri _).mono ?_); rintro e w2 ⟨rfl, hf⟩; have F2 := Lib.hid ((F1.out.trans (Fr.drewN _ _) (fun _ h => by cases h)).trans hf (fun _ h => by cases h)); clear hf))
            | (go_at_call 11; ((with_reducible refine (hkey _ (HD.out _ _ F3.out)).mono ?_); rintro e w4 ⟨rfl, hf⟩; have F4 := Lib.hid ((F3.out.trans (Fr.drewN _ _) (fun _ h => by cases h)).trans hf (fun _ h => by cases h)); clear hf))
            | (go_at_call 11; ((with_reducible refine (hkey _ (HD0.out _ F2.out)).mono ?_); rintro e w3 ⟨rfl, hf⟩; have F3 := Lib.hid (F2.out.trans hf (fun _ h => by cases h)); clear hf))
            | (go_at_call 12; ((with_reducible refine (hrk _).mono ?_); rintro e w5 ⟨rfl, hf⟩; have F5 := Lib.hid (F4.out.trans hf (fun _ h => by cases h)); clear hf))
            | fail)
          go_ret
          exact ⟨by first | rfl | (show Ending.returned (Value.bool _) = Ending.returned (Value.bool true); congr 2; simp <;> omega), HF.out _ F5.out⟩

        · have i1 : 2147483647 < n := by omega
          clear hin
          go_enter Tryd.func3, Tryd.ntmps3
          go_wp2_with (first
            | (go_at_call 8; ((with_reducible refine (haw _).mono ?_); rintro e w1 ⟨rfl, hf⟩; have F1 := Lib.hid hf; clear hf))
            | (go_at_call 9; ((with_reducible refine (hix1' _).mono ?_); rintro e w1' ⟨rfl, d, rfl⟩))
            | (go_at_call 9; ((with_reducible refine (hix2' _).mono ?_); rintro e w1' ⟨rfl, d2, rfl⟩))
            | (go_at_call 10; ((with_reducible refine (hri _).mono ?_); rintro e w2 ⟨rfl, hf⟩; have F2 := Lib.hid ((F1.out.trans (Fr.drewN _ _) (fun _ h => by cases h)).trans hf (fun _ h => by cases h)); clear hf))
            | (go_at_call 11; ((with_reducible refine (hkey _ (HD.out _ _ F3.out)).mono ?_); rintro e w4 ⟨rfl, hf⟩; have F4 := Lib.hid ((F3.out.trans (Fr.drewN _ _) (fun _ h => by cases h)).trans hf (fun _ h => by cases h)); clear hf))
            | (go_at_call 11; ((with_reducible refine (hkey _ (HD0.out _ F2.out)).mono ?_); rintro e w3 ⟨rfl, hf⟩; have F3 := Lib.hid (F2.out.trans hf (fun _ h => by cases h)); clear hf))
            | (go_at_call 12; ((with_reducible refine (hrk _).mono ?_); rintro e w5 ⟨rfl, hf⟩; have F5 := Lib.hid (F4.out.trans hf (fun _ h => by cases h)); clear hf))
            | fail)
          go_ret
          exact ⟨by first | rfl | (show Ending.returned (Value.bool _) = Ending.returned (Value.bool true); congr 2; simp <;> omega), HF.out _ F5.out⟩

    | some m =>
      change ∀ W, Calls Tryd.prog 10 #[.string S] W fun e w' => e = .returned (.int .i64 (m : Int)) ∧ Fr [] W w' at hri
      have hix1' : ∀ W, Calls Tryd.prog 9 #[.string S] W fun e w' => e = .returned (.tuple #[.int .i64 (m : Int), .bool true]) ∧ ∃ d, w' = W.drewN d := hix1
      have hm : m ≤ 2147483647 := hO m rfl
      clear hix1 hO
      rcases hin with ⟨i0, i1⟩ | hin
      · rw [if_pos ⟨i0, i1⟩] at hix2
        have hix2' : ∀ W, Calls Tryd.prog 9 #[.string K] W fun e w' => e = .returned (.tuple #[.int .i64 n, .bool true]) ∧ ∃ d, w' = W.drewN d := by
          intro W
          refine (hix2 W).mono ?_
          rintro e w' ⟨rfl, hd⟩
          exact ⟨by unfold idxAns; simp only []; rw [Int.toNat_of_nonneg i0], hd⟩
        clear hix2
        go_enter Tryd.func3, Tryd.ntmps3
        go_wp2_with (first
          | (go_at_call 8; ((with_reducible refine (haw _).mono ?_); rintro e w1 ⟨rfl, hf⟩; have F1 := Lib.hid hf; clear hf))
          | (go_at_call 9; ((with_reducible refine (hix1' _).mono ?_); rintro e w1' ⟨rfl, d, rfl⟩))
          | (go_at_call 9; ((with_reducible refine (hix2' _).mono ?_); rintro e w1' ⟨rfl, d2, rfl⟩))
          | (go_at_call 10; ((with_reducible refine (hri _).mono ?_); rintro e w2 ⟨rfl, hf⟩; have F2 := Lib.hid ((F1.out.trans (Fr.drewN _ _) (fun _ h => by cases h)).trans hf (fun _ h => by cases h)); clear hf))
          | (go_at_call 11; ((with_reducible refine (hkey _ (HD.out _ _ F3.out)).mono ?_); rintro e w4 ⟨rfl, hf⟩; have F4 := Lib.hid ((F3.out.trans (Fr.drewN _ _) (fun _ h => by cases h)).trans hf (fun _ h => by cases h)); clear hf))
          | (go_at_call 11; ((with_reducible refine (hkey _ (HD0.out _ F2.out)).mono ?_); rintro e w3 ⟨rfl, hf⟩; have F3 := Lib.hid (F2.out.trans hf (fun _ h => by cases h)); clear hf))
          | (go_at_call 12; ((with_reducible refine (hrk _).mono ?_); rintro e w5 ⟨rfl, hf⟩; have F5 := Lib.hid (F4.out.trans hf (fun _ h => by cases h)); clear hf))
          | fail)
        go_ret
        exact ⟨by first | rfl | (show Ending.returned (Value.bool _) = Ending.returned (Value.bool true); congr 2; simp <;> omega), HF.out _ F5.out⟩
      · rw [if_neg hin] at hix2
        have hix2' : ∀ W, Calls Tryd.prog 9 #[.string K] W fun e w' => e = .returned (.tuple #[.int .i64 0, .bool false]) ∧ ∃ d, w' = W.drewN d := hix2
        clear hix2
        by_cases i0 : n < 0
        · clear hin
          go_enter Tryd.func3, Tryd.ntmps3
          go_wp2_with (first
            | (go_at_call 8; ((with_reducible refine (haw _).mono ?_); rintro e w1 ⟨rfl, hf⟩; have F1 := Lib.hid hf; clear hf))
            | (go_at_call 9; ((with_reducible refine (hix1' _).mono ?_); rintro e w1' ⟨rfl, d, rfl⟩))
            | (go_at_call 9; ((with_reducible refine (hix2' _).mono ?_); rintro e w1' ⟨rfl, d2, rfl⟩))
            | (go_at_call 10; ((with_reducible refine (hri _).mono ?_); rintro e w2 ⟨rfl, hf⟩; have F2 := Lib.hid ((F1.out.trans (Fr.drewN _ _) (fun _ h => by cases h)).trans hf (fun _ h => by cases h)); clear hf))
            | (go_at_call 11; ((with_reducible refine (hkey _ (HD.out _ _ F3.out)).mono ?_); rintro e w4 ⟨rfl, hf⟩; have F4 := Lib.hid ((F3.out.trans (Fr.drewN _ _) (fun _ h => by cases h)).trans hf (fun _ h => by cases h)); clear hf))
            | (go_at_call 11; ((with_reducible refine (hkey _ (HD0.out _ F2.out)).mono ?_); rintro e w3 ⟨rfl, hf⟩; have F3 := Lib.hid (F2.out.trans hf (fun _ h => by cases h)); clear hf))
            | (go_at_call 12; ((with_reducible refine (hrk _).mono ?_); rintro e w5 ⟨rfl, hf⟩; have F5 := Lib.hid (F4.out.trans hf (fun _ h => by cases h)); clear hf))
            | fail)
          go_ret
          exact ⟨by first | rfl | (show Ending.returned (Value.bool _) = Ending.returned (Value.bool true); congr 2; simp <;> omega), HF.out _ F5.out⟩

        · have i1 : 2147483647 < n := by omega
          clear hin
          go_enter Tryd.func3, Tryd.ntmps3
          go_wp2_with (first
            | (go_at_call 8; ((with_reducible refine (haw _).mono ?_); rintro e w1 ⟨rfl, hf⟩; have F1 := Lib.hid hf; clear hf))
            | (go_at_call 9; ((with_reducible refine (hix1' _).mono ?_); rintro e w1' ⟨rfl, d, rfl⟩))
            | (go_at_call 9; ((with_reducible refine (hix2' _).mono ?_); rintro e w1' ⟨rfl, d2, rfl⟩))
            | (go_at_call 10; ((with_reducible refine (hri _).mono ?_); rintro e w2 ⟨rfl, hf⟩; have F2 := Lib.hid ((F1.out.trans (Fr.drewN _ _) (fun _ h => by cases h)).trans hf (fun _ h => by cases h)); clear hf))
            | (go_at_call 11; ((with_reducible refine (hkey _ (HD.out _ _ F3.out)).mono ?_); rintro e w4 ⟨rfl, hf⟩; have F4 := Lib.hid ((F3.out.trans (Fr.drewN _ _) (fun _ h => by cases h)).trans hf (fun _ h => by cases h)); clear hf))
            | (go_at_call 11; ((with_reducible refine (hkey _ (HD0.out _ F2.out)).mono ?_); rintro e w3 ⟨rfl, hf⟩; have F3 := Lib.hid (F2.out.trans hf (fun _ h => by cases h)); clear hf))
            | (go_at_call 12; ((with_reducible refine (hrk _).mono ?_); rintro e w5 ⟨rfl, hf⟩; have F5 := Lib.hid (F4.out.trans hf (fun _ h => by cases h)); clear hf))
            | fail)
          go_ret
          exact ⟨by first | rfl | (show Ending.returned (Value.bool _) = Ending.returned (Value.bool true); congr 2; simp <;> omega), HF.out _ F5.out⟩

end Go.Proofs.YtmndmnajgfabnaaDoor
