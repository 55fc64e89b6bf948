/- Layer 8: the law HeapShadows. Conditions: the tables that Key reads. -/
import Derived.Test.YtmndmnajgfabnaaDoorIb
namespace Go.Proofs.YtmndmnajgfabnaaDoor
open Go.RowKit Go.Maps
set_option linter.all false

def Pl (p : Int) (l : List (List UInt8 × V)) : Ob := ⟨1, p, 0, 0, 0, l, []⟩
theorem own_pl (p : Int) (l : List (List UInt8 × V)) (k : List UInt8) : (Pl p l).own k = lookP l k := by
  unfold Ob.own
  rw [if_neg (fun h => by cases h.1)]
  rfl
theorem look_one (k : List UInt8) (v : V) : lookP [(k, v)] k = some v := by simp [lookP]
def S3 : Hp := ⟨[Pl (-1) [], Pl 0 [], Pl 1 []], 17⟩
def S4 (k : List UInt8) (a : V) : Hp := ⟨[Pl (-1) [(k, a)], Pl 0 [], Pl 1 []], 16⟩
def S5 (k : List UInt8) (a b : V) : Hp := ⟨[Pl (-1) [(k, a)], Pl 0 [(k, b)], Pl 1 []], 15⟩
theorem s4_find (k : List UInt8) (a : V) : (S4 k a).find k 2 = some (0, a) := by
  simp [Hp.find, Hp.findF, S4, own_pl, look_one, Pl]
  simp [show ∀ p l, (⟨1, p, 0, 0, 0, l, []⟩ : Ob) = Pl p l from fun _ _ => rfl, own_pl, lookP]
theorem s5_find2 (k : List UInt8) (a b : V) : (S5 k a b).find k 2 = some (1, b) := by
  simp [Hp.find, Hp.findF, S5, own_pl, look_one, Pl]
  simp [show ∀ p l, (⟨1, p, 0, 0, 0, l, []⟩ : Ob) = Pl p l from fun _ _ => rfl, own_pl, lookP]
theorem s5_find0 (k : List UInt8) (a b : V) : (S5 k a b).find k 0 = some (0, a) := by
  simp [Hp.find, Hp.findF, S5, own_pl, look_one, Pl]
  simp [show ∀ p l, (⟨1, p, 0, 0, 0, l, []⟩ : Ob) = Pl p l from fun _ _ => rfl, own_pl, lookP]
theorem s4_put (k : List UInt8) (a : V) : S3.putOwn 0 (Pl (-1) []) k a = (0, S4 k a) := rfl
theorem s5_put (k : List UInt8) (a b : V) : (S4 k a).putOwn 1 (Pl 0 []) k b = (0, S5 k a b) := rfl
theorem s5_drop (k : List UInt8) (a b : V) : (⟨(S5 k a b).objs.set 1 { (Pl 0 [(k, b)]) with props := dropP (Pl 0 [(k, b)]).props k }, (S5 k a b).left + 1⟩ : Hp) = S4 k a := by
  have : dropP (Pl 0 [(k, b)]).props k = [] := by unfold dropP Pl; simp
  rw [this]
  rfl
theorem Bx.drew {N : Nat} {k : Int} {n : Nat} {S : ByteArray} {r : Int} {w : World} (H : Bx N k n S r w) : Bx N k n S r w.drew := H
theorem box_over2 {N : Nat} {k1 k2 r1 r2 : Int} {n1 n2 : Nat} {T1 T2 : ByteArray} {w w1 : World} (h1 : Bx N k1 n1 T1 r1 w1) (h2 : Bx (N + 1) k2 n2 T2 r2 w1) (hf : Fr [] w w1) (hN : w.heap.size ≤ N) (an bn : Nat) :
    Bx N 3 an ⟨#[]⟩ 0 ((((((((w1.setCell ⟨N, 0, none⟩ (.int .i64 3)).setCell ⟨N, 1, none⟩ (.float .f64 an)).setCell ⟨N, 2, none⟩ (.string ⟨#[]⟩)).setCell ⟨N, 3, none⟩ (.int .i64 0)).setCell ⟨N + 1, 0, none⟩ (.int .i64 3)).setCell ⟨N + 1, 1, none⟩ (.float .f64 bn)).setCell ⟨N + 1, 2, none⟩ (.string ⟨#[]⟩)).setCell ⟨N + 1, 3, none⟩ (.int .i64 0)) ∧
    Bx (N + 1) 3 bn ⟨#[]⟩ 0 ((((((((w1.setCell ⟨N, 0, none⟩ (.int .i64 3)).setCell ⟨N, 1, none⟩ (.float .f64 an)).setCell ⟨N, 2, none⟩ (.string ⟨#[]⟩)).setCell ⟨N, 3, none⟩ (.int .i64 0)).setCell ⟨N + 1, 0, none⟩ (.int .i64 3)).setCell ⟨N + 1, 1, none⟩ (.float .f64 bn)).setCell ⟨N + 1, 2, none⟩ (.string ⟨#[]⟩)).setCell ⟨N + 1, 3, none⟩ (.int .i64 0)) ∧
    Fr [] w ((((((((w1.setCell ⟨N, 0, none⟩ (.int .i64 3)).setCell ⟨N, 1, none⟩ (.float .f64 an)).setCell ⟨N, 2, none⟩ (.string ⟨#[]⟩)).setCell ⟨N, 3, none⟩ (.int .i64 0)).setCell ⟨N + 1, 0, none⟩ (.int .i64 3)).setCell ⟨N + 1, 1, none⟩ (.float .f64 bn)).setCell ⟨N + 1, 2, none⟩ (.string ⟨#[]⟩)).setCell ⟨N + 1, 3, none⟩ (.int .i64 0)) := by
  have e1 : N ≠ N + 1 := by omega
  have e2 : N + 1 ≠ N := by omega
  refine ⟨?_, ?_, ?_⟩
  · exact (heap_set_other e1 3 _).trans ((heap_set_other e1 2 _).trans ((heap_set_other e1 1 _).trans ((heap_set_other e1 0 _).trans (h1.over (k' := 3) (n' := an) (S' := ⟨#[]⟩) (r' := 0)))))
  · refine Bx.over (k := k2) (n := n2) (S := T2) (r := r2) ?_
    exact (heap_set_other e2 3 _).trans ((heap_set_other e2 2 _).trans ((heap_set_other e2 1 _).trans ((heap_set_other e2 0 _).trans h2)))
  · have g1 : ∀ z ∈ [N], z ∈ ([] : List Nat) ∨ w.heap.size ≤ z := fun z hz => Or.inr (by simp at hz; omega)
    have g2 : ∀ z ∈ [N + 1], z ∈ ([] : List Nat) ∨ w.heap.size ≤ z := fun z hz => Or.inr (by simp at hz; omega)
    exact (((((((hf.trans (Fr.set _ N 0 _) g1).trans (Fr.set _ N 1 _) g1).trans (Fr.set _ N 2 _) g1).trans (Fr.set _ N 3 _) g1).trans (Fr.set _ (N + 1) 0 _) g2).trans (Fr.set _ (N + 1) 1 _) g2).trans (Fr.set _ (N + 1) 2 _) g2).trans (Fr.set _ (N + 1) 3 _) g2
set_option maxRecDepth 100000 in
set_option maxHeartbeats 16000000 in
theorem law_shadows (N' : Nat) (k : List UInt8) (hk : k.length ≤ 140737488355328) (ak : Int) (an : Nat) (aT : ByteArray) (ar : Int) (bk : Int) (bn : Nat) (bT : ByteArray) (br : Int) (w : World) (hT : Tb N' w) :
    Calls Tryd.prog 7 #[.string (bs k), .agg #[.int .i64 ak, .float .f64 an, .string aT, .int .i64 ar], .agg #[.int .i64 bk, .float .f64 bn, .string bT, .int .i64 br]] w fun e w' => e = .returned (.bool true) ∧ Below w.heap.size w w' := by
  have hst := store_float
  have hsz := bs_size k
  obtain ⟨N, hN⟩ : ∃ N, N = w.heap.size := ⟨_, rfl⟩
  have haw := fun W => awake_any W
  have hB1 := (Bx.new ak an aT ar w).below ((Fr.alloc (w.alloc (.cells #[.int .i64 ak, .float .f64 an, .string aT, .int .i64 ar] 31 (0, 0))) (.cells #[.int .i64 bk, .float .f64 bn, .string bT, .int .i64 br] 31 (0, 0))).below0)
  have hB2 := Bx.new bk bn bT br (w.alloc (.cells #[.int .i64 ak, .float .f64 an, .string aT, .int .i64 ar] 31 (0, 0)))
  have hF := (Fr.alloc w (.cells #[.int .i64 ak, .float .f64 an, .string aT, .int .i64 ar] 31 (0, 0))).trans (Fr.alloc (w.alloc (.cells #[.int .i64 ak, .float .f64 an, .string aT, .int .i64 ar] 31 (0, 0))) (.cells #[.int .i64 bk, .float .f64 bn, .string bT, .int .i64 br] 31 (0, 0))) (fun _ h => by cases h)
  rw [heap_size] at hB2
  obtain ⟨S, hS⟩ : ∃ S, S = bs k := ⟨_, rfl⟩
  rw [← hS] at hsz ⊢
  have B1 := Lib.hid hB1
  have B2 := Lib.hid hB2
  have F0 := Lib.hid hF
  have HS := Lib.hid hS
  have HT := Lib.hid hT
  have HN := Lib.hid hN
  have HSZ := Lib.hid hsz
  have hS1 : S.size ≤ 140737488355328 := by omega
  clear hB1 hB2 hF hS hT hN hsz
  go_enter Tryd.func7, Tryd.ntmps7
  go_wp2_with fail
  refine (haw _).mono ?_
  rintro e w1 ⟨rfl, f1⟩
  have x1 := Lib.hid (B1.out.below f1.below0)
  have z1 := Lib.hid (B2.out.below f1.below0)
  have F1 := Lib.hid (F0.out.trans f1 (fun _ h => by cases h))
  clear f1 F0 B1 B2 haw
  have hP : Hid (∀ W, Fr [] w W → Below w.heap.size w W) := fun W hW => hW.below0
  by_cases hodd : S.size % 2 = 1
  · have h2 : ((S.size : Int) % 2 != 0) = true := by rw [bne_iff_ne]; omega
    clear hodd
    go_wp2_with fail
    go_ret
    exact ⟨rfl, hP.out _ F1.out⟩
  · have h2 : ((S.size : Int) % 2 != 0) = false := by rw [bne_eq_false_iff_eq]; omega
    clear hodd
    by_cases hbig : 400 < S.size
    · have h3 : (400 : Int) < (S.size : Int) := by omega
      go_wp2_with fail
      go_ret
      exact ⟨rfl, hP.out _ F1.out⟩
    · have h3 : ¬ (400 : Int) < (S.size : Int) := by omega
      obtain ⟨x10, x11, x12, x13⟩ := x1.out.cells
      obtain ⟨z10, z11, z12, z13⟩ := z1.out.cells
      have xf0 := blk_free x1.out 0
      have xf1 := blk_free x1.out 1
      have xf2 := blk_free x1.out 2
      have xf3 := blk_free x1.out 3
      have zf0 := blk_free z1.out 0
      have zf1 := blk_free z1.out 1
      have zf2 := blk_free z1.out 2
      have zf3 := blk_free z1.out 3
      by_cases hak : ak = 3
      · by_cases hbk : bk = 3
        · subst hak
          subst hbk
          go_wp2_with fail
          go_region
          obtain ⟨v1, v2, v3⟩ := box_over2 x1.out z1.out F1.out (Nat.le_refl _) an bn
          have u1 := Lib.hid v1.drew
          have u2 := Lib.hid v2.drew
          have u3 := Lib.hid v3.drew
          clear v1 v2 v3
          clear x10 x11 x12 x13 z10 z11 z12 z13 xf0 xf1 xf2 xf3 zf0 zf1 zf2 zf3 x1 z1 F1
          generalize ((((((((w1.setCell ⟨w.heap.size, 0, none⟩ (.int .i64 3)).setCell ⟨w.heap.size, 1, none⟩ (.float .f64 an)).setCell ⟨w.heap.size, 2, none⟩ (.string ⟨#[]⟩)).setCell ⟨w.heap.size, 3, none⟩ (.int .i64 0)).setCell ⟨w.heap.size + 1, 0, none⟩ (.int .i64 3)).setCell ⟨w.heap.size + 1, 1, none⟩ (.float .f64 bn)).setCell ⟨w.heap.size + 1, 2, none⟩ (.string ⟨#[]⟩)).setCell ⟨w.heap.size + 1, 3, none⟩ (.int .i64 0)).drew = W at u1 u2 u3 ⊢
          obtain ⟨P1, hP1⟩ : ∃ P, P = w.heap.size := ⟨_, rfl⟩
          obtain ⟨P2, hP2⟩ : ∃ P, P = w.heap.size + 1 := ⟨_, rfl⟩
          rw [← hP2] at u2 ⊢
          rw [← hP1] at u1 ⊢
          have HP1 := Lib.hid hP1
          have HP2 := Lib.hid hP2
          have HW := Lib.hid (show P1 < W.heap.size ∧ P2 < W.heap.size from ⟨lt_of_heap u1.out, lt_of_heap u2.out⟩)
          clear hP1 hP2
          have q1 := new_h 20 w W w.heap.size (u3.out.below0) u3.out.size [P1, P2] (fun M hM => by simp at hM; rcases hM with rfl | rfl; exact HW.out.1; exact HW.out.2)
          obtain ⟨h, hh⟩ : ∃ h, h = W.heap.size := ⟨_, rfl⟩
          rw [← hh] at q1
          obtain ⟨NN, hNN⟩ : ∃ NN, NN = w.heap.size := ⟨_, rfl⟩
          rw [← hNN] at q1
          have HNN := Lib.hid hNN
          have HHH := Lib.hid hh
          clear hNN hh
          go_wp2_with fail
          refine q1.mono ?_
          rintro e w2 ⟨rfl, n2⟩
          have h2' := Lib.hid n2.hv
          have p2 := Lib.hid (show Bx P1 3 an ⟨#[]⟩ 0 w2 from (n2.keep P1 (by simp)).trans u1.out)
          have r2 := Lib.hid (show Bx P2 3 bn ⟨#[]⟩ 0 w2 from (n2.keep P2 (by simp)).trans u2.out)
          have T2 := Lib.hid (HT.out.fr0 (Fr.of_below (show Below w.heap.size w w2 from by rw [← HNN.out]; exact n2.hv.loc.1)))
          clear q1 n2 u1 u2 u3 HW
          have c : Calls Tryd.prog 16 #[.pointer (some ⟨h, 0, none⟩), .int .i64 (-1)] w2 fun e w' => e = .returned (.tuple #[.int .i64 0, .int .i64 0]) ∧ Nx NN h ⟨[Pl (-1) []], 19⟩ [P1, P2] w w2 w' := plain_h h2'.out (-1) (few_of rfl)
          go_wp2_with fail
          refine c.mono ?_
          rintro e w3 ⟨rfl, n3⟩
          have h3' := Lib.hid n3.hv
          have p3 := Lib.hid (show Bx P1 3 an ⟨#[]⟩ 0 w3 from (n3.keep P1 (by simp)).trans p2.out)
          have r3 := Lib.hid (show Bx P2 3 bn ⟨#[]⟩ 0 w3 from (n3.keep P2 (by simp)).trans r2.out)
          clear c n3 h2' p2 r2
          have c : Calls Tryd.prog 16 #[.pointer (some ⟨h, 0, none⟩), .int .i64 0] w3 fun e w' => e = .returned (.tuple #[.int .i64 1, .int .i64 0]) ∧ Nx NN h ⟨[Pl (-1) [], Pl 0 []], 18⟩ [P1, P2] w w3 w' := plain_h h3'.out 0 (few_of rfl)
          go_wp2_with fail
          refine c.mono ?_
          rintro e w4 ⟨rfl, n4⟩
          have h4' := Lib.hid n4.hv
          have p4 := Lib.hid (show Bx P1 3 an ⟨#[]⟩ 0 w4 from (n4.keep P1 (by simp)).trans p3.out)
          have r4 := Lib.hid (show Bx P2 3 bn ⟨#[]⟩ 0 w4 from (n4.keep P2 (by simp)).trans r3.out)
          clear c n4 h3' p3 r3
          have c : Calls Tryd.prog 16 #[.pointer (some ⟨h, 0, none⟩), .int .i64 1] w4 fun e w' => e = .returned (.tuple #[.int .i64 2, .int .i64 0]) ∧ Nx NN h S3 [P1, P2] w w4 w' := plain_h h4'.out 1 (few_of rfl)
          go_wp2_with fail
          refine c.mono ?_
          rintro e w5 ⟨rfl, n5⟩
          have h5' := Lib.hid n5.hv
          have p5 := Lib.hid (show Bx P1 3 an ⟨#[]⟩ 0 w5 from (n5.keep P1 (by simp)).trans p4.out)
          have r5 := Lib.hid (show Bx P2 3 bn ⟨#[]⟩ 0 w5 from (n5.keep P2 (by simp)).trans r4.out)
          clear c n5 h4' p4 r4
          obtain ⟨a0, a1, a2, a3⟩ := p5.out.cells
          have c : Calls Tryd.prog 18 #[.pointer (some ⟨h, 0, none⟩), .int .i64 0, .string S, .agg #[.int .i64 3, .float .f64 an, .string ⟨#[]⟩, .int .i64 0]] w5 fun e w' => e = .returned (.int .i64 0) ∧ Nx NN h (S4 k (⟨3, an, [], 0⟩ : V)) [P1, P2] w w5 w' := by
            rw [HS.out]
            exact put_h h5'.out 0 (Pl (-1) []) rfl k hk 3 an [] (by simp) 0 (by decide) (rightV_num _ _) (few_of rfl)
          go_wp2_with fail
          refine c.mono ?_
          rintro e w6 ⟨rfl, n6⟩
          have h6' := Lib.hid n6.hv
          have p6 := Lib.hid (show Bx P1 3 an ⟨#[]⟩ 0 w6 from (n6.keep P1 (by simp)).trans p5.out)
          have r6 := Lib.hid (show Bx P2 3 bn ⟨#[]⟩ 0 w6 from (n6.keep P2 (by simp)).trans r5.out)
          clear c n6 h5' p5 r5 a0 a1 a2 a3
          have c : Calls Tryd.prog 24 #[.pointer (some ⟨h, 0, none⟩), .int .i64 2, .string S] w6 fun e w' => e = .returned (.tuple #[.agg #[.int .i64 3, .float .f64 an, .string ⟨#[]⟩, .int .i64 0], .bool true]) ∧ Nx NN h (S4 k (⟨3, an, [], 0⟩ : V)) [P1, P2] w w6 w' := by
            rw [HS.out]
            have := get_h h6'.out 2 k hk
            rw [s4_find] at this
            exact this
          go_wp2_with fail
          refine c.mono ?_
          rintro e w7 ⟨rfl, n7⟩
          have f7 := (Fr.alloc w7 (.cells #[.int .i64 3, .float .f64 an, .string ⟨#[]⟩, .int .i64 0] 31 (0, 0))).below0
          have h7' := Lib.hid (n7.hv.alloc (.cells #[.int .i64 3, .float .f64 an, .string ⟨#[]⟩, .int .i64 0] 31 (0, 0)))
          have p7 := Lib.hid (Bx.below (show Bx P1 3 an ⟨#[]⟩ 0 w7 from (n7.keep P1 (by simp)).trans p6.out) f7)
          have r7 := Lib.hid (Bx.below (show Bx P2 3 bn ⟨#[]⟩ 0 w7 from (n7.keep P2 (by simp)).trans r6.out) f7)
          have m7 := Lib.hid (Bx.new 3 an ⟨#[]⟩ 0 w7)
          clear c n7 h6' p6 r6 f7
          obtain ⟨M, hM⟩ : ∃ M, M = w7.heap.size := ⟨_, rfl⟩
          rw [← hM] at h7' m7
          have c : Calls Tryd.prog 23 #[.pointer (some ⟨h, 0, none⟩), .int .i64 2, .string S] (w7.alloc (.cells #[.int .i64 3, .float .f64 an, .string ⟨#[]⟩, .int .i64 0] 31 (0, 0))) fun e w' => e = .returned (.tuple #[.agg #[.int .i64 0, .float .f64 0, .string ⟨#[]⟩, .int .i64 0], .bool false]) ∧ Nx NN h (S4 k (⟨3, an, [], 0⟩ : V)) [M, P1, P2] w (w7.alloc (.cells #[.int .i64 3, .float .f64 an, .string ⟨#[]⟩, .int .i64 0] 31 (0, 0))) w' := by
            rw [HS.out]
            have := own_h h7'.out 2 (Pl 1 []) rfl k hk
            rw [own_pl] at this
            exact this
          go_wp2_with fail
          refine c.mono ?_
          rintro e w8 ⟨rfl, n8⟩
          rw [← hM]
          have HM := Lib.hid hM
          clear hM
          have f8 := (Fr.alloc w8 (.cells #[.int .i64 0, .float .f64 0, .string ⟨#[]⟩, .int .i64 0] 31 (0, 0))).below0
          have h8' := Lib.hid (n8.hv.alloc (.cells #[.int .i64 0, .float .f64 0, .string ⟨#[]⟩, .int .i64 0] 31 (0, 0)))
          have p8 := Lib.hid (Bx.below (show Bx P1 3 an ⟨#[]⟩ 0 w8 from (n8.keep P1 (by simp)).trans p7.out) f8)
          have r8 := Lib.hid (Bx.below (show Bx P2 3 bn ⟨#[]⟩ 0 w8 from (n8.keep P2 (by simp)).trans r7.out) f8)
          have m8 := Lib.hid (Bx.below (show Bx M 3 an ⟨#[]⟩ 0 w8 from (n8.keep M (by simp)).trans m7.out) f8)
          have pw := (n8.keep P1 (by simp)).trans p7.out
          have mw := (n8.keep M (by simp)).trans m7.out
          obtain ⟨a0, a1, a2, a3⟩ := Bx.cells (show Bx P1 3 an ⟨#[]⟩ 0 w8 from pw)
          obtain ⟨d0, d1, d2, d3⟩ := Bx.cells (show Bx M 3 an ⟨#[]⟩ 0 w8 from mw)
          have l1 : P1 < w8.heap.size := lt_of_heap pw
          have l2 : M < w8.heap.size := lt_of_heap mw
          clear c n8 h7' p7 r7 m7 f8 HM pw mw
          go_wp2_with fail
          refine (same8_self 3 an ⟨#[]⟩ 0 _).mono ?_
          rintro e w9 ⟨rfl, f9⟩
          have h9' := Lib.hid ((h8'.out.fr f9).hv)
          have p9 := Lib.hid (p8.out.below f9.below0)
          have r9 := Lib.hid (r8.out.below f9.below0)
          clear f9 h8' p8 r8 m8 l1 l2 a0 a1 a2 a3 d0 d1 d2 d3
          obtain ⟨a0, a1, a2, a3⟩ := r9.out.cells
          have c : Calls Tryd.prog 18 #[.pointer (some ⟨h, 0, none⟩), .int .i64 1, .string S, .agg #[.int .i64 3, .float .f64 bn, .string ⟨#[]⟩, .int .i64 0]] w9 fun e w' => e = .returned (.int .i64 0) ∧ Nx NN h (S5 k (⟨3, an, [], 0⟩ : V) (⟨3, bn, [], 0⟩ : V)) [P1, P2] w w9 w' := by
            rw [HS.out]
            exact put_h (h9'.out.sub (L' := [P1, P2]) (fun M hM => by simp at hM ⊢; omega)) 1 (Pl 0 []) rfl k hk 3 bn [] (by simp) 0 (by decide) (rightV_num _ _) (few_of rfl)
          go_wp2_with fail
          refine c.mono ?_
          rintro e w10 ⟨rfl, n10⟩
          have h10' := Lib.hid n10.hv
          have p10 := Lib.hid (show Bx P1 3 an ⟨#[]⟩ 0 w10 from (n10.keep P1 (by simp)).trans p9.out)
          have r10 := Lib.hid (show Bx P2 3 bn ⟨#[]⟩ 0 w10 from (n10.keep P2 (by simp)).trans r9.out)
          clear c n10 h9' p9 r9 a0 a1 a2 a3
          have c : Calls Tryd.prog 24 #[.pointer (some ⟨h, 0, none⟩), .int .i64 2, .string S] w10 fun e w' => e = .returned (.tuple #[.agg #[.int .i64 3, .float .f64 bn, .string ⟨#[]⟩, .int .i64 0], .bool true]) ∧ Nx NN h (S5 k (⟨3, an, [], 0⟩ : V) (⟨3, bn, [], 0⟩ : V)) [P1, P2] w w10 w' := by
            rw [HS.out]
            have := get_h h10'.out 2 k hk
            rw [s5_find2] at this
            exact this
          go_wp2_with fail
          refine c.mono ?_
          rintro e w11 ⟨rfl, n11⟩
          have f11 := (Fr.alloc w11 (.cells #[.int .i64 3, .float .f64 bn, .string ⟨#[]⟩, .int .i64 0] 31 (0, 0))).below0
          have h11' := Lib.hid (n11.hv.alloc (.cells #[.int .i64 3, .float .f64 bn, .string ⟨#[]⟩, .int .i64 0] 31 (0, 0)))
          have p11 := Lib.hid (Bx.below (show Bx P1 3 an ⟨#[]⟩ 0 w11 from (n11.keep P1 (by simp)).trans p10.out) f11)
          have r11 := Lib.hid (Bx.below (show Bx P2 3 bn ⟨#[]⟩ 0 w11 from (n11.keep P2 (by simp)).trans r10.out) f11)
          have m11 := Lib.hid (Bx.new 3 bn ⟨#[]⟩ 0 w11)
          clear c n11 h10' p10 r10 f11
          obtain ⟨M1, hM1⟩ : ∃ M, M = w11.heap.size := ⟨_, rfl⟩
          rw [← hM1] at h11' m11
          have c : Calls Tryd.prog 24 #[.pointer (some ⟨h, 0, none⟩), .int .i64 0, .string S] (w11.alloc (.cells #[.int .i64 3, .float .f64 bn, .string ⟨#[]⟩, .int .i64 0] 31 (0, 0))) fun e w' => e = .returned (.tuple #[.agg #[.int .i64 3, .float .f64 an, .string ⟨#[]⟩, .int .i64 0], .bool true]) ∧ Nx NN h (S5 k (⟨3, an, [], 0⟩ : V) (⟨3, bn, [], 0⟩ : V)) [M1, P1, P2] w (w11.alloc (.cells #[.int .i64 3, .float .f64 bn, .string ⟨#[]⟩, .int .i64 0] 31 (0, 0))) w' := by
            rw [HS.out]
            have := get_h h11'.out 0 k hk
            rw [s5_find0] at this
            exact this
          go_wp2_with fail
          refine c.mono ?_
          rintro e w12 ⟨rfl, n12⟩
          rw [← hM1]
          have HM1 := Lib.hid hM1
          clear hM1
          have f12 := (Fr.alloc w12 (.cells #[.int .i64 3, .float .f64 an, .string ⟨#[]⟩, .int .i64 0] 31 (0, 0))).below0
          have h12' := Lib.hid (n12.hv.alloc (.cells #[.int .i64 3, .float .f64 an, .string ⟨#[]⟩, .int .i64 0] 31 (0, 0)))
          have p12 := Lib.hid (Bx.below (show Bx P1 3 an ⟨#[]⟩ 0 w12 from (n12.keep P1 (by simp)).trans p11.out) f12)
          have r12 := Lib.hid (Bx.below (show Bx P2 3 bn ⟨#[]⟩ 0 w12 from (n12.keep P2 (by simp)).trans r11.out) f12)
          have m12 := Lib.hid (Bx.below (show Bx M1 3 bn ⟨#[]⟩ 0 w12 from (n12.keep M1 (by simp)).trans m11.out) f12)
          have o12 := Lib.hid (Bx.new 3 an ⟨#[]⟩ 0 w12)
          have pw := (n12.keep P2 (by simp)).trans r11.out
          have mw := (n12.keep M1 (by simp)).trans m11.out
          obtain ⟨a0, a1, a2, a3⟩ := Bx.cells (show Bx P2 3 bn ⟨#[]⟩ 0 w12 from pw)
          obtain ⟨d0, d1, d2, d3⟩ := Bx.cells (show Bx M1 3 bn ⟨#[]⟩ 0 w12 from mw)
          have l1 : P2 < w12.heap.size := lt_of_heap pw
          have l2 : M1 < w12.heap.size := lt_of_heap mw
          obtain ⟨M2, hM2⟩ : ∃ M, M = w12.heap.size := ⟨_, rfl⟩
          rw [← hM2] at h12' o12
          clear c n12 h11' p11 r11 m11 f12 HM1 pw mw
          go_wp2_with fail
          refine (same8_self 3 bn ⟨#[]⟩ 0 _).mono ?_
          rintro e w13 ⟨rfl, f13⟩
          rw [← hM2]
          have HM2 := Lib.hid hM2
          clear hM2
          have h13' := Lib.hid ((h12'.out.fr f13).hv)
          have p13 := Lib.hid (p12.out.below f13.below0)
          have r13 := Lib.hid (r12.out.below f13.below0)
          have o13 := Lib.hid (o12.out.below f13.below0)
          clear f13 h12' p12 r12 m12 o12 HM2 l1 l2 a0 a1 a2 a3 d0 d1 d2 d3
          obtain ⟨a0, a1, a2, a3⟩ := p13.out.cells
          obtain ⟨d0, d1, d2, d3⟩ := o13.out.cells
          go_wp2_with fail
          refine (same8_self 3 an ⟨#[]⟩ 0 _).mono ?_
          rintro e w14 ⟨rfl, f14⟩
          have h14' := Lib.hid ((h13'.out.fr f14).hv)
          have p14 := Lib.hid (p13.out.below f14.below0)
          clear f14 h13' p13 r13 o13 a0 a1 a2 a3 d0 d1 d2 d3
          have c : Calls Tryd.prog 26 #[.pointer (some ⟨h, 0, none⟩), .int .i64 1, .string S] w14 fun e w' => e = .returned (.bool true) ∧ Nx NN h (S4 k (⟨3, an, [], 0⟩ : V)) [P1] w w14 w' := by
            rw [HS.out]
            have := drop_h (h14'.out.sub (L' := [P1]) (fun M hM => by simp at hM ⊢; omega)) 1 (Pl 0 [(k, (⟨3, bn, [], 0⟩ : V))]) rfl k hk (by show (1 : Int) ≠ 2; decide) (⟨3, bn, [], 0⟩ : V) (look_one k _) (by rw [s5_drop]; exact few_of rfl)
            rw [s5_drop] at this
            exact this
          go_wp2_with fail
          refine c.mono ?_
          rintro e w15 ⟨rfl, n15⟩
          have h15' := Lib.hid n15.hv
          have p15 := Lib.hid (show Bx P1 3 an ⟨#[]⟩ 0 w15 from (n15.keep P1 (by simp)).trans p14.out)
          clear c n15 h14' p14
          have c : Calls Tryd.prog 24 #[.pointer (some ⟨h, 0, none⟩), .int .i64 2, .string S] w15 fun e w' => e = .returned (.tuple #[.agg #[.int .i64 3, .float .f64 an, .string ⟨#[]⟩, .int .i64 0], .bool true]) ∧ Nx NN h (S4 k (⟨3, an, [], 0⟩ : V)) [P1] w w15 w' := by
            rw [HS.out]
            have := get_h h15'.out 2 k hk
            rw [s4_find] at this
            exact this
          go_wp2_with fail
          refine c.mono ?_
          rintro e w16 ⟨rfl, n16⟩
          have f16 := (Fr.alloc w16 (.cells #[.int .i64 3, .float .f64 an, .string ⟨#[]⟩, .int .i64 0] 31 (0, 0))).below0
          have h16' := Lib.hid (n16.hv.alloc (.cells #[.int .i64 3, .float .f64 an, .string ⟨#[]⟩, .int .i64 0] 31 (0, 0)))
          have p16 := Lib.hid (Bx.below (show Bx P1 3 an ⟨#[]⟩ 0 w16 from (n16.keep P1 (by simp)).trans p15.out) f16)
          have m16 := Lib.hid (Bx.new 3 an ⟨#[]⟩ 0 w16)
          have pw := (n16.keep P1 (by simp)).trans p15.out
          obtain ⟨a0, a1, a2, a3⟩ := Bx.cells (show Bx P1 3 an ⟨#[]⟩ 0 w16 from pw)
          have l1 : P1 < w16.heap.size := lt_of_heap pw
          obtain ⟨M3, hM3⟩ : ∃ M, M = w16.heap.size := ⟨_, rfl⟩
          rw [← hM3] at h16' m16
          clear c n16 h15' p15 f16 pw
          go_wp2_with fail
          refine (same8_self 3 an ⟨#[]⟩ 0 _).mono ?_
          rintro e w17 ⟨rfl, f17⟩
          have h17' := Lib.hid ((h16'.out.fr f17).hv)
          rw [← hM3]
          have HM3 := Lib.hid hM3
          clear f17 h16' p16 m16 a0 a1 a2 a3 l1 hM3 HM3
          have hbl := Lib.hid (show Below w.heap.size w w17 from by rw [← HNN.out]; exact h17'.out.loc.1)
          have c : Calls Tryd.prog 17 #[.pointer (some ⟨h, 0, none⟩), .int .i64 2] w17 fun e w' => ∃ p cap, e = .returned (.slice p 0 cap) ∧ Nx NN h (S4 k (⟨3, an, [], 0⟩ : V)) [M3, P1] w w17 w' ∧ Fr [] w17 w' := by
            refine (keys_h h17'.out N' (HT.out.fr0 (Fr.of_below hbl.out)) 2 (Pl 1 []) rfl).mono ?_
            rintro e w' ⟨p, cap, rfl, _, hn, hf⟩
            exact ⟨p, cap, rfl, hn, hf⟩
          go_wp2_with fail
          refine c.mono ?_
          rintro e w18 ⟨pk, ck, rfl, n18, f18⟩
          have h18' := Lib.hid n18.hv
          clear c n18 f18 h17' hbl
          have hbl := Lib.hid (show Below w.heap.size w w18 from by rw [← HNN.out]; exact h18'.out.loc.1)
          have c : Calls Tryd.prog 17 #[.pointer (some ⟨h, 0, none⟩), .int .i64 0] w18 fun e w' => ∃ p cap, e = .returned (.slice p 1 cap) ∧ Below w.heap.size w w' := by
            refine (keys_h h18'.out N' (HT.out.fr0 (Fr.of_below hbl.out)) 0 (Pl (-1) [(k, (⟨3, an, [], 0⟩ : V))]) rfl).mono ?_
            rintro e w' ⟨p, cap, rfl, _, hn, hf⟩
            exact ⟨p, cap, rfl, by rw [← HNN.out]; exact hn.hv.loc.1⟩
          go_wp2_with fail
          refine c.mono ?_
          rintro e w19 ⟨pk2, ck2, rfl, b19⟩
          have HB := Lib.hid b19
          clear c b19 h18' hbl
          go_wp2_with fail
          go_ret
          exact ⟨rfl, HB.out⟩
        · have hb' : (bk != 3) = true := by simpa using hbk
          subst hak
          clear hbk
          go_wp2_with fail
          obtain ⟨v1, v2, v3⟩ := box_over2 x1.out z1.out F1.out (Nat.le_refl _) 4607182418800017408 4611686018427387904
          clear x10 x11 x12 x13 z10 z11 z12 z13 xf0 xf1 xf2 xf3 zf0 zf1 zf2 zf3 x1 z1 F1
          generalize ((((((((w1.setCell ⟨w.heap.size, 0, none⟩ (.int .i64 3)).setCell ⟨w.heap.size, 1, none⟩ (.float .f64 4607182418800017408)).setCell ⟨w.heap.size, 2, none⟩ (.string ⟨#[]⟩)).setCell ⟨w.heap.size, 3, none⟩ (.int .i64 0)).setCell ⟨w.heap.size + 1, 0, none⟩ (.int .i64 3)).setCell ⟨w.heap.size + 1, 1, none⟩ (.float .f64 4611686018427387904)).setCell ⟨w.heap.size + 1, 2, none⟩ (.string ⟨#[]⟩)).setCell ⟨w.heap.size + 1, 3, none⟩ (.int .i64 0)) = w1b at v1 v2 v3 ⊢
          generalize (4607182418800017408 : Nat) = cn1 at v1 ⊢
          generalize (4611686018427387904 : Nat) = cn2 at v2 ⊢
          have x1 := Lib.hid v1
          have z1 := Lib.hid v2
          have F1 := Lib.hid v3
          obtain ⟨x10, x11, x12, x13⟩ := v1.cells
          obtain ⟨z10, z11, z12, z13⟩ := v2.cells
          have xf0 := blk_free v1 0
          have xf1 := blk_free v1 1
          have xf2 := blk_free v1 2
          have xf3 := blk_free v1 3
          have zf0 := blk_free v2 0
          have zf1 := blk_free v2 1
          have zf2 := blk_free v2 2
          have zf3 := blk_free v2 3
          clear v1 v2 v3
          go_region
          obtain ⟨v1, v2, v3⟩ := box_over2 x1.out z1.out F1.out (Nat.le_refl _) cn1 cn2
          have u1 := Lib.hid v1.drew
          have u2 := Lib.hid v2.drew
          have u3 := Lib.hid v3.drew
          clear v1 v2 v3
          clear x10 x11 x12 x13 z10 z11 z12 z13 xf0 xf1 xf2 xf3 zf0 zf1 zf2 zf3 x1 z1 F1
          generalize ((((((((w1b.setCell ⟨w.heap.size, 0, none⟩ (.int .i64 3)).setCell ⟨w.heap.size, 1, none⟩ (.float .f64 cn1)).setCell ⟨w.heap.size, 2, none⟩ (.string ⟨#[]⟩)).setCell ⟨w.heap.size, 3, none⟩ (.int .i64 0)).setCell ⟨w.heap.size + 1, 0, none⟩ (.int .i64 3)).setCell ⟨w.heap.size + 1, 1, none⟩ (.float .f64 cn2)).setCell ⟨w.heap.size + 1, 2, none⟩ (.string ⟨#[]⟩)).setCell ⟨w.heap.size + 1, 3, none⟩ (.int .i64 0)).drew = W at u1 u2 u3 ⊢
          obtain ⟨P1, hP1⟩ : ∃ P, P = w.heap.size := ⟨_, rfl⟩
          obtain ⟨P2, hP2⟩ : ∃ P, P = w.heap.size + 1 := ⟨_, rfl⟩
          rw [← hP2] at u2 ⊢
          rw [← hP1] at u1 ⊢
          have HP1 := Lib.hid hP1
          have HP2 := Lib.hid hP2
          have HW := Lib.hid (show P1 < W.heap.size ∧ P2 < W.heap.size from ⟨lt_of_heap u1.out, lt_of_heap u2.out⟩)
          clear hP1 hP2
          have q1 := new_h 20 w W w.heap.size (u3.out.below0) u3.out.size [P1, P2] (fun M hM => by simp at hM; rcases hM with rfl | rfl; exact HW.out.1; exact HW.out.2)
          obtain ⟨h, hh⟩ : ∃ h, h = W.heap.size := ⟨_, rfl⟩
          rw [← hh] at q1
          obtain ⟨NN, hNN⟩ : ∃ NN, NN = w.heap.size := ⟨_, rfl⟩
          rw [← hNN] at q1
          have HNN := Lib.hid hNN
          have HHH := Lib.hid hh
          clear hNN hh
          go_wp2_with fail
          refine q1.mono ?_
          rintro e w2 ⟨rfl, n2⟩
          have h2' := Lib.hid n2.hv
          have p2 := Lib.hid (show Bx P1 3 cn1 ⟨#[]⟩ 0 w2 from (n2.keep P1 (by simp)).trans u1.out)
          have r2 := Lib.hid (show Bx P2 3 cn2 ⟨#[]⟩ 0 w2 from (n2.keep P2 (by simp)).trans u2.out)
          have T2 := Lib.hid (HT.out.fr0 (Fr.of_below (show Below w.heap.size w w2 from by rw [← HNN.out]; exact n2.hv.loc.1)))
          clear q1 n2 u1 u2 u3 HW
          have c : Calls Tryd.prog 16 #[.pointer (some ⟨h, 0, none⟩), .int .i64 (-1)] w2 fun e w' => e = .returned (.tuple #[.int .i64 0, .int .i64 0]) ∧ Nx NN h ⟨[Pl (-1) []], 19⟩ [P1, P2] w w2 w' := plain_h h2'.out (-1) (few_of rfl)
          go_wp2_with fail
          refine c.mono ?_
          rintro e w3 ⟨rfl, n3⟩
          have h3' := Lib.hid n3.hv
          have p3 := Lib.hid (show Bx P1 3 cn1 ⟨#[]⟩ 0 w3 from (n3.keep P1 (by simp)).trans p2.out)
          have r3 := Lib.hid (show Bx P2 3 cn2 ⟨#[]⟩ 0 w3 from (n3.keep P2 (by simp)).trans r2.out)
          clear c n3 h2' p2 r2
          have c : Calls Tryd.prog 16 #[.pointer (some ⟨h, 0, none⟩), .int .i64 0] w3 fun e w' => e = .returned (.tuple #[.int .i64 1, .int .i64 0]) ∧ Nx NN h ⟨[Pl (-1) [], Pl 0 []], 18⟩ [P1, P2] w w3 w' := plain_h h3'.out 0 (few_of rfl)
          go_wp2_with fail
          refine c.mono ?_
          rintro e w4 ⟨rfl, n4⟩
          have h4' := Lib.hid n4.hv
          have p4 := Lib.hid (show Bx P1 3 cn1 ⟨#[]⟩ 0 w4 from (n4.keep P1 (by simp)).trans p3.out)
          have r4 := Lib.hid (show Bx P2 3 cn2 ⟨#[]⟩ 0 w4 from (n4.keep P2 (by simp)).trans r3.out)
          clear c n4 h3' p3 r3
          have c : Calls Tryd.prog 16 #[.pointer (some ⟨h, 0, none⟩), .int .i64 1] w4 fun e w' => e = .returned (.tuple #[.int .i64 2, .int .i64 0]) ∧ Nx NN h S3 [P1, P2] w w4 w' := plain_h h4'.out 1 (few_of rfl)
          go_wp2_with fail
          refine c.mono ?_
          rintro e w5 ⟨rfl, n5⟩
          have h5' := Lib.hid n5.hv
          have p5 := Lib.hid (show Bx P1 3 cn1 ⟨#[]⟩ 0 w5 from (n5.keep P1 (by simp)).trans p4.out)
          have r5 := Lib.hid (show Bx P2 3 cn2 ⟨#[]⟩ 0 w5 from (n5.keep P2 (by simp)).trans r4.out)
          clear c n5 h4' p4 r4
          obtain ⟨a0, a1, a2, a3⟩ := p5.out.cells
          have c : Calls Tryd.prog 18 #[.pointer (some ⟨h, 0, none⟩), .int .i64 0, .string S, .agg #[.int .i64 3, .float .f64 cn1, .string ⟨#[]⟩, .int .i64 0]] w5 fun e w' => e = .returned (.int .i64 0) ∧ Nx NN h (S4 k (⟨3, cn1, [], 0⟩ : V)) [P1, P2] w w5 w' := by
            rw [HS.out]
            exact put_h h5'.out 0 (Pl (-1) []) rfl k hk 3 cn1 [] (by simp) 0 (by decide) (rightV_num _ _) (few_of rfl)
          go_wp2_with fail
          refine c.mono ?_
          rintro e w6 ⟨rfl, n6⟩
          have h6' := Lib.hid n6.hv
          have p6 := Lib.hid (show Bx P1 3 cn1 ⟨#[]⟩ 0 w6 from (n6.keep P1 (by simp)).trans p5.out)
          have r6 := Lib.hid (show Bx P2 3 cn2 ⟨#[]⟩ 0 w6 from (n6.keep P2 (by simp)).trans r5.out)
          clear c n6 h5' p5 r5 a0 a1 a2 a3
          have c : Calls Tryd.prog 24 #[.pointer (some ⟨h, 0, none⟩), .int .i64 2, .string S] w6 fun e w' => e = .returned (.tuple #[.agg #[.int .i64 3, .float .f64 cn1, .string ⟨#[]⟩, .int .i64 0], .bool true]) ∧ Nx NN h (S4 k (⟨3, cn1, [], 0⟩ : V)) [P1, P2] w w6 w' := by
            rw [HS.out]
            have := get_h h6'.out 2 k hk
            rw [s4_find] at this
            exact this
          go_wp2_with fail
          refine c.mono ?_
          rintro e w7 ⟨rfl, n7⟩
          have f7 := (Fr.alloc w7 (.cells #[.int .i64 3, .float .f64 cn1, .string ⟨#[]⟩, .int .i64 0] 31 (0, 0))).below0
          have h7' := Lib.hid (n7.hv.alloc (.cells #[.int .i64 3, .float .f64 cn1, .string ⟨#[]⟩, .int .i64 0] 31 (0, 0)))
          have p7 := Lib.hid (Bx.below (show Bx P1 3 cn1 ⟨#[]⟩ 0 w7 from (n7.keep P1 (by simp)).trans p6.out) f7)
          have r7 := Lib.hid (Bx.below (show Bx P2 3 cn2 ⟨#[]⟩ 0 w7 from (n7.keep P2 (by simp)).trans r6.out) f7)
          have m7 := Lib.hid (Bx.new 3 cn1 ⟨#[]⟩ 0 w7)
          clear c n7 h6' p6 r6 f7
          obtain ⟨M, hM⟩ : ∃ M, M = w7.heap.size := ⟨_, rfl⟩
          rw [← hM] at h7' m7
          have c : Calls Tryd.prog 23 #[.pointer (some ⟨h, 0, none⟩), .int .i64 2, .string S] (w7.alloc (.cells #[.int .i64 3, .float .f64 cn1, .string ⟨#[]⟩, .int .i64 0] 31 (0, 0))) fun e w' => e = .returned (.tuple #[.agg #[.int .i64 0, .float .f64 0, .string ⟨#[]⟩, .int .i64 0], .bool false]) ∧ Nx NN h (S4 k (⟨3, cn1, [], 0⟩ : V)) [M, P1, P2] w (w7.alloc (.cells #[.int .i64 3, .float .f64 cn1, .string ⟨#[]⟩, .int .i64 0] 31 (0, 0))) w' := by
            rw [HS.out]
            have := own_h h7'.out 2 (Pl 1 []) rfl k hk
            rw [own_pl] at this
            exact this
          go_wp2_with fail
          refine c.mono ?_
          rintro e w8 ⟨rfl, n8⟩
          rw [← hM]
          have HM := Lib.hid hM
          clear hM
          have f8 := (Fr.alloc w8 (.cells #[.int .i64 0, .float .f64 0, .string ⟨#[]⟩, .int .i64 0] 31 (0, 0))).below0
          have h8' := Lib.hid (n8.hv.alloc (.cells #[.int .i64 0, .float .f64 0, .string ⟨#[]⟩, .int .i64 0] 31 (0, 0)))
          have p8 := Lib.hid (Bx.below (show Bx P1 3 cn1 ⟨#[]⟩ 0 w8 from (n8.keep P1 (by simp)).trans p7.out) f8)
          have r8 := Lib.hid (Bx.below (show Bx P2 3 cn2 ⟨#[]⟩ 0 w8 from (n8.keep P2 (by simp)).trans r7.out) f8)
          have m8 := Lib.hid (Bx.below (show Bx M 3 cn1 ⟨#[]⟩ 0 w8 from (n8.keep M (by simp)).trans m7.out) f8)
          have pw := (n8.keep P1 (by simp)).trans p7.out
          have mw := (n8.keep M (by simp)).trans m7.out
          obtain ⟨a0, a1, a2, a3⟩ := Bx.cells (show Bx P1 3 cn1 ⟨#[]⟩ 0 w8 from pw)
          obtain ⟨d0, d1, d2, d3⟩ := Bx.cells (show Bx M 3 cn1 ⟨#[]⟩ 0 w8 from mw)
          have l1 : P1 < w8.heap.size := lt_of_heap pw
          have l2 : M < w8.heap.size := lt_of_heap mw
          clear c n8 h7' p7 r7 m7 f8 HM pw mw
          go_wp2_with fail
          refine (same8_self 3 cn1 ⟨#[]⟩ 0 _).mono ?_
          rintro e w9 ⟨rfl, f9⟩
          have h9' := Lib.hid ((h8'.out.fr f9).hv)
          have p9 := Lib.hid (p8.out.below f9.below0)
          have r9 := Lib.hid (r8.out.below f9.below0)
          clear f9 h8' p8 r8 m8 l1 l2 a0 a1 a2 a3 d0 d1 d2 d3
          obtain ⟨a0, a1, a2, a3⟩ := r9.out.cells
          have c : Calls Tryd.prog 18 #[.pointer (some ⟨h, 0, none⟩), .int .i64 1, .string S, .agg #[.int .i64 3, .float .f64 cn2, .string ⟨#[]⟩, .int .i64 0]] w9 fun e w' => e = .returned (.int .i64 0) ∧ Nx NN h (S5 k (⟨3, cn1, [], 0⟩ : V) (⟨3, cn2, [], 0⟩ : V)) [P1, P2] w w9 w' := by
            rw [HS.out]
            exact put_h (h9'.out.sub (L' := [P1, P2]) (fun M hM => by simp at hM ⊢; omega)) 1 (Pl 0 []) rfl k hk 3 cn2 [] (by simp) 0 (by decide) (rightV_num _ _) (few_of rfl)
          go_wp2_with fail
          refine c.mono ?_
          rintro e w10 ⟨rfl, n10⟩
          have h10' := Lib.hid n10.hv
          have p10 := Lib.hid (show Bx P1 3 cn1 ⟨#[]⟩ 0 w10 from (n10.keep P1 (by simp)).trans p9.out)
          have r10 := Lib.hid (show Bx P2 3 cn2 ⟨#[]⟩ 0 w10 from (n10.keep P2 (by simp)).trans r9.out)
          clear c n10 h9' p9 r9 a0 a1 a2 a3
          have c : Calls Tryd.prog 24 #[.pointer (some ⟨h, 0, none⟩), .int .i64 2, .string S] w10 fun e w' => e = .returned (.tuple #[.agg #[.int .i64 3, .float .f64 cn2, .string ⟨#[]⟩, .int .i64 0], .bool true]) ∧ Nx NN h (S5 k (⟨3, cn1, [], 0⟩ : V) (⟨3, cn2, [], 0⟩ : V)) [P1, P2] w w10 w' := by
            rw [HS.out]
            have := get_h h10'.out 2 k hk
            rw [s5_find2] at this
            exact this
          go_wp2_with fail
          refine c.mono ?_
          rintro e w11 ⟨rfl, n11⟩
          have f11 := (Fr.alloc w11 (.cells #[.int .i64 3, .float .f64 cn2, .string ⟨#[]⟩, .int .i64 0] 31 (0, 0))).below0
          have h11' := Lib.hid (n11.hv.alloc (.cells #[.int .i64 3, .float .f64 cn2, .string ⟨#[]⟩, .int .i64 0] 31 (0, 0)))
          have p11 := Lib.hid (Bx.below (show Bx P1 3 cn1 ⟨#[]⟩ 0 w11 from (n11.keep P1 (by simp)).trans p10.out) f11)
          have r11 := Lib.hid (Bx.below (show Bx P2 3 cn2 ⟨#[]⟩ 0 w11 from (n11.keep P2 (by simp)).trans r10.out) f11)
          have m11 := Lib.hid (Bx.new 3 cn2 ⟨#[]⟩ 0 w11)
          clear c n11 h10' p10 r10 f11
          obtain ⟨M1, hM1⟩ : ∃ M, M = w11.heap.size := ⟨_, rfl⟩
          rw [← hM1] at h11' m11
          have c : Calls Tryd.prog 24 #[.pointer (some ⟨h, 0, none⟩), .int .i64 0, .string S] (w11.alloc (.cells #[.int .i64 3, .float .f64 cn2, .string ⟨#[]⟩, .int .i64 0] 31 (0, 0))) fun e w' => e = .returned (.tuple #[.agg #[.int .i64 3, .float .f64 cn1, .string ⟨#[]⟩, .int .i64 0], .bool true]) ∧ Nx NN h (S5 k (⟨3, cn1, [], 0⟩ : V) (⟨3, cn2, [], 0⟩ : V)) [M1, P1, P2] w (w11.alloc (.cells #[.int .i64 3, .float .f64 cn2, .string ⟨#[]⟩, .int .i64 0] 31 (0, 0))) w' := by
            rw [HS.out]
            have := get_h h11'.out 0 k hk
            rw [s5_find0] at this
            exact this
          go_wp2_with fail
          refine c.mono ?_
          rintro e w12 ⟨rfl, n12⟩
          rw [← hM1]
          have HM1 := Lib.hid hM1
          clear hM1
          have f12 := (Fr.alloc w12 (.cells #[.int .i64 3, .float .f64 cn1, .string ⟨#[]⟩, .int .i64 0] 31 (0, 0))).below0
          have h12' := Lib.hid (n12.hv.alloc (.cells #[.int .i64 3, .float .f64 cn1, .string ⟨#[]⟩, .int .i64 0] 31 (0, 0)))
          have p12 := Lib.hid (Bx.below (show Bx P1 3 cn1 ⟨#[]⟩ 0 w12 from (n12.keep P1 (by simp)).trans p11.out) f12)
          have r12 := Lib.hid (Bx.below (show Bx P2 3 cn2 ⟨#[]⟩ 0 w12 from (n12.keep P2 (by simp)).trans r11.out) f12)
          have m12 := Lib.hid (Bx.below (show Bx M1 3 cn2 ⟨#[]⟩ 0 w12 from (n12.keep M1 (by simp)).trans m11.out) f12)
          have o12 := Lib.hid (Bx.new 3 cn1 ⟨#[]⟩ 0 w12)
          have pw := (n12.keep P2 (by simp)).trans r11.out
          have mw := (n12.keep M1 (by simp)).trans m11.out
          obtain ⟨a0, a1, a2, a3⟩ := Bx.cells (show Bx P2 3 cn2 ⟨#[]⟩ 0 w12 from pw)
          obtain ⟨d0, d1, d2, d3⟩ := Bx.cells (show Bx M1 3 cn2 ⟨#[]⟩ 0 w12 from mw)
          have l1 : P2 < w12.heap.size := lt_of_heap pw
          have l2 : M1 < w12.heap.size := lt_of_heap mw
          obtain ⟨M2, hM2⟩ : ∃ M, M = w12.heap.size := ⟨_, rfl⟩
          rw [← hM2] at h12' o12
          clear c n12 h11' p11 r11 m11 f12 HM1 pw mw
          go_wp2_with fail
          refine (same8_self 3 cn2 ⟨#[]⟩ 0 _).mono ?_
          rintro e w13 ⟨rfl, f13⟩
          rw [← hM2]
          have HM2 := Lib.hid hM2
          clear hM2
          have h13' := Lib.hid ((h12'.out.fr f13).hv)
          have p13 := Lib.hid (p12.out.below f13.below0)
          have r13 := Lib.hid (r12.out.below f13.below0)
          have o13 := Lib.hid (o12.out.below f13.below0)
          clear f13 h12' p12 r12 m12 o12 HM2 l1 l2 a0 a1 a2 a3 d0 d1 d2 d3
          obtain ⟨a0, a1, a2, a3⟩ := p13.out.cells
          obtain ⟨d0, d1, d2, d3⟩ := o13.out.cells
          go_wp2_with fail
          refine (same8_self 3 cn1 ⟨#[]⟩ 0 _).mono ?_
          rintro e w14 ⟨rfl, f14⟩
          have h14' := Lib.hid ((h13'.out.fr f14).hv)
          have p14 := Lib.hid (p13.out.below f14.below0)
          clear f14 h13' p13 r13 o13 a0 a1 a2 a3 d0 d1 d2 d3
          have c : Calls Tryd.prog 26 #[.pointer (some ⟨h, 0, none⟩), .int .i64 1, .string S] w14 fun e w' => e = .returned (.bool true) ∧ Nx NN h (S4 k (⟨3, cn1, [], 0⟩ : V)) [P1] w w14 w' := by
            rw [HS.out]
            have := drop_h (h14'.out.sub (L' := [P1]) (fun M hM => by simp at hM ⊢; omega)) 1 (Pl 0 [(k, (⟨3, cn2, [], 0⟩ : V))]) rfl k hk (by show (1 : Int) ≠ 2; decide) (⟨3, cn2, [], 0⟩ : V) (look_one k _) (by rw [s5_drop]; exact few_of rfl)
            rw [s5_drop] at this
            exact this
          go_wp2_with fail
          refine c.mono ?_
          rintro e w15 ⟨rfl, n15⟩
          have h15' := Lib.hid n15.hv
          have p15 := Lib.hid (show Bx P1 3 cn1 ⟨#[]⟩ 0 w15 from (n15.keep P1 (by simp)).trans p14.out)
          clear c n15 h14' p14
          have c : Calls Tryd.prog 24 #[.pointer (some ⟨h, 0, none⟩), .int .i64 2, .string S] w15 fun e w' => e = .returned (.tuple #[.agg #[.int .i64 3, .float .f64 cn1, .string ⟨#[]⟩, .int .i64 0], .bool true]) ∧ Nx NN h (S4 k (⟨3, cn1, [], 0⟩ : V)) [P1] w w15 w' := by
            rw [HS.out]
            have := get_h h15'.out 2 k hk
            rw [s4_find] at this
            exact this
          go_wp2_with fail
          refine c.mono ?_
          rintro e w16 ⟨rfl, n16⟩
          have f16 := (Fr.alloc w16 (.cells #[.int .i64 3, .float .f64 cn1, .string ⟨#[]⟩, .int .i64 0] 31 (0, 0))).below0
          have h16' := Lib.hid (n16.hv.alloc (.cells #[.int .i64 3, .float .f64 cn1, .string ⟨#[]⟩, .int .i64 0] 31 (0, 0)))
          have p16 := Lib.hid (Bx.below (show Bx P1 3 cn1 ⟨#[]⟩ 0 w16 from (n16.keep P1 (by simp)).trans p15.out) f16)
          have m16 := Lib.hid (Bx.new 3 cn1 ⟨#[]⟩ 0 w16)
          have pw := (n16.keep P1 (by simp)).trans p15.out
          obtain ⟨a0, a1, a2, a3⟩ := Bx.cells (show Bx P1 3 cn1 ⟨#[]⟩ 0 w16 from pw)
          have l1 : P1 < w16.heap.size := lt_of_heap pw
          obtain ⟨M3, hM3⟩ : ∃ M, M = w16.heap.size := ⟨_, rfl⟩
          rw [← hM3] at h16' m16
          clear c n16 h15' p15 f16 pw
          go_wp2_with fail
          refine (same8_self 3 cn1 ⟨#[]⟩ 0 _).mono ?_
          rintro e w17 ⟨rfl, f17⟩
          have h17' := Lib.hid ((h16'.out.fr f17).hv)
          rw [← hM3]
          have HM3 := Lib.hid hM3
          clear f17 h16' p16 m16 a0 a1 a2 a3 l1 hM3 HM3
          have hbl := Lib.hid (show Below w.heap.size w w17 from by rw [← HNN.out]; exact h17'.out.loc.1)
          have c : Calls Tryd.prog 17 #[.pointer (some ⟨h, 0, none⟩), .int .i64 2] w17 fun e w' => ∃ p cap, e = .returned (.slice p 0 cap) ∧ Nx NN h (S4 k (⟨3, cn1, [], 0⟩ : V)) [M3, P1] w w17 w' ∧ Fr [] w17 w' := by
            refine (keys_h h17'.out N' (HT.out.fr0 (Fr.of_below hbl.out)) 2 (Pl 1 []) rfl).mono ?_
            rintro e w' ⟨p, cap, rfl, _, hn, hf⟩
            exact ⟨p, cap, rfl, hn, hf⟩
          go_wp2_with fail
          refine c.mono ?_
          rintro e w18 ⟨pk, ck, rfl, n18, f18⟩
          have h18' := Lib.hid n18.hv
          clear c n18 f18 h17' hbl
          have hbl := Lib.hid (show Below w.heap.size w w18 from by rw [← HNN.out]; exact h18'.out.loc.1)
          have c : Calls Tryd.prog 17 #[.pointer (some ⟨h, 0, none⟩), .int .i64 0] w18 fun e w' => ∃ p cap, e = .returned (.slice p 1 cap) ∧ Below w.heap.size w w' := by
            refine (keys_h h18'.out N' (HT.out.fr0 (Fr.of_below hbl.out)) 0 (Pl (-1) [(k, (⟨3, cn1, [], 0⟩ : V))]) rfl).mono ?_
            rintro e w' ⟨p, cap, rfl, _, hn, hf⟩
            exact ⟨p, cap, rfl, by rw [← HNN.out]; exact hn.hv.loc.1⟩
          go_wp2_with fail
          refine c.mono ?_
          rintro e w19 ⟨pk2, ck2, rfl, b19⟩
          have HB := Lib.hid b19
          clear c b19 h18' hbl
          go_wp2_with fail
          go_ret
          exact ⟨rfl, HB.out⟩
      · have hb' : (ak != 3) = true := by simpa using hak
        clear hak
        go_wp2_with fail
        obtain ⟨v1, v2, v3⟩ := box_over2 x1.out z1.out F1.out (Nat.le_refl _) 4607182418800017408 4611686018427387904
        clear x10 x11 x12 x13 z10 z11 z12 z13 xf0 xf1 xf2 xf3 zf0 zf1 zf2 zf3 x1 z1 F1
        generalize ((((((((w1.setCell ⟨w.heap.size, 0, none⟩ (.int .i64 3)).setCell ⟨w.heap.size, 1, none⟩ (.float .f64 4607182418800017408)).setCell ⟨w.heap.size, 2, none⟩ (.string ⟨#[]⟩)).setCell ⟨w.heap.size, 3, none⟩ (.int .i64 0)).setCell ⟨w.heap.size + 1, 0, none⟩ (.int .i64 3)).setCell ⟨w.heap.size + 1, 1, none⟩ (.float .f64 4611686018427387904)).setCell ⟨w.heap.size + 1, 2, none⟩ (.string ⟨#[]⟩)).setCell ⟨w.heap.size + 1, 3, none⟩ (.int .i64 0)) = w1b at v1 v2 v3 ⊢
        generalize (4607182418800017408 : Nat) = cn1 at v1 ⊢
        generalize (4611686018427387904 : Nat) = cn2 at v2 ⊢
        have x1 := Lib.hid v1
        have z1 := Lib.hid v2
        have F1 := Lib.hid v3
        obtain ⟨x10, x11, x12, x13⟩ := v1.cells
        obtain ⟨z10, z11, z12, z13⟩ := v2.cells
        have xf0 := blk_free v1 0
        have xf1 := blk_free v1 1
        have xf2 := blk_free v1 2
        have xf3 := blk_free v1 3
        have zf0 := blk_free v2 0
        have zf1 := blk_free v2 1
        have zf2 := blk_free v2 2
        have zf3 := blk_free v2 3
        clear v1 v2 v3
        go_region
        obtain ⟨v1, v2, v3⟩ := box_over2 x1.out z1.out F1.out (Nat.le_refl _) cn1 cn2
        have u1 := Lib.hid v1.drew
        have u2 := Lib.hid v2.drew
        have u3 := Lib.hid v3.drew
        clear v1 v2 v3
        clear x10 x11 x12 x13 z10 z11 z12 z13 xf0 xf1 xf2 xf3 zf0 zf1 zf2 zf3 x1 z1 F1
        generalize ((((((((w1b.setCell ⟨w.heap.size, 0, none⟩ (.int .i64 3)).setCell ⟨w.heap.size, 1, none⟩ (.float .f64 cn1)).setCell ⟨w.heap.size, 2, none⟩ (.string ⟨#[]⟩)).setCell ⟨w.heap.size, 3, none⟩ (.int .i64 0)).setCell ⟨w.heap.size + 1, 0, none⟩ (.int .i64 3)).setCell ⟨w.heap.size + 1, 1, none⟩ (.float .f64 cn2)).setCell ⟨w.heap.size + 1, 2, none⟩ (.string ⟨#[]⟩)).setCell ⟨w.heap.size + 1, 3, none⟩ (.int .i64 0)).drew = W at u1 u2 u3 ⊢
        obtain ⟨P1, hP1⟩ : ∃ P, P = w.heap.size := ⟨_, rfl⟩
        obtain ⟨P2, hP2⟩ : ∃ P, P = w.heap.size + 1 := ⟨_, rfl⟩
        rw [← hP2] at u2 ⊢
        rw [← hP1] at u1 ⊢
        have HP1 := Lib.hid hP1
        have HP2 := Lib.hid hP2
        have HW := Lib.hid (show P1 < W.heap.size ∧ P2 < W.heap.size from ⟨lt_of_heap u1.out, lt_of_heap u2.out⟩)
        clear hP1 hP2
        have q1 := new_h 20 w W w.heap.size (u3.out.below0) u3.out.size [P1, P2] (fun M hM => by simp at hM; rcases hM with rfl | rfl; exact HW.out.1; exact HW.out.2)
        obtain ⟨h, hh⟩ : ∃ h, h = W.heap.size := ⟨_, rfl⟩
        rw [← hh] at q1
        obtain ⟨NN, hNN⟩ : ∃ NN, NN = w.heap.size := ⟨_, rfl⟩
        rw [← hNN] at q1
        have HNN := Lib.hid hNN
        have HHH := Lib.hid hh
        clear hNN hh
        go_wp2_with fail
        refine q1.mono ?_
        rintro e w2 ⟨rfl, n2⟩
        have h2' := Lib.hid n2.hv
        have p2 := Lib.hid (show Bx P1 3 cn1 ⟨#[]⟩ 0 w2 from (n2.keep P1 (by simp)).trans u1.out)
        have r2 := Lib.hid (show Bx P2 3 cn2 ⟨#[]⟩ 0 w2 from (n2.keep P2 (by simp)).trans u2.out)
        have T2 := Lib.hid (HT.out.fr0 (Fr.of_below (show Below w.heap.size w w2 from by rw [← HNN.out]; exact n2.hv.loc.1)))
        clear q1 n2 u1 u2 u3 HW
        have c : Calls Tryd.prog 16 #[.pointer (some ⟨h, 0, none⟩), .int .i64 (-1)] w2 fun e w' => e = .returned (.tuple #[.int .i64 0, .int .i64 0]) ∧ Nx NN h ⟨[Pl (-1) []], 19⟩ [P1, P2] w w2 w' := plain_h h2'.out (-1) (few_of rfl)
        go_wp2_with fail
        refine c.mono ?_
        rintro e w3 ⟨rfl, n3⟩
        have h3' := Lib.hid n3.hv
        have p3 := Lib.hid (show Bx P1 3 cn1 ⟨#[]⟩ 0 w3 from (n3.keep P1 (by simp)).trans p2.out)
        have r3 := Lib.hid (show Bx P2 3 cn2 ⟨#[]⟩ 0 w3 from (n3.keep P2 (by simp)).trans r2.out)
        clear c n3 h2' p2 r2
        have c : Calls Tryd.prog 16 #[.pointer (some ⟨h, 0, none⟩), .int .i64 0] w3 fun e w' => e = .returned (.tuple #[.int .i64 1, .int .i64 0]) ∧ Nx NN h ⟨[Pl (-1) [], Pl 0 []], 18⟩ [P1, P2] w w3 w' := plain_h h3'.out 0 (few_of rfl)
        go_wp2_with fail
        refine c.mono ?_
        rintro e w4 ⟨rfl, n4⟩
        have h4' := Lib.hid n4.hv
        have p4 := Lib.hid (show Bx P1 3 cn1 ⟨#[]⟩ 0 w4 from (n4.keep P1 (by simp)).trans p3.out)
        have r4 := Lib.hid (show Bx P2 3 cn2 ⟨#[]⟩ 0 w4 from (n4.keep P2 (by simp)).trans r3.out)
        clear c n4 h3' p3 r3
        have c : Calls Tryd.prog 16 #[.pointer (some ⟨h, 0, none⟩), .int .i64 1] w4 fun e w' => e = .returned (.tuple #[.int .i64 2, .int .i64 0]) ∧ Nx NN h S3 [P1, P2] w w4 w' := plain_h h4'.out 1 (few_of rfl)
        go_wp2_with fail
        refine c.mono ?_
        rintro e w5 ⟨rfl, n5⟩
        have h5' := Lib.hid n5.hv
        have p5 := Lib.hid (show Bx P1 3 cn1 ⟨#[]⟩ 0 w5 from (n5.keep P1 (by simp)).trans p4.out)
        have r5 := Lib.hid (show Bx P2 3 cn2 ⟨#[]⟩ 0 w5 from (n5.keep P2 (by simp)).trans r4.out)
        clear c n5 h4' p4 r4
        obtain ⟨a0, a1, a2, a3⟩ := p5.out.cells
        have c : Calls Tryd.prog 18 #[.pointer (some ⟨h, 0, none⟩), .int .i64 0, .string S, .agg #[.int .i64 3, .float .f64 cn1, .string ⟨#[]⟩, .int .i64 0]] w5 fun e w' => e = .returned (.int .i64 0) ∧ Nx NN h (S4 k (⟨3, cn1, [], 0⟩ : V)) [P1, P2] w w5 w' := by
          rw [HS.out]
          exact put_h h5'.out 0 (Pl (-1) []) rfl k hk 3 cn1 [] (by simp) 0 (by decide) (rightV_num _ _) (few_of rfl)
        go_wp2_with fail
        refine c.mono ?_
        rintro e w6 ⟨rfl, n6⟩
        have h6' := Lib.hid n6.hv
        have p6 := Lib.hid (show Bx P1 3 cn1 ⟨#[]⟩ 0 w6 from (n6.keep P1 (by simp)).trans p5.out)
        have r6 := Lib.hid (show Bx P2 3 cn2 ⟨#[]⟩ 0 w6 from (n6.keep P2 (by simp)).trans r5.out)
        clear c n6 h5' p5 r5 a0 a1 a2 a3
        have c : Calls Tryd.prog 24 #[.pointer (some ⟨h, 0, none⟩), .int .i64 2, .string S] w6 fun e w' => e = .returned (.tuple #[.agg #[.int .i64 3, .float .f64 cn1, .string ⟨#[]⟩, .int .i64 0], .bool true]) ∧ Nx NN h (S4 k (⟨3, cn1, [], 0⟩ : V)) [P1, P2] w w6 w' := by
          rw [HS.out]
          have := get_h h6'.out 2 k hk
          rw [s4_find] at this
          exact this
        go_wp2_with fail
        refine c.mono ?_
        rintro e w7 ⟨rfl, n7⟩
        have f7 := (Fr.alloc w7 (.cells #[.int .i64 3, .float .f64 cn1, .string ⟨#[]⟩, .int .i64 0] 31 (0, 0))).below0
        have h7' := Lib.hid (n7.hv.alloc (.cells #[.int .i64 3, .float .f64 cn1, .string ⟨#[]⟩, .int .i64 0] 31 (0, 0)))
        have p7 := Lib.hid (Bx.below (show Bx P1 3 cn1 ⟨#[]⟩ 0 w7 from (n7.keep P1 (by simp)).trans p6.out) f7)
        have r7 := Lib.hid (Bx.below (show Bx P2 3 cn2 ⟨#[]⟩ 0 w7 from (n7.keep P2 (by simp)).trans r6.out) f7)
        have m7 := Lib.hid (Bx.new 3 cn1 ⟨#[]⟩ 0 w7)
        clear c n7 h6' p6 r6 f7
        obtain ⟨M, hM⟩ : ∃ M, M = w7.heap.size := ⟨_, rfl⟩
        rw [← hM] at h7' m7
        have c : Calls Tryd.prog 23 #[.pointer (some ⟨h, 0, none⟩), .int .i64 2, .string S] (w7.alloc (.cells #[.int .i64 3, .float .f64 cn1, .string ⟨#[]⟩, .int .i64 0] 31 (0, 0))) fun e w' => e = .returned (.tuple #[.agg #[.int .i64 0, .float .f64 0, .string ⟨#[]⟩, .int .i64 0], .bool false]) ∧ Nx NN h (S4 k (⟨3, cn1, [], 0⟩ : V)) [M, P1, P2] w (w7.alloc (.cells #[.int .i64 3, .float .f64 cn1, .string ⟨#[]⟩, .int .i64 0] 31 (0, 0))) w' := by
          rw [HS.out]
          have := own_h h7'.out 2 (Pl 1 []) rfl k hk
          rw [own_pl] at this
          exact this
        go_wp2_with fail
        refine c.mono ?_
        rintro e w8 ⟨rfl, n8⟩
        rw [← hM]
        have HM := Lib.hid hM
        clear hM
        have f8 := (Fr.alloc w8 (.cells #[.int .i64 0, .float .f64 0, .string ⟨#[]⟩, .int .i64 0] 31 (0, 0))).below0
        have h8' := Lib.hid (n8.hv.alloc (.cells #[.int .i64 0, .float .f64 0, .string ⟨#[]⟩, .int .i64 0] 31 (0, 0)))
        have p8 := Lib.hid (Bx.below (show Bx P1 3 cn1 ⟨#[]⟩ 0 w8 from (n8.keep P1 (by simp)).trans p7.out) f8)
        have r8 := Lib.hid (Bx.below (show Bx P2 3 cn2 ⟨#[]⟩ 0 w8 from (n8.keep P2 (by simp)).trans r7.out) f8)
        have m8 := Lib.hid (Bx.below (show Bx M 3 cn1 ⟨#[]⟩ 0 w8 from (n8.keep M (by simp)).trans m7.out) f8)
        have pw := (n8.keep P1 (by simp)).trans p7.out
        have mw := (n8.keep M (by simp)).trans m7.out
        obtain ⟨a0, a1, a2, a3⟩ := Bx.cells (show Bx P1 3 cn1 ⟨#[]⟩ 0 w8 from pw)
        obtain ⟨d0, d1, d2, d3⟩ := Bx.cells (show Bx M 3 cn1 ⟨#[]⟩ 0 w8 from mw)
        have l1 : P1 < w8.heap.size := lt_of_heap pw
        have l2 : M < w8.heap.size := lt_of_heap mw
        clear c n8 h7' p7 r7 m7 f8 HM pw mw
        go_wp2_with fail
        refine (same8_self 3 cn1 ⟨#[]⟩ 0 _).mono ?_
        rintro e w9 ⟨rfl, f9⟩
        have h9' := Lib.hid ((h8'.out.fr f9).hv)
        have p9 := Lib.hid (p8.out.below f9.below0)
        have r9 := Lib.hid (r8.out.below f9.below0)
        clear f9 h8' p8 r8 m8 l1 l2 a0 a1 a2 a3 d0 d1 d2 d3
        obtain ⟨a0, a1, a2, a3⟩ := r9.out.cells
        have c : Calls Tryd.prog 18 #[.pointer (some ⟨h, 0, none⟩), .int .i64 1, .string S, .agg #[.int .i64 3, .float .f64 cn2, .string ⟨#[]⟩, .int .i64 0]] w9 fun e w' => e = .returned (.int .i64 0) ∧ Nx NN h (S5 k (⟨3, cn1, [], 0⟩ : V) (⟨3, cn2, [], 0⟩ : V)) [P1, P2] w w9 w' := by
          rw [HS.out]
          exact put_h (h9'.out.sub (L' := [P1, P2]) (fun M hM => by simp at hM ⊢; omega)) 1 (Pl 0 []) rfl k hk 3 cn2 [] (by simp) 0 (by decide) (rightV_num _ _) (few_of rfl)
        go_wp2_with fail
        refine c.mono ?_
        rintro e w10 ⟨rfl, n10⟩
        have h10' := Lib.hid n10.hv
        have p10 := Lib.hid (show Bx P1 3 cn1 ⟨#[]⟩ 0 w10 from (n10.keep P1 (by simp)).trans p9.out)
        have r10 := Lib.hid (show Bx P2 3 cn2 ⟨#[]⟩ 0 w10 from (n10.keep P2 (by simp)).trans r9.out)
        clear c n10 h9' p9 r9 a0 a1 a2 a3
        have c : Calls Tryd.prog 24 #[.pointer (some ⟨h, 0, none⟩), .int .i64 2, .string S] w10 fun e w' => e = .returned (.tuple #[.agg #[.int .i64 3, .float .f64 cn2, .string ⟨#[]⟩, .int .i64 0], .bool true]) ∧ Nx NN h (S5 k (⟨3, cn1, [], 0⟩ : V) (⟨3, cn2, [], 0⟩ : V)) [P1, P2] w w10 w' := by
          rw [HS.out]
          have := get_h h10'.out 2 k hk
          rw [s5_find2] at this
          exact this
        go_wp2_with fail
        refine c.mono ?_
        rintro e w11 ⟨rfl, n11⟩
        have f11 := (Fr.alloc w11 (.cells #[.int .i64 3, .float .f64 cn2, .string ⟨#[]⟩, .int .i64 0] 31 (0, 0))).below0
        have h11' := Lib.hid (n11.hv.alloc (.cells #[.int .i64 3, .float .f64 cn2, .string ⟨#[]⟩, .int .i64 0] 31 (0, 0)))
        have p11 := Lib.hid (Bx.below (show Bx P1 3 cn1 ⟨#[]⟩ 0 w11 from (n11.keep P1 (by simp)).trans p10.out) f11)
        have r11 := Lib.hid (Bx.below (show Bx P2 3 cn2 ⟨#[]⟩ 0 w11 from (n11.keep P2 (by simp)).trans r10.out) f11)
        have m11 := Lib.hid (Bx.new 3 cn2 ⟨#[]⟩ 0 w11)
        clear c n11 h10' p10 r10 f11
        obtain ⟨M1, hM1⟩ : ∃ M, M = w11.heap.size := ⟨_, rfl⟩
        rw [← hM1] at h11' m11
        have c : Calls Tryd.prog 24 #[.pointer (some ⟨h, 0, none⟩), .int .i64 0, .string S] (w11.alloc (.cells #[.int .i64 3, .float .f64 cn2, .string ⟨#[]⟩, .int .i64 0] 31 (0, 0))) fun e w' => e = .returned (.tuple #[.agg #[.int .i64 3, .float .f64 cn1, .string ⟨#[]⟩, .int .i64 0], .bool true]) ∧ Nx NN h (S5 k (⟨3, cn1, [], 0⟩ : V) (⟨3, cn2, [], 0⟩ : V)) [M1, P1, P2] w (w11.alloc (.cells #[.int .i64 3, .float .f64 cn2, .string ⟨#[]⟩, .int .i64 0] 31 (0, 0))) w' := by
          rw [HS.out]
          have := get_h h11'.out 0 k hk
          rw [s5_find0] at this
          exact this
        go_wp2_with fail
        refine c.mono ?_
        rintro e w12 ⟨rfl, n12⟩
        rw [← hM1]
        have HM1 := Lib.hid hM1
        clear hM1
        have f12 := (Fr.alloc w12 (.cells #[.int .i64 3, .float .f64 cn1, .string ⟨#[]⟩, .int .i64 0] 31 (0, 0))).below0
        have h12' := Lib.hid (n12.hv.alloc (.cells #[.int .i64 3, .float .f64 cn1, .string ⟨#[]⟩, .int .i64 0] 31 (0, 0)))
        have p12 := Lib.hid (Bx.below (show Bx P1 3 cn1 ⟨#[]⟩ 0 w12 from (n12.keep P1 (by simp)).trans p11.out) f12)
        have r12 := Lib.hid (Bx.below (show Bx P2 3 cn2 ⟨#[]⟩ 0 w12 from (n12.keep P2 (by simp)).trans r11.out) f12)
        have m12 := Lib.hid (Bx.below (show Bx M1 3 cn2 ⟨#[]⟩ 0 w12 from (n12.keep M1 (by simp)).trans m11.out) f12)
        have o12 := Lib.hid (Bx.new 3 cn1 ⟨#[]⟩ 0 w12)
        have pw := (n12.keep P2 (by simp)).trans r11.out
        have mw := (n12.keep M1 (by simp)).trans m11.out
        obtain ⟨a0, a1, a2, a3⟩ := Bx.cells (show Bx P2 3 cn2 ⟨#[]⟩ 0 w12 from pw)
        obtain ⟨d0, d1, d2, d3⟩ := Bx.cells (show Bx M1 3 cn2 ⟨#[]⟩ 0 w12 from mw)
        have l1 : P2 < w12.heap.size := lt_of_heap pw
        have l2 : M1 < w12.heap.size := lt_of_heap mw
        obtain ⟨M2, hM2⟩ : ∃ M, M = w12.heap.size := ⟨_, rfl⟩
        rw [← hM2] at h12' o12
        clear c n12 h11' p11 r11 m11 f12 HM1 pw mw
        go_wp2_with fail
        refine (same8_self 3 cn2 ⟨#[]⟩ 0 _).mono ?_
        rintro e w13 ⟨rfl, f13⟩
        rw [← hM2]
        have HM2 := Lib.hid hM2
        clear hM2
        have h13' := Lib.hid ((h12'.out.fr f13).hv)
        have p13 := Lib.hid (p12.out.below f13.below0)
        have r13 := Lib.hid (r12.out.below f13.below0)
        have o13 := Lib.hid (o12.out.below f13.below0)
        clear f13 h12' p12 r12 m12 o12 HM2 l1 l2 a0 a1 a2 a3 d0 d1 d2 d3
        obtain ⟨a0, a1, a2, a3⟩ := p13.out.cells
        obtain ⟨d0, d1, d2, d3⟩ := o13.out.cells
        go_wp2_with fail
        refine (same8_self 3 cn1 ⟨#[]⟩ 0 _).mono ?_
        rintro e w14 ⟨rfl, f14⟩
        have h14' := Lib.hid ((h13'.out.fr f14).hv)
        have p14 := Lib.hid (p13.out.below f14.below0)
        clear f14 h13' p13 r13 o13 a0 a1 a2 a3 d0 d1 d2 d3
        have c : Calls Tryd.prog 26 #[.pointer (some ⟨h, 0, none⟩), .int .i64 1, .string S] w14 fun e w' => e = .returned (.bool true) ∧ Nx NN h (S4 k (⟨3, cn1, [], 0⟩ : V)) [P1] w w14 w' := by
          rw [HS.out]
          have := drop_h (h14'.out.sub (L' := [P1]) (fun M hM => by simp at hM ⊢; omega)) 1 (Pl 0 [(k, (⟨3, cn2, [], 0⟩ : V))]) rfl k hk (by show (1 : Int) ≠ 2; decide) (⟨3, cn2, [], 0⟩ : V) (look_one k _) (by rw [s5_drop]; exact few_of rfl)
          rw [s5_drop] at this
          exact this
        go_wp2_with fail
        refine c.mono ?_
        rintro e w15 ⟨rfl, n15⟩
        have h15' := Lib.hid n15.hv
        have p15 := Lib.hid (show Bx P1 3 cn1 ⟨#[]⟩ 0 w15 from (n15.keep P1 (by simp)).trans p14.out)
        clear c n15 h14' p14
        have c : Calls Tryd.prog 24 #[.pointer (some ⟨h, 0, none⟩), .int .i64 2, .string S] w15 fun e w' => e = .returned (.tuple #[.agg #[.int .i64 3, .float .f64 cn1, .string ⟨#[]⟩, .int .i64 0], .bool true]) ∧ Nx NN h (S4 k (⟨3, cn1, [], 0⟩ : V)) [P1] w w15 w' := by
          rw [HS.out]
          have := get_h h15'.out 2 k hk
          rw [s4_find] at this
          exact this
        go_wp2_with fail
        refine c.mono ?_
        rintro e w16 ⟨rfl, n16⟩
        have f16 := (Fr.alloc w16 (.cells #[.int .i64 3, .float .f64 cn1, .string ⟨#[]⟩, .int .i64 0] 31 (0, 0))).below0
        have h16' := Lib.hid (n16.hv.alloc (.cells #[.int .i64 3, .float .f64 cn1, .string ⟨#[]⟩, .int .i64 0] 31 (0, 0)))
        have p16 := Lib.hid (Bx.below (show Bx P1 3 cn1 ⟨#[]⟩ 0 w16 from (n16.keep P1 (by simp)).trans p15.out) f16)
        have m16 := Lib.hid (Bx.new 3 cn1 ⟨#[]⟩ 0 w16)
        have pw := (n16.keep P1 (by simp)).trans p15.out
        obtain ⟨a0, a1, a2, a3⟩ := Bx.cells (show Bx P1 3 cn1 ⟨#[]⟩ 0 w16 from pw)
        have l1 : P1 < w16.heap.size := lt_of_heap pw
        obtain ⟨M3, hM3⟩ : ∃ M, M = w16.heap.size := ⟨_, rfl⟩
        rw [← hM3] at h16' m16
        clear c n16 h15' p15 f16 pw
        go_wp2_with fail
        refine (same8_self 3 cn1 ⟨#[]⟩ 0 _).mono ?_
        rintro e w17 ⟨rfl, f17⟩
        have h17' := Lib.hid ((h16'.out.fr f17).hv)
        rw [← hM3]
        have HM3 := Lib.hid hM3
        clear f17 h16' p16 m16 a0 a1 a2 a3 l1 hM3 HM3
        have hbl := Lib.hid (show Below w.heap.size w w17 from by rw [← HNN.out]; exact h17'.out.loc.1)
        have c : Calls Tryd.prog 17 #[.pointer (some ⟨h, 0, none⟩), .int .i64 2] w17 fun e w' => ∃ p cap, e = .returned (.slice p 0 cap) ∧ Nx NN h (S4 k (⟨3, cn1, [], 0⟩ : V)) [M3, P1] w w17 w' ∧ Fr [] w17 w' := by
          refine (keys_h h17'.out N' (HT.out.fr0 (Fr.of_below hbl.out)) 2 (Pl 1 []) rfl).mono ?_
          rintro e w' ⟨p, cap, rfl, _, hn, hf⟩
          exact ⟨p, cap, rfl, hn, hf⟩
        go_wp2_with fail
        refine c.mono ?_
        rintro e w18 ⟨pk, ck, rfl, n18, f18⟩
        have h18' := Lib.hid n18.hv
        clear c n18 f18 h17' hbl
        have hbl := Lib.hid (show Below w.heap.size w w18 from by rw [← HNN.out]; exact h18'.out.loc.1)
        have c : Calls Tryd.prog 17 #[.pointer (some ⟨h, 0, none⟩), .int .i64 0] w18 fun e w' => ∃ p cap, e = .returned (.slice p 1 cap) ∧ Below w.heap.size w w' := by
          refine (keys_h h18'.out N' (HT.out.fr0 (Fr.of_below hbl.out)) 0 (Pl (-1) [(k, (⟨3, cn1, [], 0⟩ : V))]) rfl).mono ?_
          rintro e w' ⟨p, cap, rfl, _, hn, hf⟩
          exact ⟨p, cap, rfl, by rw [← HNN.out]; exact hn.hv.loc.1⟩
        go_wp2_with fail
        refine c.mono ?_
        rintro e w19 ⟨pk2, ck2, rfl, b19⟩
        have HB := Lib.hid b19
        clear c b19 h18' hbl
        go_wp2_with fail
        go_ret
        exact ⟨rfl, HB.out⟩
end Go.Proofs.YtmndmnajgfabnaaDoor
