/- Layer 8: awake. Conditions: none. -/
import Derived.Test.YtmndmnajgfabnaaDoorIa
namespace Go.Proofs.YtmndmnajgfabnaaDoor
open Go.RowKit Go.Maps
set_option linter.all false

theorem ansV_some (v : V) : ansV (some v) = .tuple #[.agg #[.int .i64 v.k, .float .f64 v.n, .string (bs v.t), .int .i64 v.r], .bool true] := rfl
theorem bs_nil : bs [] = ⟨#[]⟩ := rfl
theorem Hv.loc {N h : Nat} {A : Hp} {L : List Nat} {w0 w : World} (H : Hv N h A L w0 w) : Below N w0 w ∧ N ≤ w.heap.size := by
  obtain ⟨sv, gs, hG, hF, h1, h2, h3, h4⟩ := H; exact ⟨h3, h4⟩
theorem Hv.ltL {N h : Nat} {A : Hp} {L : List Nat} {w0 w : World} (H : Hv N h A L w0 w) : ∀ M ∈ L, M < w.heap.size := by
  obtain ⟨sv, gs, hG, hF, h1, h2, h3, h4⟩ := H; exact fun M hM => (h2 M hM).1
theorem Hv.sub {N h : Nat} {A : Hp} {L L' : List Nat} {w0 w : World} (H : Hv N h A L w0 w) (hs : ∀ M ∈ L', M ∈ L) : Hv N h A L' w0 w := by
  obtain ⟨sv, gs, hG, hF, h1, h2, h3, h4⟩ := H; exact ⟨sv, gs, hG, hF, h1, fun M hM => h2 M (hs M hM), h3, h4⟩
/-- A row of values, just laid. -/
theorem row_new (w : World) (l : List V) (C : Array Value) (hC : C.toList = itemCells l) (n : Nat) (hn : l.length = n) : RowAt (w.alloc (.cells C 31 (0, 0))) (.slice (some ⟨w.heap.size, 0, none⟩) n n) l.length (itemCells l) := by
  refine ⟨?_, _, n, by rw [hn], (fun h => by cases h), ?_⟩
  · unfold itemCells; induction l generalizing C n with
    | nil => rfl
    | cons a l ih => rw [List.flatMap_cons, List.length_append, List.length_cons]; rw [ih (itemCells l).toArray (by simp) _ rfl]; show 4 + _ = _; omega
  · intro a ha j u hj
    cases ha
    rw [add_plain2, Nat.zero_add]
    have := heap_new w (.cells C 31 (0, 0))
    refine blk_cell this j u ?_
    rw [← Array.getElem?_toList, hC]
    exact hj
set_option maxRecDepth 100000 in
set_option maxHeartbeats 4000000 in
theorem awake_any (w : World) : Calls Tryd.prog 8 #[] w fun e w' => e = .returned (.bool true) ∧ Fr [] w w' := by
  obtain ⟨N, hN⟩ : ∃ N, N = w.heap.size := ⟨_, rfl⟩
  have hst := store_float
  have q1 := new_h 7 w w N (Below.refl _ _) (by omega) [] (fun M hM => by cases hM)
  rw [← hN] at q1
  have HN := Lib.hid hN
  clear hN
  go_enter Tryd.func8, Tryd.ntmps8
  go_wp2_with fail
  refine q1.mono ?_
  rintro e w1 ⟨rfl, n1⟩
  have h1 := Lib.hid n1.hv
  clear q1 n1
  -- Plain(-1)
  have c2 : Calls Tryd.prog 16 #[.pointer (some ⟨N, 0, none⟩), .int .i64 (-1)] w1 fun e w' => e = .returned (.tuple #[.int .i64 0, .int .i64 0]) ∧ Nx N N H1 [] w w1 w' := plain_h h1.out (-1) (few_of rfl)
  go_wp2_with fail
  refine c2.mono ?_
  rintro e w2 ⟨rfl, n2⟩
  have h2 := Lib.hid n2.hv
  clear n2 c2 h1
  have c3 : Calls Tryd.prog 16 #[.pointer (some ⟨N, 0, none⟩), .int .i64 0] w2 fun e w' => e = .returned (.tuple #[.int .i64 1, .int .i64 0]) ∧ Nx N N H2 [] w w2 w' := plain_h h2.out 0 (few_of rfl)
  go_wp2_with fail
  refine c3.mono ?_
  rintro e w3 ⟨rfl, n3⟩
  have h3 := Lib.hid n3.hv
  clear n3 c3 h2
  go_wp2_with fail
  refine (num_any _ _).mono ?_
  rintro e w4 ⟨rfl, f4⟩
  have h4 := Lib.hid (h3.out.fr f4).hv
  clear f4 h3
  go_wp2_with fail
  refine (num_any _ _).mono ?_
  rintro e w5 ⟨rfl, f5⟩
  have h5 := Lib.hid (h4.out.fr f5).hv
  clear f5 h4
  -- Array
  have c6 : Calls Tryd.prog 28 #[.pointer (some ⟨N, 0, none⟩), .slice (some ⟨w5.heap.size, 0, none⟩) 2 2] (w5.alloc (.cells #[.int .i64 3, .float .f64 4607182418800017408, .string ⟨#[]⟩, .int .i64 0, .int .i64 3, .float .f64 4611686018427387904, .string ⟨#[]⟩, .int .i64 0] 31 (0, 0))) fun e w' => e = .returned (.tuple #[.int .i64 2, .int .i64 0]) ∧ Nx N N H3 [w5.heap.size] w (w5.alloc (.cells #[.int .i64 3, .float .f64 4607182418800017408, .string ⟨#[]⟩, .int .i64 0, .int .i64 3, .float .f64 4611686018427387904, .string ⟨#[]⟩, .int .i64 0] 31 (0, 0))) w' := by
    have := array_h (h5.out.alloc (.cells #[.int .i64 3, .float .f64 4607182418800017408, .string ⟨#[]⟩, .int .i64 0, .int .i64 3, .float .f64 4611686018427387904, .string ⟨#[]⟩, .int .i64 0] 31 (0, 0))) [nv 4607182418800017408, nv 4611686018427387904] (.slice (some ⟨w5.heap.size, 0, none⟩) 2 2) (by simp) (row_new w5 [nv 4607182418800017408, nv 4611686018427387904] #[.int .i64 3, .float .f64 4607182418800017408, .string ⟨#[]⟩, .int .i64 0, .int .i64 3, .float .f64 4611686018427387904, .string ⟨#[]⟩, .int .i64 0] rfl 2 rfl) (fun x hx => by simp [Value.ownBlock] at hx; simp [hx]) (fun u hu => by simp at hu; rcases hu with rfl | rfl <;> simp [nv]) (by rw [m3]; exact few_of rfl)
    rw [m3] at this
    exact this
  go_wp2_with fail
  refine c6.mono ?_
  rintro e w6 ⟨rfl, n6⟩
  have h6 := Lib.hid (n6.hv.sub (L' := []) (fun M hM => by cases hM))
  clear n6 c6 h5
  have c7 : Calls Tryd.prog 30 #[.string ⟨#[107]⟩] w6 fun e w' => e = .returned (.string ⟨#[0, 107]⟩) ∧ Fr [] w6 w' := of_any [107] (by simp) w6
  go_wp2_with fail
  refine c7.mono ?_
  rintro e w7 ⟨rfl, f7⟩
  have h7 := Lib.hid (h6.out.fr f7).hv
  clear f7 c7 h6
  go_wp2_with fail
  refine (num_any _ _).mono ?_
  rintro e w8 ⟨rfl, f8⟩
  have h8 := Lib.hid (h7.out.fr f8).hv
  clear f8 h7
  have c9 : Calls Tryd.prog 18 #[.pointer (some ⟨N, 0, none⟩), .int .i64 0, .string ⟨#[0, 107]⟩, .agg #[.int .i64 3, .float .f64 4617315517961601024, .string ⟨#[]⟩, .int .i64 0]] w8 fun e w' => e = .returned (.int .i64 0) ∧ Nx N N H4 [] w w8 w' := by
    have := put_h h8.out 0 (plainO (-1)) rfl kB (by decide) 3 4617315517961601024 [] (by simp) 0 (by decide) (rightV_num _ _) (by rw [show (⟨3, 4617315517961601024, [], 0⟩ : V) = nv 4617315517961601024 from rfl, m4]; exact few_of rfl)
    rw [show (⟨3, 4617315517961601024, [], 0⟩ : V) = nv 4617315517961601024 from rfl, m4] at this
    exact this
  go_wp2_with fail
  refine c9.mono ?_
  rintro e w9 ⟨rfl, n9⟩
  have h9 := Lib.hid n9.hv
  clear n9 c9 h8
  have c10 : Calls Tryd.prog 24 #[.pointer (some ⟨N, 0, none⟩), .int .i64 1, .string ⟨#[0, 107]⟩] w9 fun e w' => e = .returned (.tuple #[.agg #[.int .i64 3, .float .f64 4617315517961601024, .string ⟨#[]⟩, .int .i64 0], .bool true]) ∧ Nx N N H4 [] w w9 w' := by
    have := get_h h9.out 1 kB (by decide)
    rw [m5] at this
    exact this
  go_wp2_with fail
  refine c10.mono ?_
  rintro e w10 ⟨rfl, n10⟩
  have h10 := Lib.hid (n10.hv.alloc (.cells #[.int .i64 3, .float .f64 4617315517961601024, .string ⟨#[]⟩, .int .i64 0] 31 (0, 0)))
  have x10 := Lib.hid (Bx.new 3 4617315517961601024 ⟨#[]⟩ 0 w10)
  clear n10 c10 h9
  have c11 : Calls Tryd.prog 30 #[.string ⟨#[108, 101, 110, 103, 116, 104]⟩] (w10.alloc (.cells #[.int .i64 3, .float .f64 4617315517961601024, .string ⟨#[]⟩, .int .i64 0] 31 (0, 0))) fun e w' => e = .returned (.string ⟨#[0, 108, 0, 101, 0, 110, 0, 103, 0, 116, 0, 104]⟩) ∧ Fr [] (w10.alloc (.cells #[.int .i64 3, .float .f64 4617315517961601024, .string ⟨#[]⟩, .int .i64 0] 31 (0, 0))) w' := of_any [108, 101, 110, 103, 116, 104] (by simp) _
  obtain ⟨M1, hM1⟩ : ∃ M, M = w10.heap.size := ⟨_, rfl⟩
  rw [← hM1] at h10 x10
  go_wp2_with fail
  refine c11.mono ?_
  rintro e w11 ⟨rfl, f11⟩
  have h11 := Lib.hid (h10.out.fr f11).hv
  have x11 := Lib.hid (x10.out.below f11.below0)
  clear f11 c11 h10 x10
  rw [← hM1]
  have HM1 := Lib.hid hM1
  clear hM1
  have c12 : Calls Tryd.prog 23 #[.pointer (some ⟨N, 0, none⟩), .int .i64 2, .string ⟨#[0, 108, 0, 101, 0, 110, 0, 103, 0, 116, 0, 104]⟩] w11 fun e w' => e = .returned (.tuple #[.agg #[.int .i64 3, .float .f64 4611686018427387904, .string ⟨#[]⟩, .int .i64 0], .bool true]) ∧ Nx N N H4 [M1] w w11 w' := by
    have := own_h h11.out 2 (arrO [nv 4607182418800017408, nv 4611686018427387904]) rfl lenB (by decide)
    rw [m6] at this
    exact this
  go_wp2_with fail
  refine c12.mono ?_
  rintro e w12 ⟨rfl, n12⟩
  have h12 := Lib.hid (n12.hv.alloc (.cells #[.int .i64 3, .float .f64 4611686018427387904, .string ⟨#[]⟩, .int .i64 0] 31 (0, 0)))
  have z12 := Lib.hid (Bx.new 3 4611686018427387904 ⟨#[]⟩ 0 w12)
  have x12 : Hid (Bx M1 3 4617315517961601024 ⟨#[]⟩ 0 (w12.alloc (.cells #[.int .i64 3, .float .f64 4611686018427387904, .string ⟨#[]⟩, .int .i64 0] 31 (0, 0)))) := Lib.hid (Bx.below (show Bx M1 3 4617315517961601024 ⟨#[]⟩ 0 w12 from (n12.keep M1 (by simp)).trans x11.out) ((Fr.alloc w12 _).below0))
  clear n12 c12 h11 x11
  obtain ⟨M2, hM2⟩ : ∃ M, M = w12.heap.size := ⟨_, rfl⟩
  rw [← hM2] at h12 z12
  go_wp2_with fail
  refine (num_any _ _).mono ?_
  rintro e w13 ⟨rfl, f13⟩
  have h13 := Lib.hid (h12.out.fr f13).hv
  have x13 := Lib.hid (x12.out.below f13.below0)
  have z13 := Lib.hid (z12.out.below f13.below0)
  clear f13 h12 x12 z12
  rw [← hM2]
  have HM2 := Lib.hid hM2
  clear hM2
  have c14 : Calls Tryd.prog 28 #[.pointer (some ⟨N, 0, none⟩), .slice (some ⟨w13.heap.size, 0, none⟩) 1 1] (w13.alloc (.cells #[.int .i64 3, .float .f64 4607182418800017408, .string ⟨#[]⟩, .int .i64 0] 31 (0, 0))) fun e w' => e = .returned (.tuple #[.int .i64 0, .int .i64 112]) ∧ Nx N N H4 [w13.heap.size, M2, M1] w (w13.alloc (.cells #[.int .i64 3, .float .f64 4607182418800017408, .string ⟨#[]⟩, .int .i64 0] 31 (0, 0))) w' := by
    have := array_h (h13.out.alloc (.cells #[.int .i64 3, .float .f64 4607182418800017408, .string ⟨#[]⟩, .int .i64 0] 31 (0, 0))) [nv 4607182418800017408] (.slice (some ⟨w13.heap.size, 0, none⟩) 1 1) (by simp) (row_new w13 [nv 4607182418800017408] #[.int .i64 3, .float .f64 4607182418800017408, .string ⟨#[]⟩, .int .i64 0] rfl 1 rfl) (fun x hx => by simp [Value.ownBlock] at hx; simp [hx]) (fun u hu => by simp at hu; rcases hu with rfl; simp [nv]) (by rw [m7]; exact few_of rfl)
    rw [m7] at this
    exact this
  go_wp2_with fail
  refine c14.mono ?_
  rintro e w14 ⟨rfl, n14⟩
  have x14 : Bx M1 3 4617315517961601024 ⟨#[]⟩ 0 w14 := (n14.keep M1 (by simp)).trans (x13.out.below ((Fr.alloc w13 _).below0))
  have z14 : Bx M2 3 4611686018427387904 ⟨#[]⟩ 0 w14 := (n14.keep M2 (by simp)).trans (z13.out.below ((Fr.alloc w13 _).below0))
  have hfin : Fr [] w w14 := by
    have := n14.hv.loc.1
    rw [HN.out] at this
    exact .of_below this
  have HFIN := Lib.hid hfin
  obtain ⟨_, x1, _, _⟩ := x14.cells
  obtain ⟨_, z1, _, _⟩ := z14.cells
  have t5 : (FloatKind.f64.format.order 4617315517961601024 4617315517961601024 == some Ordering.eq) = true := by kernel_rfl
  have t2 : (FloatKind.f64.format.order 4611686018427387904 4611686018427387904 == some Ordering.eq) = true := by kernel_rfl
  clear n14 c14 h13 x13 z13 hfin x14 z14 HM1 HM2 HN
  go_wp2_with fail
  go_ret
  exact ⟨rfl, HFIN.out⟩
end Go.Proofs.YtmndmnajgfabnaaDoor
