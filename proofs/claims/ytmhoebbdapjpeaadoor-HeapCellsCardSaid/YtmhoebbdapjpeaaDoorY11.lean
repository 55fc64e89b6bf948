/- Layer 8: awake. Conditions: none. Layer 8: Kind, Proto, Items. Conditions: those that each theorem names. Layer 8: Drop where nothing is dropped. Conditions: those that each theorem names. Layer 8: an item of an array is written over. Conditions: those that each theorem names. -/
import Derived.Test.YtmhoebbdapjpeaaDoorY10
import Derived.Laws.OwnMore
namespace Go.Proofs.YtmhoebbdapjpeaaDoor
open Go.RowKit Go.Maps
set_option linter.all false

theorem ansV_some (v : V) : ansV (some v) = .tuple #[.agg #[.int .i64 v.k, .float .f64 v.n, .string (bs v.t), .int .i64 v.r], .bool true] := rfl
theorem bs_nil : bs [] = ⟨#[]⟩ := rfl
theorem Hv.loc {N h : Nat} {A : Hp} {L : List Nat} {w0 w : World} (H : Hv N h A L w0 w) : Below N w0 w ∧ N ≤ w.heap.size := by
  obtain ⟨sv, gs, hG, hF, h1, h2, h3, h4⟩ := H; exact ⟨h3, h4⟩
theorem Hv.ltL {N h : Nat} {A : Hp} {L : List Nat} {w0 w : World} (H : Hv N h A L w0 w) : ∀ M ∈ L, M < w.heap.size := by
  obtain ⟨sv, gs, hG, hF, h1, h2, h3, h4⟩ := H; exact fun M hM => (h2 M hM).1
theorem Hv.sub {N h : Nat} {A : Hp} {L L' : List Nat} {w0 w : World} (H : Hv N h A L w0 w) (hs : ∀ M ∈ L', M ∈ L) : Hv N h A L' w0 w := by
  obtain ⟨sv, gs, hG, hF, h1, h2, h3, h4⟩ := H; exact ⟨sv, gs, hG, hF, h1, fun M hM => h2 M (hs M hM), h3, h4⟩
/-- A row of values, just laid. -/
theorem row_new (w : World) (l : List V) (C : Array Value) (hC : C.toList = itemCells l) (n : Nat) (hn : l.length = n) : RowAt (w.alloc (.cells C 31 (0, 0))) (.slice (some ⟨w.heap.size, 0, none⟩) n n) l.length (itemCells l) := by
  refine ⟨?_, _, n, by rw [hn], (fun h => by cases h), ?_⟩
  · unfold itemCells; induction l generalizing C n with
    | nil => rfl
    | cons a l ih => rw [List.flatMap_cons, List.length_append, List.length_cons]; rw [ih (itemCells l).toArray (by simp) _ rfl]; show 4 + _ = _; omega
  · intro a ha j u hj
    cases ha
    rw [add_plain2, Nat.zero_add]
    have := heap_new w (.cells C 31 (0, 0))
    refine blk_cell this j u ?_
    rw [← Array.getElem?_toList, hC]
    exact hj
set_option maxRecDepth 100000 in
set_option maxHeartbeats 4000000 in
theorem awake_any (w : World) : Calls Tryd.prog 8 #[] w fun e w' => e = .returned (.bool true) ∧ Fr [] w w' := by
  obtain ⟨N, hN⟩ : ∃ N, N = w.heap.size := ⟨_, rfl⟩
  have hst := store_float
  have q1 := new_h 7 w w N (Below.refl _ _) (by omega) [] (fun M hM => by cases hM)
  rw [← hN] at q1
  have HN := Lib.hid hN
  clear hN
  go_enter Tryd.func8, Tryd.ntmps8
  go_wp2_with fail
  refine q1.mono ?_
  rintro e w1 ⟨rfl, n1⟩
  have h1 := Lib.hid n1.hv
  clear q1 n1
  -- Plain(-1)
  have c2 : Calls Tryd.prog 16 #[.pointer (some ⟨N, 0, none⟩), .int .i64 (-1)] w1 fun e w' => e = .returned (.tuple #[.int .i64 0, .int .i64 0]) ∧ Nx N N H1 [] w w1 w' := plain_h h1.out (-1) (few_of rfl)
  go_wp2_with fail
  refine c2.mono ?_
  rintro e w2 ⟨rfl, n2⟩
  have h2 := Lib.hid n2.hv
  clear n2 c2 h1
  have c3 : Calls Tryd.prog 16 #[.pointer (some ⟨N, 0, none⟩), .int .i64 0] w2 fun e w' => e = .returned (.tuple #[.int .i64 1, .int .i64 0]) ∧ Nx N N H2 [] w w2 w' := plain_h h2.out 0 (few_of rfl)
  go_wp2_with fail
  refine c3.mono ?_
  rintro e w3 ⟨rfl, n3⟩
  have h3 := Lib.hid n3.hv
  clear n3 c3 h2
  go_wp2_with fail
  refine (num_any _ _).mono ?_
  rintro e w4 ⟨rfl, f4⟩
  have h4 := Lib.hid (h3.out.fr f4).hv
  clear f4 h3
  go_wp2_with fail
  refine (num_any _ _).mono ?_
  rintro e w5 ⟨rfl, f5⟩
  have h5 := Lib.hid (h4.out.fr f5).hv
  clear f5 h4
  -- Array
  have c6 : Calls Tryd.prog 28 #[.pointer (some ⟨N, 0, none⟩), .slice (some ⟨w5.heap.size, 0, none⟩) 2 2] (w5.alloc (.cells #[.int .i64 3, .float .f64 4607182418800017408, .string ⟨#[]⟩, .int .i64 0, .int .i64 3, .float .f64 4611686018427387904, .string ⟨#[]⟩, .int .i64 0] 31 (0, 0))) fun e w' => e = .returned (.tuple #[.int .i64 2, .int .i64 0]) ∧ Nx N N H3 [w5.heap.size] w (w5.alloc (.cells #[.int .i64 3, .float .f64 4607182418800017408, .string ⟨#[]⟩, .int .i64 0, .int .i64 3, .float .f64 4611686018427387904, .string ⟨#[]⟩, .int .i64 0] 31 (0, 0))) w' := by
    have := array_h (h5.out.alloc (.cells #[.int .i64 3, .float .f64 4607182418800017408, .string ⟨#[]⟩, .int .i64 0, .int .i64 3, .float .f64 4611686018427387904, .string ⟨#[]⟩, .int .i64 0] 31 (0, 0))) [nv 4607182418800017408, nv 4611686018427387904] (.slice (some ⟨w5.heap.size, 0, none⟩) 2 2) (by simp) (row_new w5 [nv 4607182418800017408, nv 4611686018427387904] #[.int .i64 3, .float .f64 4607182418800017408, .string ⟨#[]⟩, .int .i64 0, .int .i64 3, .float .f64 4611686018427387904, .string ⟨#[]⟩, .int .i64 0] rfl 2 rfl) (fun _ x hx => by simp [Value.ownBlock] at hx; simp [hx]) (fun u hu => by simp at hu; rcases hu with rfl | rfl <;> simp [nv]) (by rw [m3]; exact few_of rfl)
    rw [m3] at this
    exact this
  go_wp2_with fail
  refine c6.mono ?_
  rintro e w6 ⟨rfl, n6⟩
  have h6 := Lib.hid (n6.hv.sub (L' := []) (fun M hM => by cases hM))
  clear n6 c6 h5
  have c7 : Calls Tryd.prog 30 #[.string ⟨#[107]⟩] w6 fun e w' => e = .returned (.string ⟨#[0, 107]⟩) ∧ Fr [] w6 w' := of_any [107] (by simp) w6
  go_wp2_with fail
  refine c7.mono ?_
  rintro e w7 ⟨rfl, f7⟩
  have h7 := Lib.hid (h6.out.fr f7).hv
  clear f7 c7 h6
  go_wp2_with fail
  refine (num_any _ _).mono ?_
  rintro e w8 ⟨rfl, f8⟩
  have h8 := Lib.hid (h7.out.fr f8).hv
  clear f8 h7
  have c9 : Calls Tryd.prog 18 #[.pointer (some ⟨N, 0, none⟩), .int .i64 0, .string ⟨#[0, 107]⟩, .agg #[.int .i64 3, .float .f64 4617315517961601024, .string ⟨#[]⟩, .int .i64 0]] w8 fun e w' => e = .returned (.int .i64 0) ∧ Nx N N H4 [] w w8 w' := by
    have := put_h h8.out 0 (plainO (-1)) rfl kB (by decide) 3 4617315517961601024 [] (by simp) 0 (by decide) (rightV_num _ _) (by rw [show (⟨3, 4617315517961601024, [], 0⟩ : V) = nv 4617315517961601024 from rfl, m4]; exact few_of rfl)
    rw [show (⟨3, 4617315517961601024, [], 0⟩ : V) = nv 4617315517961601024 from rfl, m4] at this
    exact this
  go_wp2_with fail
  refine c9.mono ?_
  rintro e w9 ⟨rfl, n9⟩
  have h9 := Lib.hid n9.hv
  clear n9 c9 h8
  have c10 : Calls Tryd.prog 24 #[.pointer (some ⟨N, 0, none⟩), .int .i64 1, .string ⟨#[0, 107]⟩] w9 fun e w' => e = .returned (.tuple #[.agg #[.int .i64 3, .float .f64 4617315517961601024, .string ⟨#[]⟩, .int .i64 0], .bool true]) ∧ Nx N N H4 [] w w9 w' := by
    have := get_h h9.out 1 kB (by decide)
    rw [m5] at this
    exact this
  go_wp2_with fail
  refine c10.mono ?_
  rintro e w10 ⟨rfl, n10⟩
  have h10 := Lib.hid (n10.hv.alloc (.cells #[.int .i64 3, .float .f64 4617315517961601024, .string ⟨#[]⟩, .int .i64 0] 31 (0, 0)))
  have x10 := Lib.hid (Bx.new 3 4617315517961601024 ⟨#[]⟩ 0 w10)
  clear n10 c10 h9
  have c11 : Calls Tryd.prog 30 #[.string ⟨#[108, 101, 110, 103, 116, 104]⟩] (w10.alloc (.cells #[.int .i64 3, .float .f64 4617315517961601024, .string ⟨#[]⟩, .int .i64 0] 31 (0, 0))) fun e w' => e = .returned (.string ⟨#[0, 108, 0, 101, 0, 110, 0, 103, 0, 116, 0, 104]⟩) ∧ Fr [] (w10.alloc (.cells #[.int .i64 3, .float .f64 4617315517961601024, .string ⟨#[]⟩, .int .i64 0] 31 (0, 0))) w' := of_any [108, 101, 110, 103, 116, 104] (by simp) _
  obtain ⟨M1, hM1⟩ : ∃ M, M = w10.heap.size := ⟨_, rfl⟩
  rw [← hM1] at h10 x10
  go_wp2_with fail
  refine c11.mono ?_
  rintro e w11 ⟨rfl, f11⟩
  have h11 := Lib.hid (h10.out.fr f11).hv
  have x11 := Lib.hid (x10.out.below f11.below0)
  clear f11 c11 h10 x10
  rw [← hM1]
  have HM1 := Lib.hid hM1
  clear hM1
  have c12 : Calls Tryd.prog 23 #[.pointer (some ⟨N, 0, none⟩), .int .i64 2, .string ⟨#[0, 108, 0, 101, 0, 110, 0, 103, 0, 116, 0, 104]⟩] w11 fun e w' => e = .returned (.tuple #[.agg #[.int .i64 3, .float .f64 4611686018427387904, .string ⟨#[]⟩, .int .i64 0], .bool true]) ∧ Nx N N H4 [M1] w w11 w' := by
    have := own_h h11.out 2 (arrO [nv 4607182418800017408, nv 4611686018427387904]) rfl lenB (by decide)
    rw [m6] at this
    exact this
  go_wp2_with fail
  refine c12.mono ?_
  rintro e w12 ⟨rfl, n12⟩
  have h12 := Lib.hid (n12.hv.alloc (.cells #[.int .i64 3, .float .f64 4611686018427387904, .string ⟨#[]⟩, .int .i64 0] 31 (0, 0)))
  have z12 := Lib.hid (Bx.new 3 4611686018427387904 ⟨#[]⟩ 0 w12)
  have x12 : Hid (Bx M1 3 4617315517961601024 ⟨#[]⟩ 0 (w12.alloc (.cells #[.int .i64 3, .float .f64 4611686018427387904, .string ⟨#[]⟩, .int .i64 0] 31 (0, 0)))) := Lib.hid (Bx.below (show Bx M1 3 4617315517961601024 ⟨#[]⟩ 0 w12 from (n12.keep M1 (by simp)).trans x11.out) ((Fr.alloc w12 _).below0))
  clear n12 c12 h11 x11
  obtain ⟨M2, hM2⟩ : ∃ M, M = w12.heap.size := ⟨_, rfl⟩
  rw [← hM2] at h12 z12
  go_wp2_with fail
  refine (num_any _ _).mono ?_
  rintro e w13 ⟨rfl, f13⟩
  have h13 := Lib.hid (h12.out.fr f13).hv
  have x13 := Lib.hid (x12.out.below f13.below0)
  have z13 := Lib.hid (z12.out.below f13.below0)
  clear f13 h12 x12 z12
  rw [← hM2]
  have HM2 := Lib.hid hM2
  clear hM2
  have c14 : Calls Tryd.prog 28 #[.pointer (some ⟨N, 0, none⟩), .slice (some ⟨w13.heap.size, 0, none⟩) 1 1] (w13.alloc (.cells #[.int .i64 3, .float .f64 4607182418800017408, .string ⟨#[]⟩, .int .i64 0] 31 (0, 0))) fun e w' => e = .returned (.tuple #[.int .i64 0, .int .i64 112]) ∧ Nx N N H4 [w13.heap.size, M2, M1] w (w13.alloc (.cells #[.int .i64 3, .float .f64 4607182418800017408, .string ⟨#[]⟩, .int .i64 0] 31 (0, 0))) w' := by
    have := array_h (h13.out.alloc (.cells #[.int .i64 3, .float .f64 4607182418800017408, .string ⟨#[]⟩, .int .i64 0] 31 (0, 0))) [nv 4607182418800017408] (.slice (some ⟨w13.heap.size, 0, none⟩) 1 1) (by simp) (row_new w13 [nv 4607182418800017408] #[.int .i64 3, .float .f64 4607182418800017408, .string ⟨#[]⟩, .int .i64 0] rfl 1 rfl) (fun _ x hx => by simp [Value.ownBlock] at hx; simp [hx]) (fun u hu => by simp at hu; rcases hu with rfl; simp [nv]) (by rw [m7]; exact few_of rfl)
    rw [m7] at this
    exact this
  go_wp2_with fail
  refine c14.mono ?_
  rintro e w14 ⟨rfl, n14⟩
  have x14 : Bx M1 3 4617315517961601024 ⟨#[]⟩ 0 w14 := (n14.keep M1 (by simp)).trans (x13.out.below ((Fr.alloc w13 _).below0))
  have z14 : Bx M2 3 4611686018427387904 ⟨#[]⟩ 0 w14 := (n14.keep M2 (by simp)).trans (z13.out.below ((Fr.alloc w13 _).below0))
  have hfin : Fr [] w w14 := by
    have := n14.hv.loc.1
    rw [HN.out] at this
    exact .of_below this
  have HFIN := Lib.hid hfin
  obtain ⟨_, x1, _, _⟩ := x14.cells
  obtain ⟨_, z1, _, _⟩ := z14.cells
  have t5 : (FloatKind.f64.format.order 4617315517961601024 4617315517961601024 == some Ordering.eq) = true := by kernel_rfl
  have t2 : (FloatKind.f64.format.order 4611686018427387904 4611686018427387904 == some Ordering.eq) = true := by kernel_rfl
  clear n14 c14 h13 x13 z13 hfin x14 z14 HM1 HM2 HN
  go_wp2_with fail
  go_ret
  exact ⟨rfl, HFIN.out⟩
end Go.Proofs.YtmhoebbdapjpeaaDoor
namespace Go.Proofs.YtmhoebbdapjpeaaDoor
open Go.RowKit Go.Maps
set_option linter.all false

theorem has_obj {h : Nat} {A : Hp} {sv : Value} {gs : List Gx} {w : World} (H : HeapG h A sv gs w) (hlen : A.objs.length ≤ 10000) (i : Int) :
    ∀ W, Fr [] w W → Calls Tryd.prog 44 #[.pointer (some ⟨h, 0, none⟩), .int .i64 i] W fun e w' => e = .returned (.bool (decide (0 ≤ i) && decide (i < (A.objs.length : Int)))) ∧ W = w' := by
  intro W hW
  obtain ⟨p, cap, hsv⟩ := row_slice H.row
  subst hsv
  have := has_any h p gs.length cap A.left i W (H.fr hW).hp
  rw [← H.len] at this
  exact this
/-- What Kind answers. -/
def Hp.kind (A : Hp) (i : Int) : Int := if 0 ≤ i then (match A.objs[i.toNat]? with | some o => o.kind | none => 0) else 0
def Hp.proto (A : Hp) (i : Int) : Int := if 0 ≤ i then (match A.objs[i.toNat]? with | some o => o.proto | none => -1) else -1
theorem kind_lost (h : Nat) (A : Hp) (sv : Value) (gs : List Gx) (i : Int) (w : World) (H : HeapG h A sv gs w) (hlen : A.objs.length ≤ 10000) (hi : ¬ (0 ≤ i ∧ i < (A.objs.length : Int))) :
    Calls Tryd.prog 39 #[.pointer (some ⟨h, 0, none⟩), .int .i64 i] w fun e w' => e = .returned (.int .i64 0) ∧ w = w' := by
  have hhas := has_obj H hlen i w (Fr.refl _ _)
  have e : (decide (0 ≤ i) && decide (i < (A.objs.length : Int))) = false := by
    rw [Bool.and_eq_false_iff, decide_eq_false_iff_not, decide_eq_false_iff_not]; omega
  rw [e] at hhas
  clear e hi hlen H
  go_enter Tryd.func39, Tryd.ntmps39
  go_wp2_with (first
    | (go_at_call 44; ((with_reducible refine hhas.mono ?_); rintro e w1 ⟨rfl, rfl⟩))
    | fail)
  go_ret
  exact ⟨rfl, rfl⟩
theorem proto_lost (h : Nat) (A : Hp) (sv : Value) (gs : List Gx) (i : Int) (w : World) (H : HeapG h A sv gs w) (hlen : A.objs.length ≤ 10000) (hi : ¬ (0 ≤ i ∧ i < (A.objs.length : Int))) :
    Calls Tryd.prog 40 #[.pointer (some ⟨h, 0, none⟩), .int .i64 i] w fun e w' => e = .returned (.int .i64 (-1)) ∧ w = w' := by
  have hhas := has_obj H hlen i w (Fr.refl _ _)
  have e : (decide (0 ≤ i) && decide (i < (A.objs.length : Int))) = false := by
    rw [Bool.and_eq_false_iff, decide_eq_false_iff_not, decide_eq_false_iff_not]; omega
  rw [e] at hhas
  clear e hi hlen H
  go_enter Tryd.func40, Tryd.ntmps40
  go_wp2_with (first
    | (go_at_call 44; ((with_reducible refine hhas.mono ?_); rintro e w1 ⟨rfl, rfl⟩))
    | fail)
  go_ret
  exact ⟨rfl, rfl⟩
theorem kind_at (h : Nat) (A : Hp) (sv : Value) (gs : List Gx) (i : Nat) (o : Ob) (w : World) (H : HeapG h A sv gs w) (ho : A.objs[i]? = some o) (hlen : A.objs.length ≤ 10000) :
    Calls Tryd.prog 39 #[.pointer (some ⟨h, 0, none⟩), .int .i64 (i : Int)] w fun e w' => e = .returned (.int .i64 o.kind) ∧ w = w' := by
  have hhas := has_obj H hlen (i : Int) w (Fr.refl _ _)
  have hi0 := lt_of_getElem ho
  obtain ⟨g, hg⟩ : ∃ g, gs[i]? = some g := ⟨gs[i]'(by rw [← H.len]; exact hi0), List.getElem?_eq_getElem _⟩
  obtain ⟨gb, cap, hsv, hcell, hgbm, hi⟩ := H.obj hg
  have e : (decide (0 ≤ (i : Int)) && decide ((i : Int) < (A.objs.length : Int))) = true := by simp; omega
  rw [e] at hhas
  have hblk : w.cell? ⟨g.blk, 0, none⟩ = some (.int .i64 o.kind) := blk_cell (H.obs i o g ho hg).blk 0 _ rfl
  subst hsv
  have hc0 := H.hp.c0
  have hl := H.len
  have hin : gs.length ≤ 10000 := by omega
  clear e hlen H ho hg hi0
  generalize g.blk = b at *
  go_enter Tryd.func39, Tryd.ntmps39
  go_wp2_with (first
    | (go_at_call 44; ((with_reducible refine hhas.mono ?_); rintro e w1 ⟨rfl, rfl⟩))
    | fail)
  go_ret
  exact ⟨rfl, rfl⟩
theorem proto_at (h : Nat) (A : Hp) (sv : Value) (gs : List Gx) (i : Nat) (o : Ob) (w : World) (H : HeapG h A sv gs w) (ho : A.objs[i]? = some o) (hlen : A.objs.length ≤ 10000) :
    Calls Tryd.prog 40 #[.pointer (some ⟨h, 0, none⟩), .int .i64 (i : Int)] w fun e w' => e = .returned (.int .i64 o.proto) ∧ w = w' := by
  have hhas := has_obj H hlen (i : Int) w (Fr.refl _ _)
  have hi0 := lt_of_getElem ho
  obtain ⟨g, hg⟩ : ∃ g, gs[i]? = some g := ⟨gs[i]'(by rw [← H.len]; exact hi0), List.getElem?_eq_getElem _⟩
  obtain ⟨gb, cap, hsv, hcell, hgbm, hi⟩ := H.obj hg
  have e : (decide (0 ≤ (i : Int)) && decide ((i : Int) < (A.objs.length : Int))) = true := by simp; omega
  rw [e] at hhas
  have hblk : w.cell? ⟨g.blk, 1, none⟩ = some (.int .i64 o.proto) := blk_cell (H.obs i o g ho hg).blk 1 _ rfl
  subst hsv
  have hc0 := H.hp.c0
  have hl := H.len
  have hin : gs.length ≤ 10000 := by omega
  clear e hlen H ho hg hi0
  generalize g.blk = b at *
  go_enter Tryd.func40, Tryd.ntmps40
  go_wp2_with (first
    | (go_at_call 44; ((with_reducible refine hhas.mono ?_); rintro e w1 ⟨rfl, rfl⟩))
    | fail)
  go_ret
  exact ⟨rfl, rfl⟩
theorem kind_any (h : Nat) (A : Hp) (sv : Value) (gs : List Gx) (i : Int) (w : World) (H : HeapG h A sv gs w) (hlen : A.objs.length ≤ 10000) :
    Calls Tryd.prog 39 #[.pointer (some ⟨h, 0, none⟩), .int .i64 i] w fun e w' => e = .returned (.int .i64 (A.kind i)) ∧ w = w' := by
  by_cases hi : 0 ≤ i ∧ i < (A.objs.length : Int)
  · obtain ⟨n, rfl⟩ : ∃ n : Nat, i = n := ⟨i.toNat, by omega⟩
    have hn : n < A.objs.length := by omega
    have e : A.kind (n : Int) = A.objs[n].kind := by unfold Hp.kind; rw [if_pos (by omega), Int.toNat_natCast, List.getElem?_eq_getElem hn]
    rw [e]
    exact kind_at h A sv gs n _ w H (List.getElem?_eq_getElem hn) hlen
  · have e : A.kind i = 0 := by
      unfold Hp.kind
      split
      · rw [List.getElem?_eq_none (by omega)]
      · rfl
    rw [e]
    exact kind_lost h A sv gs i w H hlen hi
theorem proto_any (h : Nat) (A : Hp) (sv : Value) (gs : List Gx) (i : Int) (w : World) (H : HeapG h A sv gs w) (hlen : A.objs.length ≤ 10000) :
    Calls Tryd.prog 40 #[.pointer (some ⟨h, 0, none⟩), .int .i64 i] w fun e w' => e = .returned (.int .i64 (A.proto i)) ∧ w = w' := by
  by_cases hi : 0 ≤ i ∧ i < (A.objs.length : Int)
  · obtain ⟨n, rfl⟩ : ∃ n : Nat, i = n := ⟨i.toNat, by omega⟩
    have hn : n < A.objs.length := by omega
    have e : A.proto (n : Int) = A.objs[n].proto := by unfold Hp.proto; rw [if_pos (by omega), Int.toNat_natCast, List.getElem?_eq_getElem hn]
    rw [e]
    exact proto_at h A sv gs n _ w H (List.getElem?_eq_getElem hn) hlen
  · have e : A.proto i = -1 := by
      unfold Hp.proto
      split
      · rw [List.getElem?_eq_none (by omega)]
      · rfl
    rw [e]
    exact proto_lost h A sv gs i w H hlen hi
theorem items_none (h : Nat) (A : Hp) (sv : Value) (gs : List Gx) (i : Int) (w : World) (H : HeapG h A sv gs w) (hlen : A.objs.length ≤ 10000) (hk : A.kind i ≠ 2) :
    Calls Tryd.prog 29 #[.pointer (some ⟨h, 0, none⟩), .int .i64 i] w fun e w' => e = .returned (.tuple #[.slice none 0 0, .bool false]) ∧ w = w' := by
  have hkd := kind_any h A sv gs i w H hlen
  generalize A.kind i = z at *
  have hz : (z != 2) = true := by rw [bne_iff_ne]; exact hk
  clear H hlen hk
  go_enter Tryd.func29, Tryd.ntmps29
  go_wp2_with (first
    | (go_at_call 39; ((with_reducible refine hkd.mono ?_); rintro e w1 ⟨rfl, rfl⟩))
    | fail)
  go_ret2
  exact ⟨rfl, rfl⟩
theorem items_array (h : Nat) (A : Hp) (sv : Value) (gs : List Gx) (i : Nat) (o : Ob) (w : World) (H : HeapG h A sv gs w) (ho : A.objs[i]? = some o) (hlen : A.objs.length ≤ 10000) (hk : o.kind = 2) (hn : o.items.length ≤ 100000) :
    Calls Tryd.prog 29 #[.pointer (some ⟨h, 0, none⟩), .int .i64 (i : Int)] w fun e w' => e = .returned (.tuple #[.slice (some ⟨w.heap.size, 0, none⟩) o.items.length o.items.length, .bool true]) ∧
      w'.ownsRow w.heap.size 31 4 (.slice (some ⟨w.heap.size, 0, none⟩) o.items.length o.items.length) o.items.length (itemCells o.items) ∧ Fr [] w w' := by
  have hkd := kind_at h A sv gs i o w H ho hlen
  rw [hk] at hkd
  have hi0 := lt_of_getElem ho
  obtain ⟨g, hg⟩ : ∃ g, gs[i]? = some g := ⟨gs[i]'(by rw [← H.len]; exact hi0), List.getElem?_eq_getElem _⟩
  obtain ⟨gb, cap, hsv, hcell, hgbm, hi⟩ := H.obj hg
  have hob := H.obs i o g ho hg
  have hblk : w.cell? ⟨g.blk, 4, none⟩ = some g.it := blk_cell hob.blk 4 _ rfl
  have hcp := copied_any g.it o.items.length o.items hn w (RowAt.of_own hob.items)
  subst hsv
  have hc0 := H.hp.c0
  have hl := H.len
  have hin : gs.length ≤ 10000 := by omega
  generalize itemCells o.items = cells at *
  generalize o.items.length = n at *
  obtain ⟨p, c, hit⟩ := row_slice hob.items
  rw [hit] at hblk hcp
  clear hlen H ho hg hi0 hob hk hit
  generalize g.blk = b at *
  go_enter Tryd.func29, Tryd.ntmps29
  go_wp2_with (first
    | (go_at_call 39; ((with_reducible refine hkd.mono ?_); rintro e w1 ⟨rfl, rfl⟩))
    | (go_at_call 57; ((with_reducible refine hcp.mono ?_); rintro e w2 ⟨rfl, ho2, hf2⟩; have O2 := Lib.hid ho2; have F2 := Lib.hid hf2; clear ho2 hf2))
    | fail)
  go_ret2
  exact ⟨rfl, O2.out, F2.out⟩
/-! The same at a heap with blocks beside it. -/
theorem kind_h {N h : Nat} {A : Hp} {L : List Nat} {w0 w : World} (H : Hv N h A L w0 w) (i : Int) :
    Calls Tryd.prog 39 #[.pointer (some ⟨h, 0, none⟩), .int .i64 i] w fun e w' => e = .returned (.int .i64 (A.kind i)) ∧ Nx N h A L w0 w w' := by
  have H' := H
  obtain ⟨sv, gs, hG, hF, h1, h2, h3, h4⟩ := H
  refine (kind_any h A sv gs i w hG hF.objs).mono ?_
  rintro e w' ⟨rfl, rfl⟩
  exact ⟨rfl, H'.fr (Fr.refl _ _)⟩
theorem proto_h {N h : Nat} {A : Hp} {L : List Nat} {w0 w : World} (H : Hv N h A L w0 w) (i : Int) :
    Calls Tryd.prog 40 #[.pointer (some ⟨h, 0, none⟩), .int .i64 i] w fun e w' => e = .returned (.int .i64 (A.proto i)) ∧ Nx N h A L w0 w w' := by
  have H' := H
  obtain ⟨sv, gs, hG, hF, h1, h2, h3, h4⟩ := H
  refine (proto_any h A sv gs i w hG hF.objs).mono ?_
  rintro e w' ⟨rfl, rfl⟩
  exact ⟨rfl, H'.fr (Fr.refl _ _)⟩
theorem items_none_h {N h : Nat} {A : Hp} {L : List Nat} {w0 w : World} (H : Hv N h A L w0 w) (i : Int) (hk : A.kind i ≠ 2) :
    Calls Tryd.prog 29 #[.pointer (some ⟨h, 0, none⟩), .int .i64 i] w fun e w' => e = .returned (.tuple #[.slice none 0 0, .bool false]) ∧ Nx N h A L w0 w w' := by
  have H' := H
  obtain ⟨sv, gs, hG, hF, h1, h2, h3, h4⟩ := H
  refine (items_none h A sv gs i w hG hF.objs hk).mono ?_
  rintro e w' ⟨rfl, rfl⟩
  exact ⟨rfl, H'.fr (Fr.refl _ _)⟩
theorem items_h {N h : Nat} {A : Hp} {L : List Nat} {w0 w : World} (H : Hv N h A L w0 w) (i : Nat) (o : Ob) (ho : A.objs[i]? = some o) (hk : o.kind = 2) :
    Calls Tryd.prog 29 #[.pointer (some ⟨h, 0, none⟩), .int .i64 (i : Int)] w fun e w' => e = .returned (.tuple #[.slice (some ⟨w.heap.size, 0, none⟩) o.items.length o.items.length, .bool true]) ∧
      w'.ownsRow w.heap.size 31 4 (.slice (some ⟨w.heap.size, 0, none⟩) o.items.length o.items.length) o.items.length (itemCells o.items) ∧ Nx N h A L w0 w w' ∧ Fr [] w w' := by
  have H' := H
  obtain ⟨sv, gs, hG, hF, h1, h2, h3, h4⟩ := H
  refine (items_array h A sv gs i o w hG ho hF.objs hk (Nat.le_trans (hF.items i o ho) (by decide))).mono ?_
  rintro e w' ⟨rfl, ho', hf⟩
  exact ⟨rfl, ho', H'.fr hf, hf⟩
end Go.Proofs.YtmhoebbdapjpeaaDoor
namespace Go.Proofs.YtmhoebbdapjpeaaDoor
open Go.RowKit Go.Maps
set_option linter.all false

/-- What an object of any number has of its own. -/
def Hp.own (A : Hp) (i : Int) (k : List UInt8) : Option V := if 0 ≤ i then (match A.objs[i.toNat]? with | some o => o.own k | none => none) else none
theorem own_all (h : Nat) (A : Hp) (sv : Value) (gs : List Gx) (i : Int) (k : List UInt8) (hk : k.length ≤ 140737488355328) (w : World) (H : HeapG h A sv gs w) (F : A.Few) :
    Calls Tryd.prog 23 #[.pointer (some ⟨h, 0, none⟩), .int .i64 i, .string (bs k)] w fun e w' => e = .returned (ansV (A.own i k)) ∧ Fr [] w w' := by
  by_cases hi : 0 ≤ i ∧ i < (A.objs.length : Int)
  · obtain ⟨n, rfl⟩ : ∃ n : Nat, i = n := ⟨i.toNat, by omega⟩
    have hn : n < A.objs.length := by omega
    have e : A.own (n : Int) k = A.objs[n].own k := by unfold Hp.own; rw [if_pos (by omega), Int.toNat_natCast, List.getElem?_eq_getElem hn]
    rw [e]
    exact own_any h A sv gs n _ k hk w H (List.getElem?_eq_getElem hn) F.objs (F.items n _ (List.getElem?_eq_getElem hn))
  · have e : A.own i k = none := by
      unfold Hp.own
      split
      · rw [List.getElem?_eq_none (by omega)]
      · rfl
    rw [e]
    exact own_lost h A sv gs i (bs k) w H (by omega)
theorem own_all_h {N h : Nat} {A : Hp} {L : List Nat} {w0 w : World} (H : Hv N h A L w0 w) (i : Int) (k : List UInt8) (hk : k.length ≤ 140737488355328) :
    Calls Tryd.prog 23 #[.pointer (some ⟨h, 0, none⟩), .int .i64 i, .string (bs k)] w fun e w' => e = .returned (ansV (A.own i k)) ∧ Nx N h A L w0 w w' := by
  have H' := H
  obtain ⟨sv, gs, hG, hF, h1, h2, h3, h4⟩ := H
  refine (own_all h A sv gs i k hk w hG hF).mono ?_
  rintro e w' ⟨rfl, hf⟩
  exact ⟨rfl, H'.fr hf⟩
set_option maxRecDepth 100000 in
set_option maxHeartbeats 1000000 in
theorem drop_none (h : Nat) (A : Hp) (sv : Value) (gs : List Gx) (i : Int) (k : List UInt8) (hk : k.length ≤ 140737488355328) (w : World) (H : HeapG h A sv gs w) (F : A.Few) (hn : A.own i k = none) :
    Calls Tryd.prog 26 #[.pointer (some ⟨h, 0, none⟩), .int .i64 i, .string (bs k)] w fun e w' => e = .returned (.bool false) ∧ Fr [] w w' := by
  have hown : Calls Tryd.prog 23 #[.pointer (some ⟨h, 0, none⟩), .int .i64 i, .string (bs k)] w fun e w' => e = .returned (.tuple #[.agg #[.int .i64 0, .float .f64 0, .string ⟨#[]⟩, .int .i64 0], .bool false]) ∧ Fr [] w w' := by
    have := own_all h A sv gs i k hk w H F
    rw [hn] at this
    exact this
  have hst := store_float
  clear hn H F hk
  generalize bs k = S at *
  go_enter Tryd.func26, Tryd.ntmps26
  go_wp2_with (first
    | (go_at_call 23; ((with_reducible refine hown.mono ?_); rintro e w1 ⟨rfl, hf1⟩; have R1 := Lib.hid (hf1.trans (Fr.alloc w1 (.cells #[.int .i64 0, .float .f64 0, .string ⟨#[]⟩, .int .i64 0] 31 (0, 0))) (fun _ h => by cases h)); clear hf1))
    | fail)
  go_ret
  exact ⟨rfl, R1.out⟩
set_option maxRecDepth 100000 in
set_option maxHeartbeats 1000000 in
theorem drop_length (h : Nat) (A : Hp) (sv : Value) (gs : List Gx) (i : Nat) (o : Ob) (w : World) (H : HeapG h A sv gs w) (F : A.Few) (ho : A.objs[i]? = some o) (hk2 : o.kind = 2) :
    Calls Tryd.prog 26 #[.pointer (some ⟨h, 0, none⟩), .int .i64 (i : Int), .string (bs lenB)] w fun e w' => e = .returned (.bool false) ∧ Fr [] w w' := by
  have hi0 := lt_of_getElem ho
  obtain ⟨g, hg⟩ : ∃ g, gs[i]? = some g := ⟨gs[i]'(by rw [← H.len]; exact hi0), List.getElem?_eq_getElem _⟩
  obtain ⟨gb, cap, hsv, hcell, hgbm, hi⟩ := H.obj hg
  have hlen' := H.len
  have hkl : lenB.length ≤ 140737488355328 := by decide
  obtain ⟨v, hv⟩ : ∃ v, o.own lenB = some v := ⟨lenV o.items.length, by unfold Ob.own; rw [if_pos ⟨hk2, rfl⟩]⟩
  have hown : Calls Tryd.prog 23 #[.pointer (some ⟨h, 0, none⟩), .int .i64 (i : Int), .string (bs lenB)] w fun e w' => e = .returned (.tuple #[.agg #[.int .i64 v.k, .float .f64 v.n, .string (bs v.t), .int .i64 v.r], .bool true]) ∧ Fr [] w w' := by
    have := own_any h A sv gs i o lenB hkl w H ho F.objs (F.items i o ho)
    rw [hv] at this
    exact this
  have hblk : ∀ W, Fr [] w W → W.cell? ⟨g.blk, 0, none⟩ = some (.int .i64 o.kind) := fun W hW => blk_cell ((H.fr hW).obs i o g ho hg).blk 0 _ rfl
  have hisl : ∀ W, Fr [] w W → Calls Tryd.prog 47 #[.pointer (some ⟨g.blk, 0, none⟩), .string (bs lenB)] W fun e w' => e = .returned (.bool true) ∧ W = w' := by
    intro W hW
    refine (isLength_any g.blk o.kind lenB W (hblk W hW)).mono ?_
    rintro e w' ⟨rfl, rfl⟩
    exact ⟨ret_bool (by rw [hk2]; simp), rfl⟩
  subst hsv
  have hc0 : ∀ W, Fr [] w W → W.cell? ⟨h, 0, none⟩ = some (.slice (some ⟨gb, 0, none⟩) gs.length cap) := fun W hW => (H.fr hW).hp.c0
  have hcr : ∀ W, Fr [] w W → W.cell? ⟨gb, i, none⟩ = some (.pointer (some ⟨g.blk, 0, none⟩)) := fun W hW => (hW.cell (H.lt gb hgbm) List.not_mem_nil i).trans hcell
  have hin : gs.length ≤ 10000 := by have := F.objs; omega
  have HISL := Lib.hid hisl
  have HC0 := Lib.hid hc0
  have HCR := Lib.hid hcr
  have hst := store_float
  obtain ⟨G, hG⟩ : ∃ G, G = gs.length := ⟨_, rfl⟩
  rw [← hG] at hin hi HC0
  generalize g.blk = b at *
  clear hG hisl hc0 hcr hblk hv F ho hg H hcell hgbm hlen' hkl hk2 hi0
  generalize bs lenB = S at *
  generalize v.k = vk at *
  generalize v.n = vn at *
  generalize bs v.t = vT at *
  generalize v.r = vr at *
  go_enter Tryd.func26, Tryd.ntmps26
  go_wp2_with (first
    | (go_at_call 23; ((with_reducible refine hown.mono ?_); rintro e w1 ⟨rfl, hf1⟩; have R1 := Lib.hid (hf1.trans (Fr.alloc w1 (.cells #[.int .i64 vk, .float .f64 vn, .string vT, .int .i64 vr] 31 (0, 0))) (fun _ h => by cases h)); clear hf1; have k0 := HC0.out _ R1.out; have k1 := HCR.out _ R1.out))
    | (go_at_call 47; ((with_reducible refine (HISL.out _ R1.out).mono ?_); rintro e w2 ⟨rfl, rfl⟩))
    | fail)
  go_ret
  exact ⟨rfl, R1.out⟩
theorem drop_none_h {N h : Nat} {A : Hp} {L : List Nat} {w0 w : World} (H : Hv N h A L w0 w) (i : Int) (k : List UInt8) (hk : k.length ≤ 140737488355328) (hn : A.own i k = none) :
    Calls Tryd.prog 26 #[.pointer (some ⟨h, 0, none⟩), .int .i64 i, .string (bs k)] w fun e w' => e = .returned (.bool false) ∧ Nx N h A L w0 w w' := by
  have H' := H
  obtain ⟨sv, gs, hG, hF, h1, h2, h3, h4⟩ := H
  refine (drop_none h A sv gs i k hk w hG hF hn).mono ?_
  rintro e w' ⟨rfl, hf⟩
  exact ⟨rfl, H'.fr hf⟩
end Go.Proofs.YtmhoebbdapjpeaaDoor
namespace Go.Proofs.YtmhoebbdapjpeaaDoor
open Go.RowKit Go.Maps
set_option linter.all false

theorem itemCells_cons (a : V) (l : List V) : itemCells (a :: l) = .int .i64 a.k :: .float .f64 a.n :: .string (bs a.t) :: .int .i64 a.r :: itemCells l := rfl
theorem itemCells_set (v : V) : ∀ (l : List V) (j : Nat), j < l.length →
    (((((itemCells l).set (j * 4) (.int .i64 v.k)).set (j * 4 + 1) (.float .f64 v.n)).set (j * 4 + 2) (.string (bs v.t))).set (j * 4 + 3) (.int .i64 v.r)) = itemCells (l.set j v)
  | [], j, h => by simp at h
  | a :: l, 0, h => rfl
  | a :: l, j + 1, h => by
    have ih := itemCells_set v l j (by simpa using h)
    rw [List.set_cons_succ, itemCells_cons, itemCells_cons, ← ih]
    rw [show (j + 1) * 4 = j * 4 + 1 + 1 + 1 + 1 by omega]
    rfl
/-- The world behind. -/
def setItem (w : World) (x j : Nat) (v : V) : World := (((w.setCell ⟨x, j * 4, none⟩ (.int .i64 v.k)).setCell ⟨x, j * 4 + 1, none⟩ (.float .f64 v.n)).setCell ⟨x, j * 4 + 2, none⟩ (.string (bs v.t))).setCell ⟨x, j * 4 + 3, none⟩ (.int .i64 v.r)
theorem setItem_fr (w : World) (x j : Nat) (v : V) : Fr [x] w (setItem w x j v) := by
  have g : ∀ z ∈ [x], z ∈ [x] ∨ w.heap.size ≤ z := fun z hz => Or.inl hz
  exact (((Fr.set w x _ _).trans (Fr.set _ x _ _) g).trans (Fr.set _ x _ _) g).trans (Fr.set _ x _ _) g
theorem setItem_other {w : World} {x y : Nat} (j : Nat) (v : V) (h : y ≠ x) : (setItem w x j v).heap[y]? = w.heap[y]? := by
  unfold setItem
  exact (heap_set_other h _ _).trans ((heap_set_other h _ _).trans ((heap_set_other h _ _).trans (heap_set_other h _ _)))
theorem setItem_row {w : World} {base : Nat} {x n cap : Nat} {l : List V} (h : w.ownsRow base 31 4 (.slice (some ⟨x, 0, none⟩) n cap) n (itemCells l)) (hl : l.length = n) (j : Nat) (hj : j < n) (v : V) :
    (setItem w x j v).ownsRow base 31 4 (.slice (some ⟨x, 0, none⟩) n cap) n (itemCells (l.set j v)) := by
  rw [← itemCells_set v l j (by omega)]
  unfold setItem
  exact ((((h.stored (j * 4) (.int .i64 v.k)).1.stored (j * 4 + 1) (.float .f64 v.n)).1.stored (j * 4 + 2) (.string (bs v.t))).1.stored (j * 4 + 3) (.int .i64 v.r)).1
theorem ObAt.setItem {o : Ob} {g : Gx} {w : World} (H : ObAt o g w) {x cap : Nat} (hit : g.it = .slice (some ⟨x, 0, none⟩) o.items.length cap) (j : Nat) (hj : j < o.items.length) (v : V) :
    ObAt { o with items := o.items.set j v } g (setItem w x j v) := by
  have hap := H.apart
  have hfr := setItem_fr w x j v
  have hmem : x ∈ g.it.ownBlock.toList := by rw [hit]; simp [Value.ownBlock]
  have hx : ∀ y, y = g.blk ∨ y ∈ blocksR g.op g.L → y ≠ x := by
    rintro y hy rfl
    unfold Gx.blocks at hap
    rw [List.nodup_cons, List.nodup_append] at hap
    rcases hy with rfl | hy
    · exact hap.1 (List.mem_append_right _ hmem)
    · exact hap.2.2.2 y hy y hmem rfl
  refine ⟨?_, H.props.keep (fun y hy => setItem_other j v (hx y (Or.inr hy))), H.eq, H.apart, H.keys, ?_⟩
  · exact (setItem_other j v (hx g.blk (Or.inl rfl))).trans H.blk
  · have hr := H.items
    rw [hit] at hr
    have := setItem_row hr rfl j hj v
    rw [← hit] at this
    show (Go.Proofs.YtmhoebbdapjpeaaDoor.setItem w x j v).ownsRow 0 31 4 g.it (o.items.set j v).length (itemCells (o.items.set j v))
    rw [List.length_set]
    exact this
/-- Nothing but an item of an object is written over. -/
theorem Upd.item {h : Nat} {sv : Value} {left : Int} {o : Ob} {g : Gx} {w : World} (H : ObAt o g w) (hh : HpC h sv left w) (hgh : h ∉ g.blocks) (hlt : ∀ y ∈ g.blocks, y < w.heap.size) {x cap : Nat} (hit : g.it = .slice (some ⟨x, 0, none⟩) o.items.length cap) (j : Nat) (hj : j < o.items.length) (v : V) :
    Upd h sv g { o with items := o.items.set j v } left w (setItem w x j v) := by
  have hfr := setItem_fr w x j v
  have hxg : x ∈ g.blocks := by
    unfold Gx.blocks
    exact List.mem_cons_of_mem _ (List.mem_append_right _ (by rw [hit]; simp [Value.ownBlock]))
  refine ⟨⟨g, rfl, H.setItem hit j hj v, fun b hb => ⟨Or.inl hb, Nat.lt_of_lt_of_le (hlt b hb) hfr.size⟩⟩, ?_, hfr.mono (fun z hz => Or.inl ?_)⟩
  · exact (setItem_other j v (fun e => hgh (by rw [e]; exact hxg))).trans hh
  · simp at hz
    rw [hz]
    exact List.mem_cons_of_mem _ hxg
end Go.Proofs.YtmhoebbdapjpeaaDoor
