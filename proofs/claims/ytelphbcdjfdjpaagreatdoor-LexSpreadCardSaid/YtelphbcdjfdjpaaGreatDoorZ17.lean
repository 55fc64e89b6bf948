/- The reader takes a lexeme; the list that it grows. Conditions: those that each theorem names. eslex.Lex: a script's lexemes, or the place of its first fault. Conditions: those that each theorem names. -/
import Derived.Test.YtelphbcdjfdjpaaGreatDoorZ16
import Derived.Deep.RegionLaw
import Derived.Deep.AppendLies
namespace Go.Proofs.YtelphbcdjfdjpaaGreatDoor
open Go.RowKit Go.Shelf
set_option linter.all false

/-- A lexeme's five cells. -/
def lxCells (x : X.Lx) : List Value := [.int .i64 (x.kind : Int), .string (bs x.text), .float .f64 x.num, .int .i64 (x.place : Int), .bool x.line]
def lxsCells (l : List X.Lx) : List Value := l.flatMap lxCells
theorem lxsCells_length : ∀ (l : List X.Lx), (lxsCells l).length = l.length * 5
  | [] => rfl
  | x :: l => by
    show (lxCells x ++ lxsCells l).length = _
    rw [List.length_append, lxsCells_length l, List.length_cons]
    show 5 + _ = _
    omega
theorem lxsCells_snoc (l : List X.Lx) (x : X.Lx) : lxsCells (l ++ [x]) = lxsCells l ++ lxCells x := by simp [lxsCells]

/-- The reader's list is a row of the call's own, B and beyond. -/
def Lst (B : Nat) (l : List X.Lx) (lv : Value) (w : World) : Prop := w.ownsRow B 32 5 lv l.length (lxsCells l)

theorem Lst.bel {B : Nat} {l : List X.Lx} {lv : Value} {w w' : World} (h : Lst B l lv w) (k : Below w.heap.size w w') : Lst B l lv w' := by
  refine ⟨h.1, ?_⟩
  rcases h.2 with hn | ⟨g, cap, cur, hv, hg, hh, rest⟩
  · exact .inl hn
  · exact .inr ⟨g, cap, cur, hv, hg, Below.keep k hh, rest⟩
theorem put_a {w w1 : World} (V : Array Value) (hb : Below w.drew.heap.size w.drew w1) :
    (w1.alloc (.cells V 32)).heap[w1.heap.size]? = some (.cells V 32 (0, 0)) ∧ w.heap.size ≤ w1.heap.size ∧ Below w.heap.size w (w1.alloc (.cells V 32)) := by
  have hs : w.heap.size ≤ w1.heap.size := hb.size
  exact ⟨heap_new w1 _, hs, (((Below.refl _ _).drew).trans hb).alloc hs _⟩
theorem put_b {w w1 : World} {a0 a1 a2 a3 a4 : Value} (hZ : w1.heap[w.heap.size]? = some lexZ) (hb : Below (w.drew.alloc lexZ).heap.size (w.drew.alloc lexZ) w1) :
    (((((w1.setCell ⟨w.heap.size, 0, none⟩ a0).setCell ⟨w.heap.size, 1, none⟩ a1).setCell ⟨w.heap.size, 2, none⟩ a2).setCell ⟨w.heap.size, 3, none⟩ a3).setCell ⟨w.heap.size, 4, none⟩ a4).heap[w.heap.size]? = some (.cells #[a0, a1, a2, a3, a4] 32 (0, 0)) ∧ w.heap.size ≤ w.heap.size ∧
    Below w.heap.size w (((((w1.setCell ⟨w.heap.size, 0, none⟩ a0).setCell ⟨w.heap.size, 1, none⟩ a1).setCell ⟨w.heap.size, 2, none⟩ a2).setCell ⟨w.heap.size, 3, none⟩ a3).setCell ⟨w.heap.size, 4, none⟩ a4) := by
  refine ⟨lexZ_store hZ _ _ _ _ _, Nat.le_refl _, ?_⟩
  have hs : w.heap.size ≤ (w.drew.alloc lexZ).heap.size := Nat.le_of_lt (by rw [heap_size]; exact Nat.lt_succ_self _)
  have h0 : Below w.heap.size w w1 := (((Below.refl _ _).drew).alloc (Nat.le_refl _) _).trans (hb.mono hs)
  exact ((((h0.setCell (p := ⟨w.heap.size, 0, none⟩) (Nat.le_refl _) _).setCell (p := ⟨w.heap.size, 1, none⟩) (Nat.le_refl _) _).setCell (p := ⟨w.heap.size, 2, none⟩) (Nat.le_refl _) _).setCell (p := ⟨w.heap.size, 3, none⟩) (Nat.le_refl _) _).setCell (p := ⟨w.heap.size, 4, none⟩) (Nat.le_refl _) _

/-- What lexeme leaves. -/
def LexRet (B b : Nat) (s : List UInt8) (p : Nat) (ln : Bool) (l : List X.Lx) (lv : Value) (w : World) (r : X.Ans) (e : Ending) (w' : World) : Prop :=
  (match r with
    | .yes k t v n => e = .returned (.bool true) ∧ ∃ lv', Rdr b s (p + n) ln lv' w' ∧ Lst B (l ++ [⟨k, t, v, p, ln⟩]) lv' w'
    | _ => e = .returned (.bool false) ∧ Rdr b s p ln lv w') ∧ Below B w w'
theorem ans_no {k : Nat} {T : ByteArray} {v n : Nat} (h : ansV .no = .tuple #[.agg #[.int .i64 (k : Int), .string T, .float .f64 v, .int .i64 0, .bool false], .int .i64 (n : Int)]) : n = 0 := by
  simp [ansV] at h
  omega
theorem ans_yes {k k' : Nat} {t' : List UInt8} {T : ByteArray} {v v' n n' : Nat} (h : ansV (.yes k' t' v' n') = .tuple #[.agg #[.int .i64 (k : Int), .string T, .float .f64 v, .int .i64 0, .bool false], .int .i64 (n : Int)]) : k' = k ∧ bs t' = T ∧ v' = v ∧ n' = n := by
  simp [ansV] at h
  obtain ⟨⟨h1, h2, h3⟩, h4⟩ := h
  exact ⟨by omega, h2, h3, by omega⟩

theorem own_setB {w : World} {B b g cap n : Nat} {xs : List Value} (h : w.ownsRow B 32 5 (.slice (some ⟨g, 0, none⟩) n cap) n xs) (hgb : g ≠ b) (i : Nat) (x : Value) : (w.setCell ⟨b, i, none⟩ x).ownsRow B 32 5 (.slice (some ⟨g, 0, none⟩) n cap) n xs := by
  refine ⟨h.1, ?_⟩
  rcases h.2 with ⟨hn, _⟩ | ⟨g2, cap2, cur, hv, hg, hh, rest⟩
  · cases hn
  · have e := hv
    simp only [Value.slice.injEq, Option.some.injEq, Addr.mk.injEq] at e
    obtain ⟨⟨rfl, _⟩, _, rfl⟩ := e
    exact .inr ⟨g, cap, cur, rfl, hg, by rw [Below.heap_setCell _ _ _ _ hgb]; exact hh, rest⟩
theorem info_lex : (Tryz.prog.info? 32).map (fun i => (i.zero, i.size, i.bytes)) = some (some (.agg #[.int .i64 0, .string ⟨#[]⟩, .float .f64 0, .int .i64 0, .bool false]), 5, 48) := by kernel_rfl
set_option maxHeartbeats 8000000 in
theorem lexeme_any (num : List UInt8 → Option Nat) (N B b : Nat) (hn : NumOk num N) (s : List UInt8) (hs : s.length ≤ 8192) (p : Nat) (hp : p < s.length) (ln : Bool) (l : List X.Lx) (lv : Value) (w : World) (h : Rdr b s p ln lv w) (hl : Low N w) (hN : N ≤ B) (hB : B ≤ b)
    (ho : Lst B l lv w) (hk : X.first num (s.drop p) ≠ .unknown) (hmany : l.length ≤ 8192) :
    Calls Tryz.prog 20 #[.pointer (some ⟨b, 0, none⟩)] w (LexRet B b s p ln l lv w (X.first num (s.drop p))) := by
  have hf := fun W (hW : Low N W) => first_any num N hn (s.drop p) (by rw [List.length_drop]; omega) (by rw [List.length_drop]; omega) hk W hW
  rw [← bs_drop] at hf
  have hsz := bs_size s
  have hpS : (p : Int) ≤ ((bs s).size : Int) := by omega
  have hpz : p ≤ 8192 := by omega
  obtain ⟨c0, c1, c2, c3⟩ := h.cells
  have hfs := fun k t v n => @first_some num (s.drop p) k t v n (by rw [List.length_drop]; omega)
  rw [List.length_drop] at hfs
  obtain ⟨k, t, v, n, hv⟩ := ansV_form (X.first num (s.drop p))
  have hff : ∀ X, RS N b s p ln lv w X → Calls Tryz.prog 43 #[.string ((bs s).extract p (bs s).size)] X fun e w' => e = .returned (.tuple #[.agg #[.int .i64 (k : Int), .string (bs t), .float .f64 v, .int .i64 0, .bool false], .int .i64 (n : Int)]) ∧ Below X.heap.size X w' := by
    intro X hX
    have := hf X hX.2.2.2.low
    rw [hv] at this
    exact this
  have hblt := lt_of_heap h
  have HO := Lib.hid ho
  have HRD := Lib.hid h
  have HL := Lib.hid hl
  have HV := Lib.hid hv
  have HFS := Lib.hid hfs
  have hS : RS N b s p ln lv w w := RS.of HRD.out ⟨Bar.refl _ _, HL.out⟩
  clear hf ho h hl hsz hv hfs
  have hst := store_float
  generalize X.first num (s.drop p) = R at HV HFS hk ⊢
  generalize hT : bs t = T at hff HV
  have HT := Lib.hid hT
  clear hT
  go_enter Tryz.func20, Tryz.ntmps20
  go_wp2
  rename_i K hK
  have key : ∀ (a : Nat) (W : World), W.heap[a]? = some (.cells #[.int .i64 (k : Int), .string T, .float .f64 v, .int .i64 0, .bool false] 32 (0, 0)) → w.heap.size ≤ a → Below w.heap.size w W →
      K { tmps := #[.pointer (some ⟨b, 0, none⟩), undef, .bool false, .pointer (some ⟨a, 0, none⟩), .int .i64 (n : Int), .tuple #[.agg #[.int .i64 (k : Int), .string T, .float .f64 v, .int .i64 0, .bool false], .int .i64 (n : Int)], .pointer (some ⟨b, 0, none⟩), .pointer (some ⟨b, 0, none⟩), .pointer (some ⟨b, 0, none⟩), .string (bs s), .pointer (some ⟨b, 0, none⟩), .pointer (some ⟨b, 0, none⟩), .pointer (some ⟨b, 1, none⟩), .int .i64 (p : Int), .string ((bs s).extract p (bs s).size), .tuple #[.agg #[.int .i64 (k : Int), .string T, .float .f64 v, .int .i64 0, .bool false], .int .i64 (n : Int)], .agg #[.int .i64 (k : Int), .string T, .float .f64 v, .int .i64 0, .bool false], .int .i64 (n : Int), undef, undef, undef, undef, undef, undef, undef, undef, undef, undef, undef, undef, undef, undef, undef, undef, undef, undef, undef, undef, undef, undef, undef, undef, undef, undef, undef, undef, undef, undef], defers := [] } W := by
    intro a W hA haw hbW
    have hrdW := HRD.out.bel hbW
    have hoW := HO.out.bel hbW
    refine hK _ _ ?_
    clear hK c0 c1 c2 c3 hff hS
    obtain ⟨r0, r1, r2, r3⟩ := hrdW.cells
    obtain ⟨z0, z1, z2, z3, z4⟩ := lex_cells hA
    have y3 := Lib.frozen_of_heap hA 3
    have y4 := Lib.frozen_of_heap hA 4
    have HA := Lib.hid hA
    have HRW := Lib.hid hrdW
    have HBW := Lib.hid hbW
    clear hA hrdW hoW hbW
    by_cases hn0 : n = 0
    · have hz : (n : Int) = 0 := by omega
      have hR : Hid (R = .no) := by
        show _ = _
        cases R with
        | unknown => exact absurd rfl hk
        | no => rfl
        | yes k' t' v' n' =>
          obtain ⟨_, _, _, h4⟩ := ans_yes HV.out
          have := HFS.out k' t' v' n' rfl
          omega
      go_wp2
      go_ret
      refine ⟨?_, HBW.out.mono (by omega)⟩
      rw [show R = .no from hR]
      exact ⟨rfl, HRW.out⟩
    · have hz : ((n : Int) == 0) = false := beq_eq_false_iff_ne.2 (by omega)
      have hab : b ≠ a := by omega
      have hab2 : a ≠ b := by omega
      have HN0 := Lib.hid hn0
      clear hn0
      go_wp2
      rename_i K2 hK2
      have key2 : ∀ (W : World), W.heap[a]? = some (.cells #[.int .i64 (k : Int), .string T, .float .f64 v, .int .i64 (p : Int), .bool ln] 32 (0, 0)) → Below w.heap.size w W →
          K2 { tmps := #[.pointer (some ⟨b, 0, none⟩), undef, .bool false, .pointer (some ⟨a, 0, none⟩), .int .i64 (n : Int), .tuple #[.agg #[.int .i64 (k : Int), .string T, .float .f64 v, .int .i64 0, .bool false], .int .i64 (n : Int)], .pointer (some ⟨b, 0, none⟩), .pointer (some ⟨b, 0, none⟩), .pointer (some ⟨b, 0, none⟩), .string (bs s), .pointer (some ⟨b, 0, none⟩), .pointer (some ⟨b, 0, none⟩), .pointer (some ⟨b, 1, none⟩), .int .i64 (p : Int), .string ((bs s).extract p (bs s).size), .tuple #[.agg #[.int .i64 (k : Int), .string T, .float .f64 v, .int .i64 0, .bool false], .int .i64 (n : Int)], .agg #[.int .i64 (k : Int), .string T, .float .f64 v, .int .i64 0, .bool false], .int .i64 (n : Int), .int .i64 (n : Int), .bool false, .pointer (some ⟨b, 0, none⟩), .pointer (some ⟨b, 0, none⟩), .pointer (some ⟨b, 1, none⟩), .int .i64 (p : Int), .pointer (some ⟨b, 0, none⟩), .pointer (some ⟨b, 0, none⟩), .pointer (some ⟨b, 2, none⟩), .bool ln, .pointer (some ⟨a, 3, none⟩), .pointer (some ⟨a, 4, none⟩), undef, undef, undef, undef, undef, undef, undef, undef, undef, undef, undef, undef, undef, undef, undef, undef, undef, undef], defers := [] } W := by
        intro W3 hA4 hb3
        have hrd3 := HRD.out.bel hb3
        have ho3 := HO.out.bel hb3
        refine hK2 _ _ ?_
        clear hK2 r0 r1 r2 r3 z0 z1 z2 z3 z4 y3 y4
        obtain ⟨r0, r1, r2, r3⟩ := hrd3.cells
        have q1 := hrd3.free 1
        have q3 := hrd3.free 3
        obtain ⟨z0, z1, z2, z3, z4⟩ := lex_cells hA4
        have hblt3 := lt_of_heap hrd3
        have hs3 := hb3.size
        have hne : lv.ownBlock ≠ some b := by
          intro e
          rcases ho3.2 with ⟨hn, _⟩ | ⟨g, cap, cur, hv, _, hh, _⟩
          · rw [hn] at e; cases e
          · rw [hv] at e
            simp only [Value.ownBlock, Option.some.injEq] at e
            subst e
            rw [hrd3] at hh
            cases hh
        obtain ⟨i0, hi0, hz0, hz1, hz2⟩ := info_parts info_lex
        have hBs : ∀ o, B ≤ (W3.alloc o).drew.heap.size := fun o => by have := heap_size W3 o; show B ≤ (W3.alloc o).heap.size; omega
        have ho4 : W3.ownsRow B 32 5 lv l.length (lxsCells l) := ho3
        go_wp2
        go_region_law
          (first
            | (refine step_append_lies _ (by rfl) _ _ _ (by rfl) B 32 i0 _ 5 48 Tryz.underlying23 hi0 hz0 hz1 hz2 rfl (by omega) lv l.length (lxsCells l) (by rfl) ((ho4.alloc _).drew) ⟨W3.heap.size, 0, none⟩ 1 1 [.int .i64 (k : Int), .string T, .float .f64 v, .int .i64 (p : Int), .bool ln] (by rfl) (by rfl) (World.news_of_block (cs := #[.int .i64 (k : Int), .string T, .float .f64 v, .int .i64 (p : Int), .bool ln]) (t := 32) (fr := (0, 0)) (heap_alloc_new W3 _)) (by simp [Value.oneCell']) (by omega) (by unfold maxLen; omega) (by omega) (hBs _) (W3.heap.size + 1) (by simp) ?_; intro g cap w3 hown3 hgrow hat3 hlt3; have hb4 : w3.heap[b]? = some (.cells #[.string (bs s), .int .i64 (p : Int), .bool ln, lv] 38 (0, 0)) := (hgrow.block b (by simp; omega) hne.symm).trans (Below.keep ((Below.refl W3.heap.size W3).alloc (Nat.le_refl _) _) hrd3); obtain ⟨j0, j1, j2, j3⟩ := Rdr.cells hb4; have jf := Rdr.free hb4 3; have jf1 := Rdr.free hb4 1))
        all_goals
          have hgb : g ≠ b := by
            intro e
            subst e
            rcases hat3 with h | h
            · exact hne h
            · omega
          have hW : Below B w ((w3.setCell ⟨b, 3, none⟩ (.slice (some ⟨g, 0, none⟩) (l.length + 1) cap)).setCell ⟨b, 1, none⟩ (.int .i64 ((p : Int) + (n : Int)))) := by
            refine (Below.setCell (p := ⟨b, 3, none⟩) ?_ hB _).setCell (p := ⟨b, 1, none⟩) hB _
            refine Below.grown ((((hb3.mono (by omega)).alloc (by omega) _).drew)) hgrow (hBs _) ?_
            intro q hq
            rcases ho4.2 with ⟨hn, _⟩ | ⟨g2, cap2, cur2, hv2, hg2, _⟩
            · rw [hn] at hq; cases hq
            · rw [hv2] at hq
              simp only [Value.ownBlock, Option.some.injEq] at hq
              omega
          have hrd5 : Rdr b s (p + n) ln (.slice (some ⟨g, 0, none⟩) (l.length + 1) cap) ((w3.setCell ⟨b, 3, none⟩ (.slice (some ⟨g, 0, none⟩) (l.length + 1) cap)).setCell ⟨b, 1, none⟩ (.int .i64 ((p : Int) + (n : Int)))) := by
            have := heap_set (heap_set hb4 3 (.slice (some ⟨g, 0, none⟩) (l.length + 1) cap)) 1 (.int .i64 ((p : Int) + (n : Int)))
            unfold Rdr
            rw [this]
            simp
          have ho5 : ((w3.setCell ⟨b, 3, none⟩ (.slice (some ⟨g, 0, none⟩) (l.length + 1) cap)).setCell ⟨b, 1, none⟩ (.int .i64 ((p : Int) + (n : Int)))).ownsRow B 32 5 (.slice (some ⟨g, 0, none⟩) (l.length + 1) cap) (l.length + 1) (lxsCells l ++ [.int .i64 (k : Int), .string T, .float .f64 v, .int .i64 (p : Int), .bool ln]) :=
            own_setB (own_setB hown3 hgb 3 _) hgb 1 _
          have hnn : n ≤ 8192 := by
            cases hRR : R with
            | unknown => exact absurd hRR hk
            | no =>
              have := HV.out
              rw [hRR] at this
              have := ans_no this
              omega
            | yes k' t' v' n' =>
              have h1 := HFS.out k' t' v' n' hRR
              have := HV.out
              rw [hRR] at this
              obtain ⟨_, _, _, h4⟩ := ans_yes this
              omega
          have HW := Lib.hid hW
          have HR5 := Lib.hid hrd5
          have HO5 := Lib.hid ho5
          clear hgrow hown3 hat3 hW hrd5 ho5
          go_wp2
          go_ret
          cases hRR : R with
          | unknown => exact absurd hRR hk
          | no =>
            exfalso
            have h1 := HV.out
            rw [hRR] at h1
            exact HN0.out (ans_no h1)
          | yes k' t' v' n' =>
            have h1 := HV.out
            rw [hRR] at h1
            obtain ⟨rfl, rfl, rfl, rfl⟩ := ans_yes h1
            refine ⟨⟨rfl, _, HR5.out, ?_⟩, HW.out⟩
            unfold Lst
            rw [lxsCells_snoc, List.length_append]
            exact HO5.out
      have KEY2 := Lib.hid key2
      clear key2 hK2
      go_region_law (fail)
      all_goals
        have hA2 := heap_set (heap_set HA.out 3 (.int .i64 (p : Int))) 4 (.bool ln)
        have hb2 : Below w.heap.size w ((W.setCell ⟨a, 3, none⟩ (.int .i64 (p : Int))).setCell ⟨a, 4, none⟩ (.bool ln)) := (HBW.out.setCell (p := ⟨a, 3, none⟩) haw _).setCell (p := ⟨a, 4, none⟩) haw _
        have h1 : ((W.setCell ⟨a, 3, none⟩ (.int .i64 (p : Int))).setCell ⟨a, 4, none⟩ (.bool ln)).drew.heap[a]? = some (.cells #[.int .i64 (k : Int), .string T, .float .f64 v, .int .i64 (p : Int), .bool ln] 32 (0, 0)) := by
          have : ((W.setCell ⟨a, 3, none⟩ (.int .i64 (p : Int))).setCell ⟨a, 4, none⟩ (.bool ln)).heap[a]? = some (.cells #[.int .i64 (k : Int), .string T, .float .f64 v, .int .i64 (p : Int), .bool ln] 32 (0, 0)) := by simpa using hA2
          exact this
        clear hA2
        have hb3 := hb2.drew
        go_wp2
        with_reducible exact KEY2.out _ h1 hb3
  have HS := Lib.hid hS
  obtain ⟨a0, a1, _, _⟩ := (HRD.out.bel ((Below.refl _ _).alloc (Nat.le_refl _) lexZ)).cells
  dsimp only [lexZ] at a0 a1
  have KEY := Lib.hid key
  clear hS key hK
  go_region_law
      (first
        | (go_simp; go_at_call 43; (refine (hff _ (RS.next HS.out (by first | exact (Below.refl _ _).drew | exact ((Below.refl _ _).drew).alloc (Nat.le_refl _) _ | exact ((Below.refl _ _).alloc (Nat.le_refl _) _).drew))).mono ?_); rintro e w1 ⟨rfl, hb⟩; (first | (have hZ : w1.heap[w.heap.size]? = some lexZ := Below.keep hb (show (w.drew.alloc lexZ).heap[w.drew.heap.size]? = some lexZ from heap_new w.drew lexZ); obtain ⟨z0, z1, z2, z3, z4⟩ := lex_cells hZ; have y0 := Lib.frozen_of_heap hZ 0; have y1 := Lib.frozen_of_heap hZ 1; have y2 := Lib.frozen_of_heap hZ 2; have y3 := Lib.frozen_of_heap hZ 3; have y4 := Lib.frozen_of_heap hZ 4) | skip)))
  all_goals
    go_wp2
    first
      | (obtain ⟨x1, x2, x3⟩ := put_b (w := w) (a0 := .int .i64 (k : Int)) (a1 := .string T) (a2 := .float .f64 v) (a3 := .int .i64 0) (a4 := .bool false) hZ hb
         (with_reducible exact KEY.out _ _ x1 x2 x3))
      | (obtain ⟨x1, x2, x3⟩ := put_a (w := w) #[.int .i64 (k : Int), .string T, .float .f64 v, .int .i64 0, .bool false] hb
         (with_reducible exact KEY.out _ _ x1 x2 x3))
end Go.Proofs.YtelphbcdjfdjpaaGreatDoor
namespace Go.Proofs.YtelphbcdjfdjpaaGreatDoor
open Go.RowKit Go.Shelf
set_option linter.all false

def prepend (d : List X.Lx) : X.Out → X.Out
  | .ok r => .ok (d ++ r)
  | o => o
theorem lexF_step (num : List UInt8 → Option Nat) (f : Nat) (l : List UInt8) (p : Nat) : X.lexF num (f + 1) l p =
    if (X.gap l).2.2 = false then .fault (p + (X.gap l).1)
    else if l.drop (X.gap l).1 = [] then .ok []
    else match X.first num (l.drop (X.gap l).1) with
      | .unknown => .unknown
      | .no => .fault (p + (X.gap l).1)
      | .yes k t v n => match X.lexF num f (l.drop ((X.gap l).1 + n)) (p + (X.gap l).1 + n) with
        | .ok r => .ok (⟨k, t, v, p + (X.gap l).1, (X.gap l).2.1⟩ :: r)
        | o => o := rfl

/-- What Lex leaves. -/
def LexOut (B : Nat) (w : World) (o : X.Out) (e : Ending) (w' : World) : Prop :=
  (match o with
    | .ok l => ∃ lv, e = .returned (.tuple #[lv, .int .i64 0, .int .i64 0]) ∧ Lst B l lv w'
    | .fault p => e = .returned (.tuple #[.slice none 0 0, .int .i64 (p : Int), .int .i64 50])
    | .unknown => True) ∧ Below B w w'

theorem Lst.bar {B : Nat} {l : List X.Lx} {lv : Value} {w w' : World} {s : List UInt8} {p : Nat} {ln : Bool} {v : Value} (h : Lst B l lv w) (k : Bar B w w') (hr : Rdr B s p ln v w) : Lst B l lv w' := by
  refine ⟨h.1, ?_⟩
  rcases h.2 with hn | ⟨g, cap, cur, hv, hg, hh, rest⟩
  · exact .inl hn
  · refine .inr ⟨g, cap, cur, hv, hg, k.keep ?_ hh, rest⟩
    intro e
    subst e
    rw [hr] at hh
    cases hh
theorem lex_long (s : List UInt8) (hs : 8192 < s.length) (hz : s.length ≤ 140737488355328) (w : World) :
    Calls Tryz.prog 10 #[.string (bs s)] w fun e w' => e = .returned (.tuple #[.slice none 0 0, .int .i64 0, .int .i64 2]) ∧ w = w' := by
  have hsz := bs_size s
  have h1 : (8192 : Int) < ((bs s).size : Int) := by omega
  have h2 : (bs s).size ≤ 140737488355328 := by omega
  clear hs hz hsz
  generalize bs s = S at h1 h2 ⊢
  go_enter Tryz.func10, Tryz.ntmps10
  go_wp2
  go_ret3
  exact ⟨rfl, rfl⟩

set_option maxHeartbeats 8000000 in
theorem lex_any (num : List UInt8 → Option Nat) (N : Nat) (hn : NumOk num N) (s : List UInt8) (hs : s.length ≤ 8192) (hk : X.lex num s ≠ .unknown) (w : World) (hl : Low N w) :
    Calls Tryz.prog 10 #[.string (bs s)] w (LexOut w.heap.size w (X.lex num s)) := by
  have hsz := bs_size s
  obtain ⟨B, hB⟩ : ∃ B, w.heap.size = B := ⟨_, rfl⟩
  have hNB : N ≤ B := by rw [← hB]; exact hl.size
  rw [hB]
  have hr : X.lex num s = X.lexF num (s.length + 1) s 0 := rfl
  have hlow : ∀ W, Below B w W → Low N W := fun W hW => hl.bel (by rw [hB]; exact hW)
  have hnew : (w.alloc (.cells #[.string (bs s), .int .i64 0, .bool false, .slice none 0 0] 38)).heap[B]? = some (.cells #[.string (bs s), .int .i64 0, .bool false, .slice none 0 0] 38 (0, 0)) := by
    rw [← hB]; exact heap_new w _
  have hst0 : Below B w (w.alloc (.cells #[.string (bs s), .int .i64 0, .bool false, .slice none 0 0] 38)) := (Below.refl _ _).alloc (by omega) _
  have hgap := fun p (hp : p ≤ s.length) ln lv W hW hLW => gap_any N B s hs p hp ln lv W hW hLW hNB
  have hlex := fun p (hp : p < s.length) ln l lv W hW hLW ho hk hm => lexeme_any num N B B hn s hs p hp ln l lv W hW hLW hNB (Nat.le_refl _) ho hk hm
  have HB := Lib.hid hB
  have HR := Lib.hid hr
  have HLOW := Lib.hid hlow
  have HNEW := Lib.hid hnew
  have HST0 := Lib.hid hst0
  have HGAP := Lib.hid hgap
  have HLEX := Lib.hid hlex
  have HSZ := Lib.hid hsz
  have HK := Lib.hid hk
  have hS1 : ¬ (8192 : Int) < ((bs s).size : Int) := by omega
  have hS2 : (bs s).size ≤ 8192 := by omega
  clear hr hlow hnew hst0 hgap hlex hl hsz hk hB
  generalize X.lex num s = O at HR HK ⊢
  go_enter Tryz.func10, Tryz.ntmps10
  go_wp2
  rw [HB.out]
  go_loopg [11] (s.length) (fun g _ wr => ∃ (p f : Nat) (d : List X.Lx) (ln : Bool) (lv : Value), p + g = s.length ∧ Rdr B s p ln lv wr ∧ Below B w wr ∧ Lst B d lv wr ∧ d.length ≤ p ∧ g + 1 ≤ f ∧ Hid (O = prepend d (X.lexF num f (s.drop p) p)))
  case atStart =>
    refine ⟨0, s.length + 1, [], false, .slice none 0 0, by omega, HNEW.out, HST0.out, ⟨rfl, .inl ⟨rfl, rfl⟩⟩, Nat.le_refl _, Nat.le_refl _, ?_⟩
    show _ = _
    rw [HR.out, List.drop_zero]
    cases X.lexF num (s.length + 1) s 0 <;> rfl
  case round =>
    obtain ⟨p, f, d, ln, lv, hpg, hrd, hbel, hls, hd, hf, hh⟩ := hrel
    have hlw := HLOW.out wr hbel
    have hgap := HGAP.out p (by omega) ln lv wr hrd hlw
    obtain ⟨f, rfl⟩ : ∃ f', f = f' + 1 := ⟨f - 1, by omega⟩
    have hh2 := hh.out
    rw [lexF_step] at hh2
    have hBs : B < wr.heap.size := lt_of_heap hrd
    have HH := Lib.hid hh2
    have HLS := Lib.hid hls
    have HRD := Lib.hid hrd
    have HBEL := Lib.hid hbel
    clear hh2 hh hls hbel hrd hlw
    generalize hG : X.gap (s.drop p) = gp at hgap HH
    clear hG
    obtain ⟨gn, gl, gok⟩ := gp
    unfold GapRet at hgap
    simp only at hgap
    cases gok with
    | false =>
      have hO : O = .fault (p + gn) := by rw [HH.out]; rfl
      have HO := Lib.hid hO
      clear hO
      obtain ⟨q, hq⟩ : ∃ q, p + gn = q := ⟨_, rfl⟩
      rw [hq] at hgap HO
      go_wp2_with (go_at_call 19; refine hgap.mono ?_; rintro e w1 ⟨rfl, hkp, hle, ln1, hl1, hrd1⟩; obtain ⟨c0, c1, c2, c3⟩ := hrd1.cells; have HKP := Lib.hid hkp; clear hkp)
      go_region_law (fail)
      all_goals
        go_wp2
        go_ret3
        refine ⟨?_, (HBEL.out.trans (HKP.out.bar.below (Nat.le_refl _) (by omega))).drew⟩
        rw [show O = .fault q from HO]
        rfl
    | true =>
      obtain ⟨q, hq⟩ : ∃ q, p + gn = q := ⟨_, rfl⟩
      rw [hq] at hgap HH
      have hq2 : (s.drop p).drop gn = s.drop q := by rw [List.drop_drop, hq]
      by_cases hend : q = s.length
      · have hO : O = .ok d := by
          rw [HH.out, hq2, List.drop_eq_nil_of_le (by omega)]
          simp [prepend]
        have HO := Lib.hid hO
        have hqe : ((q : Int) == ((bs s).size : Int)) = true := by rw [HSZ.out]; simp [hend]
        clear hO hend
        go_wp2_with (first | (go_at_call 19; refine hgap.mono ?_; rintro e w1 ⟨rfl, hkp, hle, ln1, hl1, hrd1⟩; obtain ⟨c0, c1, c2, c3⟩ := hrd1.cells; have HKP := Lib.hid hkp; clear hkp) | fail)
        go_ret3
        refine ⟨?_, HBEL.out.trans (HKP.out.bar.below (Nat.le_refl _) (by omega))⟩
        rw [show O = .ok d from HO]
        exact ⟨lv, rfl, HLS.out.bar HKP.out.bar HRD.out⟩
      · have hqe : ((q : Int) == ((bs s).size : Int)) = false := by rw [HSZ.out]; exact beq_eq_false_iff_ne.2 (by omega)
        go_wp2_with (first | (go_at_call 19; refine hgap.mono ?_; rintro e w1 ⟨rfl, hkp, hle, ln1, hl1, hrd1⟩; obtain ⟨c0, c1, c2, c3⟩ := hrd1.cells; have HKP := Lib.hid hkp; clear hkp) | fail)
        have hln : ln1 = gl := hl1 trivial
        subst hln
        have hqlt : q < s.length := by omega
        have hne : ¬ s.drop q = [] := by
          intro e
          have := congrArg List.length e
          rw [List.length_drop] at this
          simp at this
          omega
        have hh3 := HH.out
        rw [hq2, if_neg (by decide), if_neg hne] at hh3
        have hb1 : Below B w w1 := HBEL.out.trans (HKP.out.bar.below (Nat.le_refl _) (by omega))
        have hls1 := HLS.out.bar HKP.out.bar HRD.out
        have hfk : X.first num (s.drop q) ≠ .unknown := by
          intro e
          rw [e] at hh3
          exact HK.out hh3
        have hx := HLEX.out q hqlt ln1 d lv w1 hrd1 HKP.out.low hls1 hfk (by omega)
        unfold LexRet at hx
        have HB1 := Lib.hid hb1
        have HQ := Lib.hid hq
        have HQ2 := Lib.hid hq2
        clear hh3 hb1 hls1 hgap hq hq2 hl1
        cases hfx : X.first num (s.drop q) with
        | unknown => exact absurd hfx hfk
        | no =>
          rw [hfx] at hx
          have hO : O = .fault q := by
            rw [HH.out, HQ2.out, if_neg (by decide), if_neg hne, hfx]
            rfl
          have HO := Lib.hid hO
          clear hO hfk
          have hx : Calls Tryz.prog 20 #[.pointer (some ⟨B, 0, none⟩)] w1 fun e w' => (e = .returned (.bool false) ∧ Rdr B s q ln1 lv w') ∧ Below B w1 w' := hx
          refine hx.mono ?_
          rintro e w2 ⟨⟨rfl, hrd2⟩, hb2⟩
          clear c0 c1 c2 c3
          obtain ⟨d0, d1, d2, d3⟩ := hrd2.cells
          go_wp2
          go_region_law (fail)
          all_goals
            go_wp2
            go_ret3
            refine ⟨?_, (HB1.out.trans hb2).drew⟩
            rw [show O = .fault q from HO]
            rfl
        | yes k t v n =>
          rw [hfx] at hx
          obtain ⟨fs1, fs2⟩ := first_some (by rw [List.length_drop]; omega) hfx
          rw [List.length_drop] at fs2
          have hO : O = prepend (d ++ [⟨k, t, v, q, ln1⟩]) (X.lexF num f (s.drop (q + n)) (q + n)) := by
            rw [HH.out, HQ2.out, if_neg (by decide), if_neg hne, hfx]
            simp only [List.drop_drop]
            rw [← Nat.add_assoc, HQ.out]
            cases X.lexF num f (s.drop (q + n)) (q + n) with
            | unknown => rfl
            | fault p => rfl
            | ok r => simp [prepend]
          have HO := Lib.hid hO
          clear hO hfk hfx
          have hx : Calls Tryz.prog 20 #[.pointer (some ⟨B, 0, none⟩)] w1 fun e w' => (e = .returned (.bool true) ∧ ∃ lv', Rdr B s (q + n) ln1 lv' w' ∧ Lst B (d ++ [⟨k, t, v, q, ln1⟩]) lv' w') ∧ Below B w1 w' := hx
          refine hx.mono ?_
          rintro e w2 ⟨⟨rfl, lv2, hrd2, hls2⟩, hb2⟩
          clear c0 c1 c2 c3
          have hqp : p ≤ q := by have := HQ.out; omega
          go_wp2
          go_roundg (s.length - (q + n))
          case measure => omega
          case rel =>
            exact ⟨q + n, f, d ++ [⟨k, t, v, q, ln1⟩], ln1, lv2, by omega, hrd2, HB1.out.trans hb2, hls2, by rw [List.length_append]; simp only [List.length_cons, List.length_nil]; omega, by omega, HO⟩
end Go.Proofs.YtelphbcdjfdjpaaGreatDoor
