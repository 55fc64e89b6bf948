/- The statement LexCovers: each lexeme stands where its place is. Conditions: those that each theorem names. -/
import Derived.Test.YtelphbcdjfdjpaaGreatDoorZ27
import Derived.Deep.RegionWith
namespace Go.Proofs.YtelphbcdjfdjpaaGreatDoor
open Go.RowKit
set_option linter.all false

def namedI (k : Nat) (T : ByteArray) : Nat := if k = 3 ∨ k = 4 then 0 else T.size
theorem named_eq (x : X.Lx) : namedI x.kind (bs x.text) = named x := by unfold namedI named; rw [bs_size]
set_option maxHeartbeats 1000000 in
theorem named_any (k : Nat) (hk : k ≤ 5) (T : ByteArray) (hT : (k ≠ 3 ∧ k ≠ 4) → T.size ≤ 100000) (v : Nat) (p : Int) (ln : Bool) (w : World) :
    Calls Tryz.prog 18 #[.agg #[.int .i64 (k : Int), .string T, .float .f64 v, .int .i64 p, .bool ln]] w fun e w' => e = .returned (.int .i64 (namedI k T : Int)) ∧ Below w.heap.size w w' := by
  have hst := store_float
  unfold namedI
  match k, hk with
  | 0, _ | 1, _ | 2, _ | 3, _ | 4, _ | 5, _ =>
    try replace hT := hT (by decide)
    go_enter Tryz.func18, Tryz.ntmps18
    go_wp2
    go_ret
    exact ⟨rfl, (Below.refl _ _).alloc (Nat.le_refl _) _⟩
set_option maxHeartbeats 4000000 in
theorem law_covers_long (N : Nat) (s : List UInt8) (hs : 1000 < s.length) (hl : s.length ≤ 140737488355328) (w : World) (hw : Low N w) :
    Calls Tryz.prog 7 #[.string (bs s)] w fun e w' => e = .returned (.bool true) ∧ Below w.heap.size w w' := by
  have haw := awake_any N w hw
  have hsz := bs_size s
  have e1 : (1000 : Int) < ((bs s).size : Int) := by omega
  have e2 : (bs s).size ≤ 140737488355328 := by omega
  clear hw hsz hs hl
  generalize bs s = S at *
  go_enter Tryz.func7, Tryz.ntmps7
  go_wp2_with ((with_reducible refine haw.mono ?_); rintro e w1 ⟨rfl, hb1⟩)
  go_ret
  exact ⟨rfl, hb1⟩
set_option maxHeartbeats 4000000 in
theorem law_covers_fault (N : Nat) (s : List UInt8) (hs : s.length ≤ 1000) (p : Nat) (hp : X.lex numAll s = .fault p) (w : World) (hw : Low N w) :
    Calls Tryz.prog 7 #[.string (bs s)] w fun e w' => e = .returned (.bool true) ∧ Below w.heap.size w w' := by
  have haw := awake_any N w hw
  have hsz := bs_size s
  have hA : ∀ W, Low N W → Calls Tryz.prog 10 #[.string (bs s)] W fun e w' => e = .returned (.tuple #[.slice none 0 0, .int .i64 (p : Int), .int .i64 50]) ∧ Below W.heap.size W w' := by
    intro W hW
    have := lex_all N s (by omega) W hW
    rw [hp] at this
    exact this
  have HW := Lib.hid hw
  have e1 : ¬ (1000 : Int) < ((bs s).size : Int) := by omega
  have e2 : (bs s).size ≤ 1000 := by omega
  have HA := Lib.hid hA
  clear hw hsz hs hA hp
  generalize bs s = S at *
  go_enter Tryz.func7, Tryz.ntmps7
  go_wp2_with (first
    | ((with_reducible refine haw.mono ?_); rintro e w1 ⟨rfl, hb1⟩; have HB1 := Lib.hid hb1; have HL1 := Lib.hid (HW.out.bel hb1); clear hb1)
    | ((with_reducible refine (HA.out _ HL1.out).mono ?_); rintro e w2 ⟨rfl, hb2⟩; have HB2 := Lib.hid (HB1.out.trans (hb2.mono HB1.out.size)); clear hb2)
    | fail)
  go_ret
  exact ⟨rfl, HB2.out⟩
theorem stands_at (s : List UInt8) : ∀ (r : List X.Lx) (p : Nat), Stands s p r → ∀ (i : Nat) (x : X.Lx), r[i]? = some x → p ≤ x.place ∧ x.place < s.length ∧ (1 ≤ x.kind ∧ x.kind ≤ 5) ∧ (x.kind ≠ 3 ∧ x.kind ≠ 4 → x.place + x.text.length ≤ s.length ∧ (s.drop x.place).take x.text.length = x.text) ∧ ∀ (j : Nat) (y : X.Lx), i = j + 1 → r[j]? = some y → y.place + max 1 (named y) ≤ x.place
  | [], p, H, i, x, h => by simp at h
  | z :: r, p, H, 0, x, h => by
    simp only [List.getElem?_cons_zero, Option.some.injEq] at h
    subst h
    exact ⟨H.1, H.2.1, H.2.2.1, H.2.2.2.1, fun j y e => by omega⟩
  | z :: r, p, H, i + 1, x, h => by
    have ih := stands_at s r _ H.2.2.2.2 i x (by simpa using h)
    refine ⟨by have := H.1; omega, ih.2.1, ih.2.2.1, ih.2.2.2.1, fun j y e hy => ?_⟩
    obtain rfl : i = j := by omega
    cases i with
    | zero =>
      simp only [List.getElem?_cons_zero, Option.some.injEq] at hy
      subst hy
      exact ih.1
    | succ i => exact ih.2.2.2.2 i y rfl (by simpa using hy)
/-- What slot last holds ahead of round k. -/
def lastI (L : List X.Lx) : Nat → Int
  | 0 => -1
  | k + 1 => match L[k]? with
    | some x => (x.place : Int)
    | none => 0
theorem lastI_zero (L : List X.Lx) : lastI L 0 = -1 := rfl
theorem lastI_succ {L : List X.Lx} {k : Nat} {x : X.Lx} (h : L[k]? = some x) : lastI L (k + 1) = (x.place : Int) := by
  simp only [lastI, h]
def YS (g j b : Nat) (y x : X.Lx) (w2 X : World) : Prop :=
  X.cell? ⟨b, 0, none⟩ = some (.int .i64 (x.kind : Int)) ∧ X.cell? ⟨b, 1, none⟩ = some (.string (bs x.text)) ∧ X.cell? ⟨b, 2, none⟩ = some (.float .f64 x.num) ∧ X.cell? ⟨b, 3, none⟩ = some (.int .i64 (x.place : Int)) ∧ X.cell? ⟨b, 4, none⟩ = some (.bool x.line) ∧
  X.cell? ⟨g, j * 5, none⟩ = some (.int .i64 (y.kind : Int)) ∧ X.cell? ⟨g, j * 5 + 1, none⟩ = some (.string (bs y.text)) ∧ X.cell? ⟨g, j * 5 + 2, none⟩ = some (.float .f64 y.num) ∧ X.cell? ⟨g, j * 5 + 3, none⟩ = some (.int .i64 (y.place : Int)) ∧ X.cell? ⟨g, j * 5 + 4, none⟩ = some (.bool y.line) ∧
  b < X.heap.size ∧ w2.heap.size ≤ b ∧ Below w2.heap.size w2 X
theorem YS.next {g j b : Nat} {y x : X.Lx} {w2 X Y : World} (H : ∀ w', Below w2.heap.size w2 w' → LxAt g j y w') (h : YS g j b y x w2 X) (k : Below X.heap.size X Y) : YS g j b y x w2 Y := by
  obtain ⟨a0, a1, a2, a3, a4, b0, b1, b2, b3, b4, c1, c2, c3⟩ := h
  have hb : Below w2.heap.size w2 Y := c3.trans (k.mono (by omega))
  obtain ⟨d0, d1, d2, d3, d4⟩ := H Y hb
  have hz := k.size
  refine ⟨?_, ?_, ?_, ?_, ?_, d0, d1, d2, d3, d4, by omega, c2, hb⟩
  · rw [k.cell (p := ⟨b, 0, none⟩) c1]; exact a0
  · rw [k.cell (p := ⟨b, 1, none⟩) c1]; exact a1
  · rw [k.cell (p := ⟨b, 2, none⟩) c1]; exact a2
  · rw [k.cell (p := ⟨b, 3, none⟩) c1]; exact a3
  · rw [k.cell (p := ⟨b, 4, none⟩) c1]; exact a4
theorem named_cases (x : X.Lx) : named x = 0 ∨ (x.kind ≠ 3 ∧ x.kind ≠ 4 ∧ named x = x.text.length) := by
  unfold named
  by_cases h : x.kind = 3 ∨ x.kind = 4
  · exact Or.inl (if_pos h)
  · exact Or.inr ⟨fun e => h (Or.inl e), fun e => h (Or.inr e), if_neg h⟩
set_option maxHeartbeats 8000000 in
set_option maxRecDepth 100000 in
theorem law_covers_ok (N : Nat) (s : List UInt8) (hs : s.length ≤ 1000) (L : List X.Lx) (hp : X.lex numAll s = .ok L) (w : World) (hw : Low N w) :
    Calls Tryz.prog 7 #[.string (bs s)] w fun e w' => e = .returned (.bool true) ∧ Below w.heap.size w w' := by
  have haw := awake_any N w hw
  have hsz := bs_size s
  have hst := lexF_stands numAll s _ 0 L (show X.lexF numAll (s.length + 1) (s.drop 0) 0 = .ok L from hp)
  have hA : ∀ W, Low N W → Calls Tryz.prog 10 #[.string (bs s)] W fun e w' => (∃ p cap, e = .returned (.tuple #[.slice p L.length cap, .int .i64 0, .int .i64 0]) ∧ (L ≠ [] → ∃ g, p = some ⟨g, 0, none⟩ ∧ ∀ w2, Below w'.heap.size w' w2 → ∀ i x, L[i]? = some x → LxAt g i x w2)) ∧ Below W.heap.size W w' := by
    intro W hW
    have := lex_all N s (by omega) W hW
    rw [hp] at this
    refine this.mono ?_
    rintro e w' ⟨⟨lv, rfl, hls⟩, hb⟩
    obtain ⟨h1, p, cap, rfl, h2⟩ := hls.form
    exact ⟨⟨p, cap, rfl, h2⟩, hb⟩
  have hpl := stands_at s L 0 hst
  have hLn := stands_len s L 0 hst
  have HW := Lib.hid hw
  have HPL := Lib.hid hpl
  have HSZ := Lib.hid hsz
  have e1 : ¬ (1000 : Int) < ((bs s).size : Int) := by omega
  have e2 : (bs s).size ≤ 1000 := by omega
  have HA := Lib.hid hA
  have HS := Lib.hid hs
  have hstore := store_float
  obtain ⟨S, hS⟩ : ∃ S, S = bs s := ⟨_, rfl⟩
  have HSS := Lib.hid hS
  rw [← hS] at e1 e2 HSZ HA ⊢
  clear hw hsz hs hA hp hst hpl hS
  go_enter Tryz.func7, Tryz.ntmps7
  go_wp2_with (first
    | ((with_reducible refine haw.mono ?_); rintro e w1 ⟨rfl, hb1⟩; have HB1 := Lib.hid hb1; have HL1 := Lib.hid (HW.out.bel hb1); clear hb1)
    | ((with_reducible refine (HA.out _ HL1.out).mono ?_); rintro e w2 ⟨⟨p1, cap1, rfl, hc1⟩, hb2⟩; have HC1 := Lib.hid hc1; have HB2 := Lib.hid (HB1.out.trans (hb2.mono HB1.out.size)); clear hb2 hc1)
    | fail)
  obtain ⟨n, hn⟩ : ∃ n, n = L.length := ⟨_, rfl⟩
  rw [← hn]
  have HN := Lib.hid hn
  have hnm : n ≤ 1000 := by have := HS.out; omega
  clear hn hLn
  go_loopg [6, 7, 8, 9, 32] n (fun g v6 v7 v8 v9 v32 wr => ∃ k : Nat, k + g = n ∧ v32 = .int .i64 k ∧ v6 = .int .i64 (lastI L k) ∧ Below w2.heap.size w2 wr)
  case atStart => exact ⟨0, by omega, rfl, rfl, Below.refl _ _⟩
  case round =>
    obtain ⟨k, hk, rfl, rfl, hbr⟩ := hrel
    have HBR := Lib.hid hbr
    by_cases hkn : k < n
    · have hne : L ≠ [] := by
        rintro rfl
        have := HN.out
        simp at this
        omega
      obtain ⟨x, hx⟩ : ∃ x, L[k]? = some x := ⟨L[k]'(by rw [← HN.out]; exact hkn), List.getElem?_eq_getElem _⟩
      obtain ⟨g1, rfl, hx1⟩ := HC1.out hne
      obtain ⟨a0, a1, a2, a3, a4⟩ := hx1 wr hbr k x hx
      obtain ⟨f1, f2, f3, f4, f5⟩ := HPL.out k x hx
      have hnx := named_any x.kind f3.2 (bs x.text) (fun h => by have := (f4 h).1; have := HS.out; rw [bs_size]; omega) x.num (x.place : Int) x.line
      rw [named_eq] at hnx
      have hls : lastI L k < (x.place : Int) ∧ (∀ (j : Nat) (y : X.Lx), k = j + 1 → L[j]? = some y → lastI L k = (y.place : Int) ∧ y.place + max 1 (named y) ≤ x.place) := by
        cases k with
        | zero => exact ⟨by rw [lastI_zero]; omega, fun j y e => by omega⟩
        | succ k =>
          have hk2 : k < L.length := by have := HN.out; omega
          obtain ⟨y, hy⟩ : ∃ y, L[k]? = some y := ⟨L[k], List.getElem?_eq_getElem _⟩
          have e := f5 k y rfl hy
          have hl : lastI L (k + 1) = (y.place : Int) := lastI_succ hy
          refine ⟨by rw [hl]; omega, fun j y' ej hy' => ?_⟩
          obtain rfl : k = j := by omega
          rw [hy] at hy'
          cases hy'
          exact ⟨hl, e⟩
      obtain ⟨hl1, hl2⟩ := hls
      obtain ⟨la, hla⟩ : ∃ la, la = lastI L k := ⟨_, rfl⟩
      rw [← hla] at hl1 hl2 ⊢
      have HL2 := Lib.hid hl2
      have HX1 := Lib.hid hx1
      have HX := Lib.hid hx
      have HF4 := Lib.hid f4
      have HZ := Lib.hid (named_cases x)
      clear hl2 hx1 hx f4 f5 hla
      have n1 : ¬ ((x.place : Int) ≤ la) := by omega
      have n2 : ¬ ((S.size : Int) ≤ (x.place : Int)) := by rw [HSZ.out]; omega
      have nd1 : decide ((x.place : Int) ≤ la) = false := decide_eq_false n1
      have nd2 : decide (S.size ≤ x.place) = false := decide_eq_false (by omega)
      go_wp2
      have HYS : ∀ j y, L[j]? = some y → Hid (YS g1 j wr.heap.size y x w2 (wr.alloc (Obj.cells #[Value.int IntKind.i64 ↑x.kind, Value.string (bs x.text), Value.float FloatKind.f64 x.num, Value.int IntKind.i64 ↑x.place, Value.bool x.line] 32))) := by
        intro j y hy
        have hb : Below w2.heap.size w2 (wr.alloc (Obj.cells #[Value.int IntKind.i64 ↑x.kind, Value.string (bs x.text), Value.float FloatKind.f64 x.num, Value.int IntKind.i64 ↑x.place, Value.bool x.line] 32)) := HBR.out.alloc HBR.out.size _
        obtain ⟨d0, d1, d2, d3, d4⟩ := HX1.out _ hb j y hy
        refine Lib.hid ⟨?_, ?_, ?_, ?_, ?_, d0, d1, d2, d3, d4, ?_, HBR.out.size, hb⟩
        · rw [World.cell?_alloc_mark]; rfl
        · rw [World.cell?_alloc_mark]; rfl
        · rw [World.cell?_alloc_mark]; rfl
        · rw [World.cell?_alloc_mark]; rfl
        · rw [World.cell?_alloc_mark]; rfl
        · exact Array.size_push _ ▸ Nat.lt_succ_self _
      generalize (wr.alloc (Obj.cells #[Value.int IntKind.i64 ↑x.kind, Value.string (bs x.text), Value.float FloatKind.f64 x.num, Value.int IntKind.i64 ↑x.place, Value.bool x.line] 32)) = W0 at *
      clear a0 a1 a2 a3 a4 hbr
      generalize wr.heap.size = b at *
      by_cases hk0 : k = 0
      · have n3 : ¬ ((0 : Int) < (k : Int)) := by omega
        have nd3 : decide (0 < k) = false := decide_eq_false (by omega)
        have HK0 := Lib.hid hk0
        clear hk0
        have hs0 := HYS k x HX.out
        obtain ⟨a0, a1, a2, a3, a4, -⟩ := hs0.out
        go_quiet (fail)
        have hT := YS.next (fun w' hb => HX1.out w' hb k x HX.out) hs0.out (bel_drewN W0 nq)
        generalize W0.drewN nq = W1 at *
        clear a0 a1 a2 a3 a4
        obtain ⟨a0, a1, a2, a3, a4, -, -, -, -, -, c1, c2, c3⟩ := hT
        have HC3 := Lib.hid c3
        clear hs0 HYS n1 n2 n3 nd1 nd2 nd3 c3
        go_wp2_with (first
          | (go_at_call 18; refine (hnx _).mono ?_; rintro e w3 ⟨rfl, hb3⟩; have d1 := (hb3.cell (p := ⟨b, 1, none⟩) c1).trans a1; have d3 := (hb3.cell (p := ⟨b, 3, none⟩) c1).trans a3; have HB3 := Lib.hid (HC3.out.trans (hb3.mono HC3.out.size)); clear hb3 a0 a1 a2 a3 a4)
          | fail)
        have hz := HZ.out
        have hcut : named x ≠ 0 → x.place + named x ≤ S.size ∧ S.extract x.place (x.place + named x) = bs x.text := by
          intro h0
          obtain ⟨z1, z2, z3⟩ := hz.resolve_left h0
          obtain ⟨z4, z5⟩ := HF4.out ⟨z1, z2⟩
          refine ⟨by rw [z3, HSZ.out]; exact z4, ?_⟩
          rw [HSS.out, bs_extract, z3, show x.place + x.text.length - x.place = x.text.length by omega, z5]
        have HCUT := Lib.hid hcut
        clear hz hcut hnx
        obtain ⟨m, hm⟩ : ∃ m, m = named x := ⟨_, rfl⟩
        rw [← hm] at HCUT ⊢
        have hplb : x.place ≤ 1000 := by have := HS.out; omega
        obtain ⟨pl, hpl⟩ : ∃ pl, pl = x.place := ⟨_, rfl⟩
        rw [← hpl] at HCUT hplb d3 ⊢
        obtain ⟨T, hT⟩ : ∃ T, T = bs x.text := ⟨_, rfl⟩
        rw [← hT] at HCUT d1 ⊢
        have HPL2 := Lib.hid hpl
        clear hm hpl hT f1 f2
        have k1 : (k : Int) < (n : Int) := by omega
        have k2 : IntKind.i64.wrap ((k : Int) + 1) = (k : Int) + 1 := IntWalk.i64_in _ (by omega)
        by_cases hm0 : m = 0
        · have g0 : decide (0 < m) = false := decide_eq_false (by omega)
          clear hm0
          go_quiet (fail)
          go_wp2
          have hbn := HB3.out.trans ((bel_drewN w3 nq).mono HB3.out.size)
          go_roundg (n - (k + 1))
          case measure => omega
          case rel => exact ⟨k + 1, by omega, by go_num, by rw [lastI_succ HX.out, HPL2.out], hbn⟩
        · have g0 : decide (0 < m) = true := decide_eq_true (by omega)
          obtain ⟨g5, g4⟩ := HCUT.out hm0
          obtain ⟨hi, hhi⟩ : ∃ hi, hi = pl + m := ⟨_, rfl⟩
          rw [← hhi] at g4 g5
          have g1 : (pl : Int) + (m : Int) = (hi : Int) := by omega
          have g1w : IntKind.i64.wrap (hi : Int) = (hi : Int) := IntWalk.i64_in _ (by omega)
          have g2 : decide (S.size < hi) = false := decide_eq_false (by omega)
          have g3 : pl ≤ hi := by omega
          clear hhi hm0
          go_quiet (fail)
          go_wp2
          have hbn := HB3.out.trans ((bel_drewN w3 nq).mono HB3.out.size)
          go_roundg (n - (k + 1))
          case measure => omega
          case rel => exact ⟨k + 1, by omega, by go_num, by rw [lastI_succ HX.out, HPL2.out], hbn⟩
      · obtain ⟨j, hj⟩ : ∃ j, k = j + 1 := ⟨k - 1, by omega⟩
        have n3 : (0 : Int) < (k : Int) := by omega
        have nd3 : decide (0 < k) = true := decide_eq_true (by omega)
        obtain ⟨y, hy⟩ : ∃ y, L[j]? = some y := ⟨L[j]'(by have := HN.out; omega), List.getElem?_eq_getElem _⟩
        have hs0 := (HYS j y hy).out
        have hny := named_any y.kind (by have := (HPL.out j y hy); omega) (bs y.text) (fun h => by have := ((HPL.out j y hy).2.2.2.1 h).1; have := HS.out; rw [bs_size]; omega) y.num (y.place : Int) y.line
        rw [named_eq] at hny
        have n4 : IntKind.i64.wrap ((k : Int) - 1) = (j : Int) := by rw [IntWalk.i64_in _ (by omega)]; omega
        have HH : ∀ w', Below w2.heap.size w2 w' → LxAt g1 j y w' := fun w' hb => HX1.out w' hb j y hy
        have hnj : (j : Int) < (n : Int) := by omega
        obtain ⟨f6, f7⟩ := HL2.out j y hj hy
        have n5 : IntKind.i64.wrap (la + max 1 (named y : Int)) = la + max 1 (named y : Int) := IntWalk.i64_in _ (by have := HS.out; omega)
        have n6 : ¬ ((x.place : Int) < la + max 1 (named y : Int)) := by omega
        have nd6 : decide ((x.place : Int) < la + max 1 (named y : Int)) = false := decide_eq_false n6
        have HF6 := Lib.hid f6
        have HJ := Lib.hid hj
        clear f6 hj
        go_region_held3 (fun X => X.cell? ⟨b, 0, none⟩ = some (.int .i64 (x.kind : Int)) ∧ X.cell? ⟨b, 1, none⟩ = some (.string (bs x.text)) ∧ X.cell? ⟨b, 2, none⟩ = some (.float .f64 x.num) ∧ X.cell? ⟨b, 3, none⟩ = some (.int .i64 (x.place : Int)) ∧ X.cell? ⟨b, 4, none⟩ = some (.bool x.line) ∧
            X.cell? ⟨g1, j * 5, none⟩ = some (.int .i64 (y.kind : Int)) ∧ X.cell? ⟨g1, j * 5 + 1, none⟩ = some (.string (bs y.text)) ∧ X.cell? ⟨g1, j * 5 + 2, none⟩ = some (.float .f64 y.num) ∧ X.cell? ⟨g1, j * 5 + 3, none⟩ = some (.int .i64 (y.place : Int)) ∧ X.cell? ⟨g1, j * 5 + 4, none⟩ = some (.bool y.line) ∧
            b < X.heap.size ∧ w2.heap.size ≤ b ∧ Below w2.heap.size w2 X)
          (first | assumption | (exact YS.next HH (by assumption) (by assumption)) | (exact YS.next HH (by assumption) (bel_drewN _ 1)) | (exact YS.next HH (Y := World.drew _) (by assumption) ((Below.refl _ _).drew)))
          (first | (go_at_call 18; (with_reducible refine (hny _).mono ?_); rintro e w' ⟨rfl, hb⟩))
        rename_i W1 hb hT
        clear hb hny HH n4 n5 n6 nd6 f7 HF6
        obtain ⟨a0, a1, a2, a3, a4, -, -, -, -, -, c1, c2, c3⟩ := hT
        have HC3 := Lib.hid c3
        clear hs0 HYS n1 n2 n3 nd1 nd2 nd3 c3
        go_wp2_with (first
          | (go_at_call 18; refine (hnx _).mono ?_; rintro e w3 ⟨rfl, hb3⟩; have d1 := (hb3.cell (p := ⟨b, 1, none⟩) c1).trans a1; have d3 := (hb3.cell (p := ⟨b, 3, none⟩) c1).trans a3; have HB3 := Lib.hid (HC3.out.trans (hb3.mono HC3.out.size)); clear hb3 a0 a1 a2 a3 a4)
          | fail)
        have hz := HZ.out
        have hcut : named x ≠ 0 → x.place + named x ≤ S.size ∧ S.extract x.place (x.place + named x) = bs x.text := by
          intro h0
          obtain ⟨z1, z2, z3⟩ := hz.resolve_left h0
          obtain ⟨z4, z5⟩ := HF4.out ⟨z1, z2⟩
          refine ⟨by rw [z3, HSZ.out]; exact z4, ?_⟩
          rw [HSS.out, bs_extract, z3, show x.place + x.text.length - x.place = x.text.length by omega, z5]
        have HCUT := Lib.hid hcut
        clear hz hcut hnx
        obtain ⟨m, hm⟩ : ∃ m, m = named x := ⟨_, rfl⟩
        rw [← hm] at HCUT ⊢
        have hplb : x.place ≤ 1000 := by have := HS.out; omega
        obtain ⟨pl, hpl⟩ : ∃ pl, pl = x.place := ⟨_, rfl⟩
        rw [← hpl] at HCUT hplb d3 ⊢
        obtain ⟨T, hT⟩ : ∃ T, T = bs x.text := ⟨_, rfl⟩
        rw [← hT] at HCUT d1 ⊢
        have HPL2 := Lib.hid hpl
        clear hm hpl hT f1 f2
        have k1 : (k : Int) < (n : Int) := by omega
        have k2 : IntKind.i64.wrap ((k : Int) + 1) = (k : Int) + 1 := IntWalk.i64_in _ (by omega)
        by_cases hm0 : m = 0
        · have g0 : decide (0 < m) = false := decide_eq_false (by omega)
          clear hm0
          go_quiet (fail)
          go_wp2
          have hbn := HB3.out.trans ((bel_drewN w3 nq).mono HB3.out.size)
          go_roundg (n - (k + 1))
          case measure => omega
          case rel => exact ⟨k + 1, by omega, by go_num, by rw [lastI_succ HX.out, HPL2.out], hbn⟩
        · have g0 : decide (0 < m) = true := decide_eq_true (by omega)
          obtain ⟨g5, g4⟩ := HCUT.out hm0
          obtain ⟨hi, hhi⟩ : ∃ hi, hi = pl + m := ⟨_, rfl⟩
          rw [← hhi] at g4 g5
          have g1 : (pl : Int) + (m : Int) = (hi : Int) := by omega
          have g1w : IntKind.i64.wrap (hi : Int) = (hi : Int) := IntWalk.i64_in _ (by omega)
          have g2 : decide (S.size < hi) = false := decide_eq_false (by omega)
          have g3 : pl ≤ hi := by omega
          clear hhi hm0
          go_quiet (fail)
          go_wp2
          have hbn := HB3.out.trans ((bel_drewN w3 nq).mono HB3.out.size)
          go_roundg (n - (k + 1))
          case measure => omega
          case rel => exact ⟨k + 1, by omega, by go_num, by rw [lastI_succ HX.out, HPL2.out], hbn⟩
    · have hkk : ¬ (k : Int) < (n : Int) := by omega
      go_wp2
      go_ret
      exact ⟨rfl, HB2.out.trans (HBR.out.mono HB2.out.size)⟩
theorem law_covers (N : Nat) (s : List UInt8) (hl : s.length ≤ 140737488355328) (w : World) (hw : Low N w) :
    Calls Tryz.prog 7 #[.string (bs s)] w fun e w' => e = .returned (.bool true) ∧ Below w.heap.size w w' := by
  by_cases h : s.length ≤ 1000
  · cases hO : X.lex numAll s with
    | unknown => exact absurd hO (lexF_known numAll_total _ _ _ (by omega))
    | fault p => exact law_covers_fault N s h p hO w hw
    | ok L => exact law_covers_ok N s h L hO w hw
  · exact law_covers_long N s (by omega) hl w hw
end Go.Proofs.YtelphbcdjfdjpaaGreatDoor
