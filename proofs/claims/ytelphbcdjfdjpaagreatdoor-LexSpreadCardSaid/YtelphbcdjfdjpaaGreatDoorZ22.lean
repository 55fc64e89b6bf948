/- esnum's reader of decimals. Conditions: those that each theorem names. esnum's reader of decimals ends with one answer. Conditions: those that each theorem names. -/
import Derived.Test.YtelphbcdjfdjpaaGreatDoorZ21
namespace Go.Proofs.YtelphbcdjfdjpaaGreatDoor
open Go.RowKit
set_option linter.all false

/-- What the library's variables hold that a number's reading looks at. -/
structure NumEnv (N : Nat) (w : World) : Prop where
  env : Env N w
  it : ItTab N w
  er : 7 < N ∧ ∃ te pe, w.cell? ⟨7, 0, none⟩ = some (.iface te pe)
theorem NumEnv.keep {N B : Nat} {w w' : World} (h : NumEnv N w) (k : Below B w w') (hN : N ≤ B) : NumEnv N w' :=
  ⟨h.env.keep k hN, h.it.keep k hN, h.er.1, by
    obtain ⟨h1, te, pe, h2⟩ := h.er
    exact ⟨te, pe, by rw [below_cell k (by omega)]; exact h2⟩⟩
theorem PF.DsOk.nil : PF.DsOk [] := ⟨fun x hx => (by cases hx), by decide, by simp⟩
theorem PF.DsOk.take {ds : List UInt8} {m : Bool} {d : UInt8} (h : PF.DsOk ds) (hd : PF.Dg d.toNat) : PF.DsOk (takeD d ds m).1 := by
  unfold takeD
  split
  · exact h
  · rename_i h1
    split
    · rename_i h2
      refine ⟨fun x hx => ?_, ?_, ?_⟩
      · rcases List.mem_append.1 hx with hx | hx
        · exact h.dg x hx
        · simp only [List.mem_singleton] at hx
          subst hx; exact hd
      · cases ds with
        | nil =>
          intro h3
          exact h1 ⟨rfl, UInt8.toNat_inj.1 h3⟩
        | cons a l => exact h.first
      · show (ds ++ [d]).length ≤ 768
        rw [List.length_append]
        show ds.length + 1 ≤ 768
        omega
    · exact h
theorem takeD_len {d : UInt8} {ds : List UInt8} {m : Bool} : (takeD d ds m).1.length ≤ ds.length + 1 := by
  unfold takeD
  split
  · show ds.length ≤ _; omega
  · split
    · show (ds ++ [d]).length ≤ _; rw [List.length_append]; show ds.length + 1 ≤ _; omega
    · show ds.length ≤ _; omega
theorem dig_of {u : Int} (h : 48 ≤ u ∧ u ≤ 57) : PF.Dg (UInt8.ofNat u.toNat).toNat := by
  rw [UInt8.toNat_ofNat']
  constructor <;> omega
structure FrBd (to i : Nat) (R : Nat × List UInt8 × Bool × Int) : Prop where
  lo : i ≤ R.1
  hi : R.1 ≤ to + 1
  len : R.2.1.length ≤ R.1
  ok : PF.DsOk R.2.1
theorem frontF_bd (s : Nat → Int) (to : Nat) (hs : ∀ l, 48 ≤ s l → l < to) : ∀ (f i : Nat) (ds : List UInt8) (m : Bool) (p : Int), i ≤ to + 1 → ds.length ≤ i → 0 ≤ p → p ≤ i → PF.DsOk ds → FrBd to i (frontF s f i ds m p) ∧ 0 ≤ (frontF s f i ds m p).2.2.2 ∧ (frontF s f i ds m p).2.2.2 ≤ ((frontF s f i ds m p).1 : Int)
  | 0, i, ds, m, p, h1, h2, h3, h4, h5 => ⟨⟨Nat.le_refl _, h1, h2, h5⟩, h3, h4⟩
  | f + 1, i, ds, m, p, h1, h2, h3, h4, h5 => by
    unfold frontF
    split
    · rename_i hd
      have hlt := hs i hd.1
      have hl := @takeD_len (UInt8.ofNat (s i).toNat) ds m
      obtain ⟨⟨a1, a2, a3, a4⟩, a5, a6⟩ := frontF_bd s to hs f (i + 1) (takeD (UInt8.ofNat (s i).toNat) ds m).1 (takeD (UInt8.ofNat (s i).toNat) ds m).2 (if 0 < (takeD (UInt8.ofNat (s i).toNat) ds m).1.length then p + 1 else p) (by omega) (by omega) (by split <;> omega) (by split <;> omega) (h5.take (dig_of hd))
      exact ⟨⟨by omega, a2, a3, a4⟩, a5, a6⟩
    · exact ⟨⟨Nat.le_refl _, h1, h2, h5⟩, h3, h4⟩
theorem backF_bd (s : Nat → Int) (to : Nat) (hs : ∀ l, 48 ≤ s l → l < to) : ∀ (f i : Nat) (ds : List UInt8) (m : Bool) (p : Int), i ≤ to + 1 → ds.length ≤ i → -2000000 ≤ p + i → p ≤ 2000000 → PF.DsOk ds → FrBd to i (backF s f i ds m p) ∧ -2000000 ≤ (backF s f i ds m p).2.2.2 + ((backF s f i ds m p).1 : Int) ∧ (backF s f i ds m p).2.2.2 ≤ 2000000
  | 0, i, ds, m, p, h1, h2, h3, h4, h5 => ⟨⟨Nat.le_refl _, h1, h2, h5⟩, h3, h4⟩
  | f + 1, i, ds, m, p, h1, h2, h3, h4, h5 => by
    unfold backF
    split
    · rename_i hd
      have hlt := hs i hd.1
      have hl := @takeD_len (UInt8.ofNat (s i).toNat) ds m
      obtain ⟨⟨a1, a2, a3, a4⟩, a5, a6⟩ := backF_bd s to hs f (i + 1) (takeD (UInt8.ofNat (s i).toNat) ds m).1 (takeD (UInt8.ofNat (s i).toNat) ds m).2 (if (takeD (UInt8.ofNat (s i).toNat) ds m).1.length = 0 then p - 1 else p) (by omega) (by omega) (by split <;> omega) (by split <;> omega) (h5.take (dig_of hd))
      exact ⟨⟨by omega, a2, a3, a4⟩, a5, a6⟩
    · exact ⟨⟨Nat.le_refl _, h1, h2, h5⟩, h3, h4⟩
theorem powF_end (s : Nat → Int) (to : Nat) (hs : ∀ l, 48 ≤ s l → l < to) : ∀ f l p, l ≤ to + 3 → (powF s f l p).2 ≤ to + 3
  | 0, l, p, h => h
  | f + 1, l, p, h => by
    unfold powF
    split
    · rename_i hd
      have := hs l hd.1
      exact powF_end s to hs f _ _ (by omega)
    · exact h
theorem powerOf_end (s : Nat → Int) (to : Nat) (hs : ∀ l, 48 ≤ s l → l < to) (f i : Nat) (hi : i ≤ to + 1) : (powerOf s f i).2.1 ≤ to + 3 := by
  unfold powerOf
  split
  · refine powF_end s to hs f _ _ ?_
    unfold signOf
    split
    · show i + 1 + 1 ≤ _; omega
    · split
      · show i + 1 + 1 ≤ _; omega
      · show i + 1 ≤ _; omega
  · show i ≤ _; omega
theorem seen_lt (S : ByteArray) (fr to : Nat) (l : Nat) (h : 0 ≤ seenAt S fr to l) : l < to := by
  unfold seenAt at h
  split at h
  · omega
  · omega
theorem frac_new (w : World) : Frac w.heap.size w.heap.size [] false 0 (w.alloc (.cells #[.slice none 0 0, .bool false, .int .i64 0] 133)) := by
  refine ⟨Nat.le_refl _, .slice none 0 0, heap_new w _, ⟨rfl, .inl ⟨rfl, rfl⟩⟩, by intro h; cases h⟩
end Go.Proofs.YtelphbcdjfdjpaaGreatDoor
namespace Go.Proofs.YtelphbcdjfdjpaaGreatDoor
open Go.RowKit
set_option linter.all false

set_option maxHeartbeats 16000000 in
theorem decimal_any (S : ByteArray) (hS : S.size ≤ 140737488355328) (fr to i : Nat) (ht : 2 * to ≤ S.size) (hft : fr ≤ to) (hto : to ≤ 900000) (hi : i ≤ to) : ∃ (v : Nat) (ok : Bool), ∀ (N a b c : Nat) (w : World), LookS S fr to a b c w → a < w.heap.size → b < w.heap.size → c < w.heap.size → NumEnv N w → N ≤ w.heap.size →
    Calls Tryz.prog 118 #[.func (.func 98) #[] #[.pointer (some ⟨a, 0, none⟩), .pointer (some ⟨b, 0, none⟩), .pointer (some ⟨c, 0, none⟩)], .int .i64 (i : Int)] w fun e w' => e = .returned (.tuple #[.float .f64 v, .bool ok]) ∧ Below w.heap.size w w' := by
  have hs : ∀ l, 48 ≤ seenAt S fr to l → l < to := fun l h => seen_lt S fr to l (by omega)
  obtain ⟨⟨b1, ds, m, p⟩, hR1⟩ : ∃ R, frontF (seenAt S fr to) (to + 1) i [] false 0 = R := ⟨_, rfl⟩
  have hB1 := frontF_bd (seenAt S fr to) to hs (to + 1) i [] false 0 (by omega) (by simp) (by omega) (by omega) PF.DsOk.nil
  rw [hR1] at hB1
  obtain ⟨⟨f1, f2, f3, f4⟩, f5, f6⟩ := hB1
  dsimp only at f1 f2 f3 f4 f5 f6
  obtain ⟨u1, hu1⟩ : ∃ u1, seenAt S fr to b1 = u1 := ⟨_, rfl⟩
  by_cases hdot : u1 = 46
  · have hb1t : b1 < to := seen_lt S fr to b1 (by rw [hu1]; omega)
    obtain ⟨⟨b2, ds2, m2, p2⟩, hR2⟩ : ∃ R, backF (seenAt S fr to) (to + 1) (b1 + 1) ds m p = R := ⟨_, rfl⟩
    have hB2 := backF_bd (seenAt S fr to) to hs (to + 1) (b1 + 1) ds m p (by omega) (by omega) (by omega) (by omega) f4
    rw [hR2] at hB2
    obtain ⟨⟨g1, g2, g3, g4⟩, g5, g6⟩ := hB2
    dsimp only at g1 g2 g3 g4 g5 g6
    obtain ⟨⟨pw, la, ok⟩, hR3⟩ : ∃ R, powerOf (seenAt S fr to) (to + 1) b2 = R := ⟨_, rfl⟩
    have hB3 := powerOf_bd (seenAt S fr to) (to + 1) b2
    have hE3 := powerOf_end (seenAt S fr to) to hs (to + 1) b2 (by omega)
    rw [hR3] at hB3 hE3
    dsimp only at hB3 hE3
    obtain ⟨v, hv⟩ := nearest_any ds2 m2 (p2 + pw) g4 (by omega)
    refine ⟨if (b1 - i) + (b2 - (b1 + 1)) = 0 ∨ ok = false ∨ seenAt S fr to la ≠ -1 then 0 else v, !(decide ((b1 - i) + (b2 - (b1 + 1)) = 0 ∨ ok = false ∨ seenAt S fr to la ≠ -1)), fun N a b c w hL ha hb hc hE hN => ?_⟩
    have hfr : ∀ W, LookS S fr to a b c W → Frac w.heap.size w.heap.size [] false 0 W → w.heap.size ≤ W.heap.size → Calls Tryz.prog 124 #[.pointer (some ⟨w.heap.size, 0, none⟩), .func (.func 98) #[] #[.pointer (some ⟨a, 0, none⟩), .pointer (some ⟨b, 0, none⟩), .pointer (some ⟨c, 0, none⟩)], .int .i64 (i : Int)] W fun e w' => e = .returned (.int .i64 (b1 : Int)) ∧ Frac w.heap.size w.heap.size ds m p w' ∧ Below w.heap.size W w' := fun W h1 h2 h3 => by
      have := front_any S hS fr to a b c w.heap.size w.heap.size (to + 1) i ht hft (by omega) ha hb hc [] false 0 W h1 h2 h3 hi (by simp) (by omega) (by omega) (by omega)
      rw [hR1] at this
      exact this
    have hbk : ∀ W, LookS S fr to a b c W → Frac w.heap.size w.heap.size ds m p W → w.heap.size ≤ W.heap.size → Calls Tryz.prog 125 #[.pointer (some ⟨w.heap.size, 0, none⟩), .func (.func 98) #[] #[.pointer (some ⟨a, 0, none⟩), .pointer (some ⟨b, 0, none⟩), .pointer (some ⟨c, 0, none⟩)], .int .i64 ((b1 : Int) + 1)] W fun e w' => e = .returned (.int .i64 (b2 : Int)) ∧ Frac w.heap.size w.heap.size ds2 m2 p2 w' ∧ Below w.heap.size W w' := fun W h1 h2 h3 => by
      have := back_any S hS fr to a b c w.heap.size w.heap.size (to + 1) (b1 + 1) ht hft (by omega) ha hb hc ds m p W h1 h2 h3 (by omega) (by omega) (by omega) (by omega) (by omega)
      rw [hR2] at this
      exact this
    have HBK := Lib.hid hbk
    clear hbk
    have hlk := fun j (hj : j ≤ 140737488355328) => look_any S hS fr to a b c j ht hj hft
    have hl1 := hlk b1 (by omega)
    rw [hu1] at hl1
    have hl2 := hlk la (by omega)
    obtain ⟨u2, hu2⟩ : ∃ u2, seenAt S fr to la = u2 := ⟨_, rfl⟩
    rw [hu2] at hl2
    rw [hu2]
    have hpo : ∀ W, LookS S fr to a b c W → Calls Tryz.prog 126 #[.func (.func 98) #[] #[.pointer (some ⟨a, 0, none⟩), .pointer (some ⟨b, 0, none⟩), .pointer (some ⟨c, 0, none⟩)], .int .i64 (b2 : Int)] W fun e w' => e = .returned (.tuple #[.int .i64 pw, .int .i64 (la : Int), .bool ok]) ∧ ∃ n, w' = W.drewN n := fun W h => by
      have := powerAt_any S hS fr to a b c (to + 1) b2 ht hft hto (by omega) (by omega) W h
      rw [hR3] at this
      exact this
    have hfn := frac_new w
    have hLn : LookS S fr to a b c (w.alloc (.cells #[.slice none 0 0, .bool false, .int .i64 0] 133)) := hL.keep (Below.alloc (Below.refl w.heap.size w) (Nat.le_refl _) _) ha hb hc
    have hne : ∀ W, Below w.heap.size w W → Frac w.heap.size w.heap.size ds2 m2 (p2 + pw) W → Calls Tryz.prog 127 #[.pointer (some ⟨w.heap.size, 0, none⟩)] W fun e w' => e = .returned (.float .f64 v) ∧ Below w.heap.size w w' := fun W hW hF => by
      have hE2 := hE.keep hW hN
      refine (hv N w.heap.size w.heap.size W hF hE2.env hE2.it (Nat.le_trans hN hW.size) hE2.er).mono ?_
      rintro e w' ⟨rfl, hb⟩
      exact ⟨rfl, hW.trans (hb.mono hW.size)⟩
    have HFR := Lib.hid hfr
    have HL1 := Lib.hid hl1
    have HL2 := Lib.hid hl2
    have HPO := Lib.hid hpo
    have HFN := Lib.hid hfn
    have HLN := Lib.hid hLn
    have HNE := Lib.hid hne
    have HL := Lib.hid hL
    have hB0 := Lib.hid (Below.alloc (Below.refl w.heap.size w) (Nat.le_refl _) (.cells #[.slice none 0 0, .bool false, .int .i64 0] 133))
    subst hdot
    have hw0 : IntKind.i64.wrap ((b1 : Int) + 1) = (b1 : Int) + 1 := IntWalk.i64_in _ (by omega)
    have hw3 : IntKind.i64.wrap ((b2 : Int) - ((b1 : Int) + 1)) = ((b2 - (b1 + 1) : Nat) : Int) := by rw [IntWalk.i64_in _ (by omega)]; omega
    have hw4 : IntKind.i64.wrap (((b1 - i : Nat) : Int) + ((b2 - (b1 + 1) : Nat) : Int)) = (((b1 - i) + (b2 - (b1 + 1)) : Nat) : Int) := by rw [IntWalk.i64_in _ (by omega)]; omega
    obtain ⟨n3, hn3⟩ : ∃ n3 : Int, (((b1 - i) + (b2 - (b1 + 1)) : Nat) : Int) = n3 := ⟨_, rfl⟩
    obtain ⟨n2, hn2⟩ : ∃ n2 : Int, ((b2 - (b1 + 1) : Nat) : Int) = n2 := ⟨_, rfl⟩
    rw [hn3] at hw4
    rw [hn2] at hw3 hw4
    have hw1 : IntKind.i64.wrap ((b1 : Int) - (i : Int)) = ((b1 - i : Nat) : Int) := by rw [IntWalk.i64_in _ (by omega)]; omega
    obtain ⟨n1, hn1⟩ : ∃ n1 : Int, ((b1 - i : Nat) : Int) = n1 := ⟨_, rfl⟩
    rw [hn1] at hw1 hw4
    have hw2 : IntKind.i64.wrap (p2 + pw) = p2 + pw := IntWalk.i64_in _ (by omega)
    have hz : (n3 == 0) = decide ((b1 - i) + (b2 - (b1 + 1)) = 0) := by rw [Bool.eq_iff_iff, beq_iff_eq, decide_eq_true_iff]; omega
    by_cases c1 : (b1 - i) + (b2 - (b1 + 1)) = 0
    · have hcc : (b1 - i) + (b2 - (b1 + 1)) = 0 ∨ ok = false ∨ u2 ≠ -1 := .inl c1
      rw [if_pos hcc, decide_eq_true hcc]
      rw [decide_eq_true c1] at hz
      clear hcc
      clear hfr hl1 hl2 hpo hfn hLn hne hlk hL hE hv hR1 hR3 hu1 hu2 hs hB3 hE3 f1 f2 f3 f4 f5 f6 hn1 hR2 g1 g2 g3 g4 g5 g6 hb1t hn3 hn2 c1
      go_enter Tryz.func118, Tryz.ntmps118
      go_wp2_with (first | (go_at_call 124; refine (HFR.out _ HLN.out HFN.out hB0.out.size).mono ?_; rintro e1 w1 ⟨rfl, hF3, hb3⟩; have HF1 := Lib.hid hF3; have HB1 := Lib.hid (hB0.out.trans hb3); have HL4 := Lib.hid (HL.out.keep HB1.out ha hb hc); clear hF3 hb3) | (go_at_call 125; refine (HBK.out _ (HL4.out.drewN _) (HF1.out.drewN _) HB1.out.size).mono ?_; rintro e1 w3 ⟨rfl, hF3, hb3⟩; obtain ⟨ao, cap, -, -, k2, k2f⟩ := hF3.cells; have HF3 := Lib.hid hF3; have HB3 := Lib.hid ((belN HB1.out _).trans hb3); have HL3 := Lib.hid (HL.out.keep HB3.out ha hb hc); clear hF3 hb3) | ((with_reducible refine (HL1.out _ HL4.out).mono ?_); rintro e w4 ⟨rfl, n4, rfl⟩) | (go_at_call 126; refine (HPO.out _ HL3.out).mono ?_; rintro e w5 ⟨rfl, n5, rfl⟩) | ((with_reducible refine (HL2.out _ (HL3.out.drewN _)).mono ?_); rintro e w6 ⟨rfl, n6, rfl⟩) | (go_at_call 127; refine (HNE.out _ ((belN HB3.out _).setCell (p := ⟨w.heap.size, 2, none⟩) (Nat.le_refl _) _) (HF3.out.drewN _).setPower).mono ?_; rintro e7 w7 ⟨rfl, hb7⟩; have HB7 := Lib.hid hb7; clear hb7))
      go_ret2
      exact ⟨rfl, belN HB3.out _⟩
    · rw [decide_eq_false c1] at hz
      cases ok
      · have hcc : (b1 - i) + (b2 - (b1 + 1)) = 0 ∨ false = false ∨ u2 ≠ -1 := .inr (.inl rfl)
        rw [if_pos hcc, decide_eq_true hcc]
        clear hcc
        clear hfr hl1 hl2 hpo hfn hLn hne hlk hL hE hv hR1 hR3 hu1 hu2 hs hB3 hE3 f1 f2 f3 f4 f5 f6 hn1 hR2 g1 g2 g3 g4 g5 g6 hb1t hn3 hn2 c1
        go_enter Tryz.func118, Tryz.ntmps118
        go_wp2_with (first | (go_at_call 124; refine (HFR.out _ HLN.out HFN.out hB0.out.size).mono ?_; rintro e1 w1 ⟨rfl, hF3, hb3⟩; have HF1 := Lib.hid hF3; have HB1 := Lib.hid (hB0.out.trans hb3); have HL4 := Lib.hid (HL.out.keep HB1.out ha hb hc); clear hF3 hb3) | (go_at_call 125; refine (HBK.out _ (HL4.out.drewN _) (HF1.out.drewN _) HB1.out.size).mono ?_; rintro e1 w3 ⟨rfl, hF3, hb3⟩; obtain ⟨ao, cap, -, -, k2, k2f⟩ := hF3.cells; have HF3 := Lib.hid hF3; have HB3 := Lib.hid ((belN HB1.out _).trans hb3); have HL3 := Lib.hid (HL.out.keep HB3.out ha hb hc); clear hF3 hb3) | ((with_reducible refine (HL1.out _ HL4.out).mono ?_); rintro e w4 ⟨rfl, n4, rfl⟩) | (go_at_call 126; refine (HPO.out _ HL3.out).mono ?_; rintro e w5 ⟨rfl, n5, rfl⟩) | ((with_reducible refine (HL2.out _ (HL3.out.drewN _)).mono ?_); rintro e w6 ⟨rfl, n6, rfl⟩) | (go_at_call 127; refine (HNE.out _ ((belN HB3.out _).setCell (p := ⟨w.heap.size, 2, none⟩) (Nat.le_refl _) _) (HF3.out.drewN _).setPower).mono ?_; rintro e7 w7 ⟨rfl, hb7⟩; have HB7 := Lib.hid hb7; clear hb7))
        go_ret2
        exact ⟨rfl, belN HB3.out _⟩
      · by_cases c2 : u2 = -1
        · subst c2
          have hcc : ¬ ((b1 - i) + (b2 - (b1 + 1)) = 0 ∨ true = false ∨ (-1 : Int) ≠ -1) := by
            rintro (h | h | h)
            · exact c1 h
            · cases h
            · exact h rfl
          rw [if_neg hcc, decide_eq_false hcc]
          clear hcc
          clear hfr hl1 hl2 hpo hfn hLn hne hlk hL hE hv hR1 hR3 hu1 hu2 hs hB3 hE3 f1 f2 f3 f4 f5 f6 hn1 hR2 g1 g2 g3 g4 g5 g6 hb1t hn3 hn2 c1
          go_enter Tryz.func118, Tryz.ntmps118
          go_wp2_with (first | (go_at_call 124; refine (HFR.out _ HLN.out HFN.out hB0.out.size).mono ?_; rintro e1 w1 ⟨rfl, hF3, hb3⟩; have HF1 := Lib.hid hF3; have HB1 := Lib.hid (hB0.out.trans hb3); have HL4 := Lib.hid (HL.out.keep HB1.out ha hb hc); clear hF3 hb3) | (go_at_call 125; refine (HBK.out _ (HL4.out.drewN _) (HF1.out.drewN _) HB1.out.size).mono ?_; rintro e1 w3 ⟨rfl, hF3, hb3⟩; obtain ⟨ao, cap, -, -, k2, k2f⟩ := hF3.cells; have HF3 := Lib.hid hF3; have HB3 := Lib.hid ((belN HB1.out _).trans hb3); have HL3 := Lib.hid (HL.out.keep HB3.out ha hb hc); clear hF3 hb3) | ((with_reducible refine (HL1.out _ HL4.out).mono ?_); rintro e w4 ⟨rfl, n4, rfl⟩) | (go_at_call 126; refine (HPO.out _ HL3.out).mono ?_; rintro e w5 ⟨rfl, n5, rfl⟩) | ((with_reducible refine (HL2.out _ (HL3.out.drewN _)).mono ?_); rintro e w6 ⟨rfl, n6, rfl⟩) | (go_at_call 127; refine (HNE.out _ ((belN HB3.out _).setCell (p := ⟨w.heap.size, 2, none⟩) (Nat.le_refl _) _) (HF3.out.drewN _).setPower).mono ?_; rintro e7 w7 ⟨rfl, hb7⟩; have HB7 := Lib.hid hb7; clear hb7))
          go_ret2
          exact ⟨rfl, HB7.out⟩
        · have hcc : (b1 - i) + (b2 - (b1 + 1)) = 0 ∨ true = false ∨ u2 ≠ -1 := .inr (.inr c2)
          rw [if_pos hcc, decide_eq_true hcc]
          have hc3 : (u2 != -1) = true := bne_iff_ne.2 c2
          clear hcc c2
          clear hfr hl1 hl2 hpo hfn hLn hne hlk hL hE hv hR1 hR3 hu1 hu2 hs hB3 hE3 f1 f2 f3 f4 f5 f6 hn1 hR2 g1 g2 g3 g4 g5 g6 hb1t hn3 hn2 c1
          go_enter Tryz.func118, Tryz.ntmps118
          go_wp2_with (first | (go_at_call 124; refine (HFR.out _ HLN.out HFN.out hB0.out.size).mono ?_; rintro e1 w1 ⟨rfl, hF3, hb3⟩; have HF1 := Lib.hid hF3; have HB1 := Lib.hid (hB0.out.trans hb3); have HL4 := Lib.hid (HL.out.keep HB1.out ha hb hc); clear hF3 hb3) | (go_at_call 125; refine (HBK.out _ (HL4.out.drewN _) (HF1.out.drewN _) HB1.out.size).mono ?_; rintro e1 w3 ⟨rfl, hF3, hb3⟩; obtain ⟨ao, cap, -, -, k2, k2f⟩ := hF3.cells; have HF3 := Lib.hid hF3; have HB3 := Lib.hid ((belN HB1.out _).trans hb3); have HL3 := Lib.hid (HL.out.keep HB3.out ha hb hc); clear hF3 hb3) | ((with_reducible refine (HL1.out _ HL4.out).mono ?_); rintro e w4 ⟨rfl, n4, rfl⟩) | (go_at_call 126; refine (HPO.out _ HL3.out).mono ?_; rintro e w5 ⟨rfl, n5, rfl⟩) | ((with_reducible refine (HL2.out _ (HL3.out.drewN _)).mono ?_); rintro e w6 ⟨rfl, n6, rfl⟩) | (go_at_call 127; refine (HNE.out _ ((belN HB3.out _).setCell (p := ⟨w.heap.size, 2, none⟩) (Nat.le_refl _) _) (HF3.out.drewN _).setPower).mono ?_; rintro e7 w7 ⟨rfl, hb7⟩; have HB7 := Lib.hid hb7; clear hb7))
          go_ret2
          exact ⟨rfl, belN HB3.out _⟩
  · obtain ⟨⟨pw, la, ok⟩, hR3⟩ : ∃ R, powerOf (seenAt S fr to) (to + 1) b1 = R := ⟨_, rfl⟩
    have hB3 := powerOf_bd (seenAt S fr to) (to + 1) b1
    have hE3 := powerOf_end (seenAt S fr to) to hs (to + 1) b1 (by omega)
    rw [hR3] at hB3 hE3
    dsimp only at hB3 hE3
    obtain ⟨v, hv⟩ := nearest_any ds m (p + pw) f4 (by omega)
    refine ⟨if b1 = i ∨ ok = false ∨ seenAt S fr to la ≠ -1 then 0 else v, !(decide (b1 = i ∨ ok = false ∨ seenAt S fr to la ≠ -1)), fun N a b c w hL ha hb hc hE hN => ?_⟩
    have hfr : ∀ W, LookS S fr to a b c W → Frac w.heap.size w.heap.size [] false 0 W → w.heap.size ≤ W.heap.size → Calls Tryz.prog 124 #[.pointer (some ⟨w.heap.size, 0, none⟩), .func (.func 98) #[] #[.pointer (some ⟨a, 0, none⟩), .pointer (some ⟨b, 0, none⟩), .pointer (some ⟨c, 0, none⟩)], .int .i64 (i : Int)] W fun e w' => e = .returned (.int .i64 (b1 : Int)) ∧ Frac w.heap.size w.heap.size ds m p w' ∧ Below w.heap.size W w' := fun W h1 h2 h3 => by
      have := front_any S hS fr to a b c w.heap.size w.heap.size (to + 1) i ht hft (by omega) ha hb hc [] false 0 W h1 h2 h3 hi (by simp) (by omega) (by omega) (by omega)
      rw [hR1] at this
      exact this
    have hlk := fun j (hj : j ≤ 140737488355328) => look_any S hS fr to a b c j ht hj hft
    have hl1 := hlk b1 (by omega)
    rw [hu1] at hl1
    have hl2 := hlk la (by omega)
    obtain ⟨u2, hu2⟩ : ∃ u2, seenAt S fr to la = u2 := ⟨_, rfl⟩
    rw [hu2] at hl2
    rw [hu2]
    have hpo : ∀ W, LookS S fr to a b c W → Calls Tryz.prog 126 #[.func (.func 98) #[] #[.pointer (some ⟨a, 0, none⟩), .pointer (some ⟨b, 0, none⟩), .pointer (some ⟨c, 0, none⟩)], .int .i64 (b1 : Int)] W fun e w' => e = .returned (.tuple #[.int .i64 pw, .int .i64 (la : Int), .bool ok]) ∧ ∃ n, w' = W.drewN n := fun W h => by
      have := powerAt_any S hS fr to a b c (to + 1) b1 ht hft hto (by omega) (by omega) W h
      rw [hR3] at this
      exact this
    have hfn := frac_new w
    have hLn : LookS S fr to a b c (w.alloc (.cells #[.slice none 0 0, .bool false, .int .i64 0] 133)) := hL.keep (Below.alloc (Below.refl w.heap.size w) (Nat.le_refl _) _) ha hb hc
    have hne : ∀ W, Below w.heap.size w W → Frac w.heap.size w.heap.size ds m (p + pw) W → Calls Tryz.prog 127 #[.pointer (some ⟨w.heap.size, 0, none⟩)] W fun e w' => e = .returned (.float .f64 v) ∧ Below w.heap.size w w' := fun W hW hF => by
      have hE2 := hE.keep hW hN
      refine (hv N w.heap.size w.heap.size W hF hE2.env hE2.it (Nat.le_trans hN hW.size) hE2.er).mono ?_
      rintro e w' ⟨rfl, hb⟩
      exact ⟨rfl, hW.trans (hb.mono hW.size)⟩
    have HFR := Lib.hid hfr
    have HL1 := Lib.hid hl1
    have HL2 := Lib.hid hl2
    have HPO := Lib.hid hpo
    have HFN := Lib.hid hfn
    have HLN := Lib.hid hLn
    have HNE := Lib.hid hne
    have HL := Lib.hid hL
    have hB0 := Lib.hid (Below.alloc (Below.refl w.heap.size w) (Nat.le_refl _) (.cells #[.slice none 0 0, .bool false, .int .i64 0] 133))
    have hd1 : (u1 == 46) = false := beq_eq_false_iff_ne.2 hdot
    have hw1 : IntKind.i64.wrap ((b1 : Int) - (i : Int)) = ((b1 - i : Nat) : Int) := by rw [IntWalk.i64_in _ (by omega)]; omega
    obtain ⟨n1, hn1⟩ : ∃ n1 : Int, ((b1 - i : Nat) : Int) = n1 := ⟨_, rfl⟩
    rw [hn1] at hw1
    have hw2 : IntKind.i64.wrap (p + pw) = p + pw := IntWalk.i64_in _ (by omega)
    have hz : (n1 == 0) = decide (b1 = i) := by rw [Bool.eq_iff_iff, beq_iff_eq, decide_eq_true_iff]; omega
    by_cases c1 : b1 = i
    · have hcc : b1 = i ∨ ok = false ∨ u2 ≠ -1 := .inl c1
      rw [if_pos hcc, decide_eq_true hcc]
      rw [decide_eq_true c1] at hz
      clear hcc
      clear hfr hl1 hl2 hpo hfn hLn hne hlk hL hE hv hR1 hR3 hu1 hu2 hs hB3 hE3 f1 f2 f3 f4 f5 f6 hn1 hdot c1
      go_enter Tryz.func118, Tryz.ntmps118
      go_wp2_with (first | (go_at_call 124; refine (HFR.out _ HLN.out HFN.out hB0.out.size).mono ?_; rintro e1 w3 ⟨rfl, hF3, hb3⟩; obtain ⟨ao, cap, -, -, k2, k2f⟩ := hF3.cells; have HF3 := Lib.hid hF3; have HB3 := Lib.hid (hB0.out.trans hb3); have HL3 := Lib.hid (HL.out.keep HB3.out ha hb hc); clear hF3 hb3) | ((with_reducible refine (HL1.out _ HL3.out).mono ?_); rintro e w4 ⟨rfl, n4, rfl⟩) | (go_at_call 126; refine (HPO.out _ (HL3.out.drewN _)).mono ?_; rintro e w5 ⟨rfl, n5, rfl⟩) | ((with_reducible refine (HL2.out _ (HL3.out.drewN _)).mono ?_); rintro e w6 ⟨rfl, n6, rfl⟩) | (go_at_call 127; refine (HNE.out _ ((belN HB3.out _).setCell (p := ⟨w.heap.size, 2, none⟩) (Nat.le_refl _) _) (HF3.out.drewN _).setPower).mono ?_; rintro e7 w7 ⟨rfl, hb7⟩; have HB7 := Lib.hid hb7; clear hb7))
      go_ret2
      exact ⟨rfl, belN HB3.out _⟩
    · rw [decide_eq_false c1] at hz
      cases ok
      · have hcc : b1 = i ∨ false = false ∨ u2 ≠ -1 := .inr (.inl rfl)
        rw [if_pos hcc, decide_eq_true hcc]
        clear hcc
        clear hfr hl1 hl2 hpo hfn hLn hne hlk hL hE hv hR1 hR3 hu1 hu2 hs hB3 hE3 f1 f2 f3 f4 f5 f6 hn1 hdot c1
        go_enter Tryz.func118, Tryz.ntmps118
        go_wp2_with (first | (go_at_call 124; refine (HFR.out _ HLN.out HFN.out hB0.out.size).mono ?_; rintro e1 w3 ⟨rfl, hF3, hb3⟩; obtain ⟨ao, cap, -, -, k2, k2f⟩ := hF3.cells; have HF3 := Lib.hid hF3; have HB3 := Lib.hid (hB0.out.trans hb3); have HL3 := Lib.hid (HL.out.keep HB3.out ha hb hc); clear hF3 hb3) | ((with_reducible refine (HL1.out _ HL3.out).mono ?_); rintro e w4 ⟨rfl, n4, rfl⟩) | (go_at_call 126; refine (HPO.out _ (HL3.out.drewN _)).mono ?_; rintro e w5 ⟨rfl, n5, rfl⟩) | ((with_reducible refine (HL2.out _ (HL3.out.drewN _)).mono ?_); rintro e w6 ⟨rfl, n6, rfl⟩) | (go_at_call 127; refine (HNE.out _ ((belN HB3.out _).setCell (p := ⟨w.heap.size, 2, none⟩) (Nat.le_refl _) _) (HF3.out.drewN _).setPower).mono ?_; rintro e7 w7 ⟨rfl, hb7⟩; have HB7 := Lib.hid hb7; clear hb7))
        go_ret2
        exact ⟨rfl, belN HB3.out _⟩
      · by_cases c2 : u2 = -1
        · subst c2
          have hcc : ¬ (b1 = i ∨ true = false ∨ (-1 : Int) ≠ -1) := by
            rintro (h | h | h)
            · exact c1 h
            · cases h
            · exact h rfl
          rw [if_neg hcc, decide_eq_false hcc]
          clear hcc
          clear hfr hl1 hl2 hpo hfn hLn hne hlk hL hE hv hR1 hR3 hu1 hu2 hs hB3 hE3 f1 f2 f3 f4 f5 f6 hn1 hdot c1
          go_enter Tryz.func118, Tryz.ntmps118
          go_wp2_with (first | (go_at_call 124; refine (HFR.out _ HLN.out HFN.out hB0.out.size).mono ?_; rintro e1 w3 ⟨rfl, hF3, hb3⟩; obtain ⟨ao, cap, -, -, k2, k2f⟩ := hF3.cells; have HF3 := Lib.hid hF3; have HB3 := Lib.hid (hB0.out.trans hb3); have HL3 := Lib.hid (HL.out.keep HB3.out ha hb hc); clear hF3 hb3) | ((with_reducible refine (HL1.out _ HL3.out).mono ?_); rintro e w4 ⟨rfl, n4, rfl⟩) | (go_at_call 126; refine (HPO.out _ (HL3.out.drewN _)).mono ?_; rintro e w5 ⟨rfl, n5, rfl⟩) | ((with_reducible refine (HL2.out _ (HL3.out.drewN _)).mono ?_); rintro e w6 ⟨rfl, n6, rfl⟩) | (go_at_call 127; refine (HNE.out _ ((belN HB3.out _).setCell (p := ⟨w.heap.size, 2, none⟩) (Nat.le_refl _) _) (HF3.out.drewN _).setPower).mono ?_; rintro e7 w7 ⟨rfl, hb7⟩; have HB7 := Lib.hid hb7; clear hb7))
          go_ret2
          exact ⟨rfl, HB7.out⟩
        · have hcc : b1 = i ∨ true = false ∨ u2 ≠ -1 := .inr (.inr c2)
          rw [if_pos hcc, decide_eq_true hcc]
          have hc3 : (u2 != -1) = true := bne_iff_ne.2 c2
          clear hcc c2
          clear hfr hl1 hl2 hpo hfn hLn hne hlk hL hE hv hR1 hR3 hu1 hu2 hs hB3 hE3 f1 f2 f3 f4 f5 f6 hn1 hdot c1
          go_enter Tryz.func118, Tryz.ntmps118
          go_wp2_with (first | (go_at_call 124; refine (HFR.out _ HLN.out HFN.out hB0.out.size).mono ?_; rintro e1 w3 ⟨rfl, hF3, hb3⟩; obtain ⟨ao, cap, -, -, k2, k2f⟩ := hF3.cells; have HF3 := Lib.hid hF3; have HB3 := Lib.hid (hB0.out.trans hb3); have HL3 := Lib.hid (HL.out.keep HB3.out ha hb hc); clear hF3 hb3) | ((with_reducible refine (HL1.out _ HL3.out).mono ?_); rintro e w4 ⟨rfl, n4, rfl⟩) | (go_at_call 126; refine (HPO.out _ (HL3.out.drewN _)).mono ?_; rintro e w5 ⟨rfl, n5, rfl⟩) | ((with_reducible refine (HL2.out _ (HL3.out.drewN _)).mono ?_); rintro e w6 ⟨rfl, n6, rfl⟩) | (go_at_call 127; refine (HNE.out _ ((belN HB3.out _).setCell (p := ⟨w.heap.size, 2, none⟩) (Nat.le_refl _) _) (HF3.out.drewN _).setPower).mono ?_; rintro e7 w7 ⟨rfl, hb7⟩; have HB7 := Lib.hid hb7; clear hb7))
          go_ret2
          exact ⟨rfl, belN HB3.out _⟩
end Go.Proofs.YtelphbcdjfdjpaaGreatDoor
