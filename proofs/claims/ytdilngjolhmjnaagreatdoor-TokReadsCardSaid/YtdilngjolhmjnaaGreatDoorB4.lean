/- The reader takes a section. Conditions: those that each theorem names. The reader takes a comment. Conditions: those that each theorem names. The reader takes an instruction. Conditions: those that each theorem names. The reader takes text up to the next < or &. Conditions: those that each theorem names. The reader tells a declaration from an instruction. Conditions: those that each theorem names. -/
import Derived.Test.YtdilngjolhmjnaaGreatDoorB2
import Derived.Test.YtdilngjolhmjnaaGreatDoorB3
namespace Go.Proofs.YtdilngjolhmjnaaGreatDoor
open Go.RowKit Go.Shelf
set_option linter.all false

/-- What taking a section leaves. -/
def SecStep (b mm B : Nat) (t : K.Told) (p : K.Pl) (w : World) (r : Except K.Er (List Nat × K.St)) (e : Ending) (w' : World) : Prop := match r with
  | .ok (m, s) => e = .returned (.tuple #[]) ∧ ∃ x', Inv b mm B s (K.say t m p) x' w' ∧ Below B w w'
  | .error er => Fell er e w' ∧ Below B w w'
theorem upTo_len {q m : List Nat} {s s1 : K.St} (h : K.upTo q s = .ok (m, s1)) : m.length + s1.1.length ≤ s.1.length ∧ (K.Sc s.1 → K.Sc m) := by
  unfold K.upTo at h
  cases hi : K.idx q s.1 with
  | none => rw [hi] at h; cases h
  | some n =>
    rw [hi] at h
    cases h
    refine ⟨?_, fun hs c hc => hs c (List.mem_of_mem_take hc)⟩
    show (s.1.take n).length + (s.1.drop (n + q.length)).length ≤ _
    rw [List.length_take, List.length_drop]
    omega
theorem sec_small : Small [93, 93, 62] := by unfold Small; decide

set_option maxHeartbeats 8000000 in
set_option maxRecDepth 100000 in
theorem section_any (b mm B : Nat) (s : K.St) (t : K.Told) (x : X6) (w : World) (h : Inv b mm B s t x w) (h12 : 12 ≤ B) (hs9 : (U.n8 (s.1.take 9)).length = 9) (hl9 : 9 ≤ s.1.length) :
    Calls Tryz.prog 66 #[.pointer (some ⟨b, 0, none⟩)] w (SecStep b mm B t s.2 w (K.section_ s)) := by
  obtain ⟨c0, c1, c2⟩ := h.rd.cells
  have hbox : Below w.heap.size w (w.alloc (.cells #[.int .i64 (s.2.1 : Int), .int .i64 (s.2.2 : Int)] 29)) := (Below.refl _ _).alloc (Nat.le_refl _) _
  have hlt := h.rd.lt
  have hBb := h.hB
  have I0 := Lib.hid (h.step (h.rd.below hbox) (.of_below hbox) (Nat.le_refl _))
  have B0 := Lib.hid (hbox.mono (show B ≤ w.heap.size by omega))
  have hb0 : (w.alloc (.cells #[.int .i64 (s.2.1 : Int), .int .i64 (s.2.2 : Int)] 29)).heap[w.heap.size]? = some (.cells #[.int .i64 (s.2.1 : Int), .int .i64 (s.2.2 : Int)] 29 (0, 0)) := heap_new _ _
  have hNb : w.heap.size ≠ b := by omega
  have K0 := Lib.hid hb0
  have htk := take_any 9 b s x _ I0.out.rd 9 (by rw [hs9]; rfl)
  have hsk : (K.skip s 9).1.length + 9 ≤ s.1.length := by show (s.1.drop 9).length + 9 ≤ _; rw [List.length_drop]; omega
  have hE : K.section_ s = K.upTo [93, 93, 62] (K.skip s 9) := rfl
  rw [hE]
  have HL : Hid (∀ W, Inv b mm B (K.skip s 9) t x W → Low W) := Lib.hid fun W hW => hW.env.low
  have HU : Hid (∀ W, Inv b mm B (K.skip s 9) t x W → Calls Tryz.prog 89 #[.pointer (some ⟨b, 0, none⟩), .string ⟨#[93, 93, 62]⟩] W (Step b x W strRet (K.upTo [93, 93, 62] (K.skip s 9)))) := Lib.hid fun W hW => upTo_any [93, 93, 62] sec_small (by simp) (by decide) b _ x W hW.rd (HL.out W hW) _ rfl
  have hroom := h.room
  have hmany := h.many
  have hscs : K.Sc s.1 := h.rd.1.sc
  clear h hE hb0
  cases hu : K.upTo [93, 93, 62] (K.skip s 9) with
  | error er =>
    rw [hu] at HU
    clear hu
    go_enter Tryz.func66, Tryz.ntmps66
    go_wp2_with (first
      | (go_at_call 61; refine htk.mono ?_; rintro e w1 ⟨rfl, hR1, hB1⟩; have I1 := Lib.hid (I0.out.step hR1 hB1 (skip_le _ _)); have L1 := Lib.hid (hB1.below I0.out.hB (by have := I0.out.rd.lt; have := I0.out.hB; omega)); have hup := HU.out _ I1.out; clear hR1 hB1)
      | (go_at_call 89; refine hup.mono ?_; rintro e w2 ⟨⟨fb, rfl, hfc⟩, hfb⟩))
    exact ⟨rfl, ⟨_, rfl, hfc⟩, (B0.out.trans L1.out).trans (hfb.below I1.out.hB (by have := I1.out.rd.lt; have := I1.out.hB; omega))⟩
  | ok q =>
    obtain ⟨m, s1⟩ := q
    obtain ⟨hml, hms⟩ := upTo_len hu
    have hm := hms (fun c hc => hscs c (List.mem_of_mem_drop hc))
    rw [hu] at HU
    clear hu hms
    have HS : Hid (∀ W, Inv b mm B s1 t x W → Calls Tryz.prog 92 #[.pointer (some ⟨b, 0, none⟩), .string (bs (U.n8 m)), .agg #[.int .i64 (s.2.1 : Int), .int .i64 (s.2.2 : Int)]] W (Said b mm B s1 t m s.2 W)) :=
      Lib.hid fun W hW => say_any b mm B s1 t x W hW m hm s.2 (by omega) (by split <;> omega) h12
    go_enter Tryz.func66, Tryz.ntmps66
    go_wp2_with (first
      | (go_at_call 61; refine htk.mono ?_; rintro e w1 ⟨rfl, hR1, hB1⟩; have I1 := Lib.hid (I0.out.step hR1 hB1 (skip_le _ _)); have L1 := Lib.hid (hB1.below I0.out.hB (by have := I0.out.rd.lt; have := I0.out.hB; omega)); have K1 := Lib.hid (hB1.keep hNb K0.out); have hup := HU.out _ I1.out; clear hR1 hB1)
      | (go_at_call 89; refine hup.mono ?_; rintro e w2 ⟨rfl, hR2, hB2⟩; have I2 := Lib.hid (I1.out.step hR2 hB2 (by omega)); have L2 := Lib.hid (hB2.below I1.out.hB (by have := I1.out.rd.lt; have := I1.out.hB; omega)); have K2 := hB2.keep hNb K1.out; have k0 : w2.cell? ⟨w.heap.size, 0, none⟩ = some (.int .i64 (s.2.1 : Int)) := (by rw [Lib.cell_of_heap K2]; rfl); have k1 : w2.cell? ⟨w.heap.size, 1, none⟩ = some (.int .i64 (s.2.2 : Int)) := (by rw [Lib.cell_of_heap K2]; rfl); have hsy := HS.out _ I2.out; clear hR2 hB2 K2)
      | (go_at_call 92; refine hsy.mono ?_; rintro e w3 ⟨rfl, x', hI, hB3, _⟩; have HI := Lib.hid hI; clear hI))
    go_end0
    exact ⟨rfl, x', HI.out, ((B0.out.trans L1.out).trans L2.out).trans hB3⟩
end Go.Proofs.YtdilngjolhmjnaaGreatDoor
namespace Go.Proofs.YtdilngjolhmjnaaGreatDoor
open Go.RowKit Go.Shelf
set_option linter.all false

theorem dash_small : Small [45, 45] := by unfold Small; decide
theorem dash_gt_small : Small [45, 45, 62] := by unfold Small; decide
theorem advs_skip (s : K.St) (n : Nat) : K.advs (K.skip s n).2 (K.skip s n).1 = K.advs s.2 s.1 := by
  show List.foldl K.adv (List.foldl K.adv s.2 (s.1.take n)) (s.1.drop n) = List.foldl K.adv s.2 s.1
  rw [← List.foldl_append, List.take_append_drop]

set_option maxHeartbeats 8000000 in
set_option maxRecDepth 100000 in
theorem comment_any (b : Nat) (s : K.St) (x : X6) (w : World) (h : Rd b s x w) (hlow : Low w) (hb12 : 12 ≤ b) (hs4 : (U.n8 (s.1.take 4)).length = 4) (hl4 : 4 ≤ s.1.length) :
    Calls Tryz.prog 65 #[.pointer (some ⟨b, 0, none⟩)] w (Step b x w noRet (unitOf (K.comment s))) := by
  have htk := take_any 4 b s x w h 4 (by rw [hs4]; rfl)
  have hE : K.comment s = match K.idx [45, 45] (K.skip s 4).1 with
    | none => .error (21, K.advs s.2 s.1)
    | some n => if s.1.length = 4 + n + 2 then .error (21, K.advs s.2 s.1) else K.want [45, 45, 62] (K.skip (K.skip s 4) n) := rfl
  have hlt := h.lt
  have hsl : (K.skip s 4).1.length + 4 = s.1.length := by show (s.1.drop 4).length + 4 = _; rw [List.length_drop]; omega
  have hadv := advs_skip s 4
  rw [hE]
  unfold Took at htk
  generalize K.skip s 4 = s1 at htk hsl hadv ⊢
  have HB : Hid (∀ W, Rd b s1 x W → Calls Tryz.prog 91 #[.pointer (some ⟨b, 0, none⟩)] W fun e w' => Fell (21, K.advs s.2 s.1) e w' ∧ Bar b W w') := Lib.hid fun W hW => by rw [← hadv]; exact breakOff_any b s1 x W hW
  have HI : Hid (∀ W, Rd b s1 x W → Bar b w W → Calls Tryz.prog 90 #[.string (bs (U.n8 s1.1)), .string ⟨#[45, 45]⟩] W fun e w' => e = .returned (.int .i64 (match K.idx [45, 45] s1.1 with | none => -1 | some k => ((U.n8 (s1.1.take k)).length : Int))) ∧ W = w') :=
    Lib.hid fun W hW hB => index_call [45, 45] dash_small (by simp) s1.1 hW.1.sc hW.1.len W (hlow.bar hB hb12 (by omega))
  have HF : Hid (∀ W, Rd b s1 x W → (U.n8 s1.1).length ≤ 65536 ∧ K.Sc s1.1) := Lib.hid fun W hW => ⟨hW.1.len, hW.1.sc⟩
  cases hi : K.idx [45, 45] s1.1 with
  | none =>
    rw [hi] at HI
    have HI : Hid (∀ W, Rd b s1 x W → Bar b w W → Calls Tryz.prog 90 #[.string (bs (U.n8 s1.1)), .string ⟨#[45, 45]⟩] W fun e w' => e = .returned (.int .i64 (-1)) ∧ W = w') := HI
    clear hi h hlow hE hadv
    go_enter Tryz.func65, Tryz.ntmps65
    go_wp2_with (first
      | (go_at_call 61; refine htk.mono ?_; rintro e w1 ⟨rfl, hR1, hB1⟩; have hix := HI.out _ hR1 hB1; have hbr := HB.out _ hR1; obtain ⟨g0, _, _⟩ := hR1.cells; have HB1 := Lib.hid hB1; clear hR1 hB1)
      | (go_at_call 90; refine hix.mono ?_; rintro e w2 ⟨rfl, rfl⟩)
      | (go_at_call 91; refine hbr.mono ?_; rintro e w3 ⟨⟨fb, rfl, hfc⟩, hfb⟩))
    exact ⟨rfl, ⟨_, rfl, hfc⟩, HB1.out.trans hfb⟩
  | some n =>
    obtain ⟨hpre, hnl⟩ := idx_pre hi
    have hpr := (List.prefix_iff_eq_take.1 (List.isPrefixOf_iff_prefix.1 hpre)).symm
    have hbytes : ∀ W, Rd b s1 x W → ((U.n8 s1.1).length = (U.n8 (s1.1.take n)).length + 2 ↔ s.1.length = 4 + n + 2) ∧ (U.n8 (s1.1.take n)).length + 2 ≤ (U.n8 s1.1).length := by
      intro W hW
      have e1 : s1.1 = s1.1.take n ++ ([45, 45] ++ (s1.1.drop n).drop 2) := by
        have : s1.1.drop n = [45, 45] ++ (s1.1.drop n).drop 2 := by
          conv => lhs; rw [← List.take_append_drop 2 (s1.1.drop n)]
          rw [show (s1.1.drop n).take 2 = [45, 45] from hpr]
        rw [← this, List.take_append_drop]
      have e2 : (U.n8 s1.1).length = (U.n8 (s1.1.take n)).length + (2 + (U.n8 ((s1.1.drop n).drop 2)).length) := by
        conv => lhs; rw [e1]
        rw [U.n8_append, U.n8_append, List.length_append, List.length_append]
        rfl
      have e3 : s1.1.length = n + (2 + ((s1.1.drop n).drop 2).length) := by
        have h2 : 2 ≤ (s1.1.drop n).length := by
          have := congrArg List.length hpr
          rw [List.length_take] at this
          simp at this ⊢
          omega
        rw [List.length_drop] at h2 ⊢
        rw [List.length_drop]
        omega
      have e4 : (U.n8 ((s1.1.drop n).drop 2)).length = 0 ↔ ((s1.1.drop n).drop 2).length = 0 := by
        rw [List.length_eq_zero_iff, List.length_eq_zero_iff]
        exact K.n8_eq_nil
      refine ⟨⟨fun e => ?_, fun e => ?_⟩, by omega⟩
      · have := e4.1 (by omega)
        omega
      · have := e4.2 (by omega)
        omega
    have HY := Lib.hid hbytes
    rw [hi] at HI
    have HI : Hid (∀ W, Rd b s1 x W → Bar b w W → Calls Tryz.prog 90 #[.string (bs (U.n8 s1.1)), .string ⟨#[45, 45]⟩] W fun e w' => e = .returned (.int .i64 ((U.n8 (s1.1.take n)).length : Int)) ∧ W = w') := HI
    have HT : Hid (∀ W, Rd b s1 x W → Calls Tryz.prog 61 #[.pointer (some ⟨b, 0, none⟩), .int .i64 ((U.n8 (s1.1.take n)).length : Int)] W (Took b s1 x n W)) := Lib.hid fun W hW => take_any n b s1 x W hW _ rfl
    have HZ : Hid (∀ W, Rd b s1 x W → (bs (U.n8 s1.1)).size = (U.n8 s1.1).length ∧ (U.n8 s1.1).length ≤ 65536) := Lib.hid fun W hW => ⟨bs_size _, hW.1.len⟩
    obtain ⟨L, hL⟩ : ∃ L, (U.n8 (s1.1.take n)).length = L := ⟨_, rfl⟩
    rw [hL] at HI HT HY
    clear hi h hlow hE hadv hpre hpr hbytes hL
    simp only
    by_cases hend : s.1.length = 4 + n + 2
    · rw [if_pos hend]
      go_enter Tryz.func65, Tryz.ntmps65
      go_wp2_with (first
        | (go_at_call 61; refine htk.mono ?_; rintro e w1 ⟨rfl, hR1, hB1⟩; have hix := HI.out _ hR1 hB1; have hbr := HB.out _ hR1; obtain ⟨g0, _, _⟩ := hR1.cells; have HB1 := Lib.hid hB1; obtain ⟨z1, z2⟩ := HZ.out _ hR1; obtain ⟨y1, y2⟩ := HY.out _ hR1; have y3 := y1.2 hend; have hz : ((L : Int) + 2 == ((bs (U.n8 s1.1)).size : Int)) = true := (by rw [beq_iff_eq]; omega); have hl0 : ¬ (L : Int) < 0 := (by omega); have hl6 : L ≤ 65536 := (by omega); clear hR1 hB1 z1 z2 y1 y2 y3)
        | (go_at_call 90; refine hix.mono ?_; rintro e w2 ⟨rfl, rfl⟩)
        | (go_at_call 91; refine hbr.mono ?_; rintro e w3 ⟨⟨fb, rfl, hfc⟩, hfb⟩))
      exact ⟨rfl, ⟨_, rfl, hfc⟩, HB1.out.trans hfb⟩
    · rw [if_neg hend]
      have HW : Hid (∀ W, Rd b (K.skip s1 n) x W → Calls Tryz.prog 88 #[.pointer (some ⟨b, 0, none⟩), .string ⟨#[45, 45, 62]⟩] W (Step b x W noRet (unitOf (K.want [45, 45, 62] (K.skip s1 n))))) := Lib.hid fun W hW => want_any [45, 45, 62] dash_gt_small b _ x W hW _ rfl
      cases hw : K.want [45, 45, 62] (K.skip s1 n) with
      | error er =>
        rw [hw] at HW
        clear hw
        go_enter Tryz.func65, Tryz.ntmps65
        go_wp2_with (first
          | (go_at_call 61; first
            | ((with_reducible refine htk.mono ?_); rintro e w1 ⟨rfl, hR1, hB1⟩; have hix := HI.out _ hR1 hB1; have ht2 := HT.out _ hR1; obtain ⟨g0, _, _⟩ := hR1.cells; have HB1 := Lib.hid hB1; obtain ⟨z1, z2⟩ := HZ.out _ hR1; obtain ⟨y1, y2⟩ := HY.out _ hR1; have hz : ((L : Int) + 2 == ((bs (U.n8 s1.1)).size : Int)) = false := (by rw [beq_eq_false_iff_ne]; intro e; exact hend (y1.1 (by omega))); have hl0 : ¬ (L : Int) < 0 := (by omega); have hl6 : L ≤ 65536 := (by omega); clear hR1 hB1 z1 z2 y1 y2)
            | ((with_reducible refine ht2.mono ?_); rintro e w3 ⟨rfl, hR3, hB3⟩; have hwn := HW.out _ hR3; have HB3 := Lib.hid hB3; clear hR3 hB3))
          | (go_at_call 90; refine hix.mono ?_; rintro e w2 ⟨rfl, rfl⟩)
          | (go_at_call 88; refine hwn.mono ?_; rintro e w4 ⟨⟨fb, rfl, hfc⟩, hfb⟩))
        exact ⟨rfl, ⟨_, rfl, hfc⟩, (HB1.out.trans HB3.out).trans hfb⟩
      | ok s2 =>
        rw [hw] at HW
        clear hw
        go_enter Tryz.func65, Tryz.ntmps65
        go_wp2_with (first
          | (go_at_call 61; first
            | ((with_reducible refine htk.mono ?_); rintro e w1 ⟨rfl, hR1, hB1⟩; have hix := HI.out _ hR1 hB1; have ht2 := HT.out _ hR1; obtain ⟨g0, _, _⟩ := hR1.cells; have HB1 := Lib.hid hB1; obtain ⟨z1, z2⟩ := HZ.out _ hR1; obtain ⟨y1, y2⟩ := HY.out _ hR1; have hz : ((L : Int) + 2 == ((bs (U.n8 s1.1)).size : Int)) = false := (by rw [beq_eq_false_iff_ne]; intro e; exact hend (y1.1 (by omega))); have hl0 : ¬ (L : Int) < 0 := (by omega); have hl6 : L ≤ 65536 := (by omega); clear hR1 hB1 z1 z2 y1 y2)
            | ((with_reducible refine ht2.mono ?_); rintro e w3 ⟨rfl, hR3, hB3⟩; have hwn := HW.out _ hR3; have HB3 := Lib.hid hB3; clear hR3 hB3))
          | (go_at_call 90; refine hix.mono ?_; rintro e w2 ⟨rfl, rfl⟩)
          | (go_at_call 88; refine hwn.mono ?_; rintro e w4 ⟨rfl, hR4, hB4⟩; have HR4 := Lib.hid hR4; clear hR4))
        go_end0
        exact ⟨rfl, HR4.out, (HB1.out.trans HB3.out).trans hB4⟩
end Go.Proofs.YtdilngjolhmjnaaGreatDoor
namespace Go.Proofs.YtdilngjolhmjnaaGreatDoor
open Go.RowKit Go.Shelf
set_option linter.all false

theorem name_part {s s1 : K.St} {n : List Nat} (h : K.name s = .ok (n, s1)) (hs : K.Sc s.1) : K.Sc n ∧ (U.n8 n).length ≤ (U.n8 s.1).length := by
  unfold K.name at h
  split at h
  · split at h
    · cases h
    · cases h
      refine ⟨fun c hc => hs c ((List.takeWhile_sublist _).subset hc), ?_⟩
      have := n8_take_le s.1 (s.1.takeWhile K.goes).length
      rw [takeWhile_take] at this
      exact this
  · cases h
theorem qgt_small : Small [63, 62] := by unfold Small; decide
theorem xml_noks : ∀ y ∈ ([120, 109, 108] : List Nat), NoKs y := by
  intro y hy
  simp at hy
  rcases hy with rfl | rfl | rfl <;> exact ⟨by decide, by decide⟩
theorem blanks_none {s : K.St} (h : K.nblank s = 0) : K.blanks s = s := by
  unfold K.blanks
  rw [h]
  rfl

set_option maxHeartbeats 8000000 in
set_option maxRecDepth 100000 in
theorem instruction_any (b : Nat) (s : K.St) (x : X6) (w : World) (h : Rd b s x w) (hlow : Low w) (hb12 : 12 ≤ b) (hs2 : (U.n8 (s.1.take 2)).length = 2) :
    Calls Tryz.prog 64 #[.pointer (some ⟨b, 0, none⟩)] w (Step b x w noRet (unitOf (K.instruction s))) := by
  obtain ⟨c0, c1, c2⟩ := h.cells
  have hlt := h.lt
  have hbox : Below w.heap.size w (w.alloc (.cells #[.int .i64 (s.2.1 : Int), .int .i64 (s.2.2 : Int)] 29)) := (Below.refl _ _).alloc (Nat.le_refl _) _
  have B0 := Lib.hid (Bar.of_below (b := b) hbox)
  have hb0 : (w.alloc (.cells #[.int .i64 (s.2.1 : Int), .int .i64 (s.2.2 : Int)] 29)).heap[w.heap.size]? = some (.cells #[.int .i64 (s.2.1 : Int), .int .i64 (s.2.2 : Int)] 29 (0, 0)) := heap_new _ _
  have K0 := Lib.hid hb0
  have hNb : w.heap.size ≠ b := by omega
  have htk := take_any 2 b s x _ (h.below hbox) 2 (by rw [hs2]; rfl)
  have hE : K.instruction s = match K.name (K.skip s 2) with
    | .error e => .error e
    | .ok (n, s1) =>
      if n.map K.low = [120, 109, 108] then .error (21, s.2)
      else if K.nblank s1 = 0 then K.want [63, 62] s1
      else match K.upTo [63, 62] (K.blanks s1) with
        | .error e => .error e
        | .ok (_, s2) => .ok s2 := rfl
  rw [hE]
  have HN : Hid (∀ W, Rd b (K.skip s 2) x W → Calls Tryz.prog 87 #[.pointer (some ⟨b, 0, none⟩)] W (Step b x W strRet (K.name (K.skip s 2)))) := Lib.hid fun W hW => name_any b _ x W hW
  have HFail : Hid (∀ W, Calls Tryz.prog 17 #[.int .i64 21, .agg #[.int .i64 (s.2.1 : Int), .int .i64 (s.2.2 : Int)]] W fun e w' => Fell (21, s.2) e w' ∧ Below W.heap.size W w') := Lib.hid fun W => fail_lit 21 21 rfl s.2.1 s.2.2 W
  have hscs : K.Sc (K.skip s 2).1 := fun c hc => h.1.sc c (List.mem_of_mem_drop hc)
  have hlen2 : (U.n8 (K.skip s 2).1).length ≤ 65536 := (h.below hbox).1.len |> fun _ => by
    have e := congrArg List.length (congrArg U.n8 (List.take_append_drop 2 s.1))
    rw [U.n8_append, List.length_append] at e
    have := h.1.len
    show (U.n8 (s.1.drop 2)).length ≤ _
    omega
  have HLow : Hid (∀ W, Bar b w W → Low W ∧ 12 ≤ W.heap.size) := Lib.hid fun W hB => ⟨hlow.bar hB hb12 (by omega), by have := hB.size; omega⟩
  clear h hE hb0 hlow
  cases hn : K.name (K.skip s 2) with
  | error er =>
    rw [hn] at HN
    clear hn
    go_enter Tryz.func64, Tryz.ntmps64
    go_wp2_with (first
      | (go_at_call 61; refine htk.mono ?_; rintro e w1 ⟨rfl, hR1, hB1⟩; have hnm := HN.out _ hR1; have B1 := Lib.hid (B0.out.trans hB1); have K1 := Lib.hid (hB1.keep hNb K0.out); clear hR1 hB1)
      | (go_at_call 87; refine hnm.mono ?_; rintro e w5 ⟨⟨fb, rfl, hfc⟩, hfb⟩))
    exact ⟨rfl, ⟨_, rfl, hfc⟩, B1.out.trans hfb⟩
  | ok q =>
    obtain ⟨nm, s1⟩ := q
    obtain ⟨hnsc, hnl⟩ := name_part hn hscs
    rw [hn] at HN
    clear hn
    have hfo0 : ∀ W, Bar b w W → Calls Tryz.prog 86 #[.string (bs (U.n8 nm)), .string ⟨#[120, 109, 108]⟩] W fun e w' => e = .returned (.bool (decide (nm.map K.low = [120, 109, 108]))) ∧ Below W.heap.size W w' := by
      intro W hW
      obtain ⟨l1, l2⟩ := HLow.out W hW
      exact fold_any nm [120, 109, 108] hnsc (by omega) xml_noks (by decide) W l1 l2
    have HB : Hid (∀ W, Rd b s1 x W → Calls Tryz.prog 83 #[.pointer (some ⟨b, 0, none⟩)] W fun e w' => e = .returned (.bool (decide (0 < K.nblank s1))) ∧ Rd b (K.blanks s1) x w' ∧ Bar b W w') := Lib.hid fun W hW => blanks_any b s1 x W hW
    simp only
    by_cases hx : nm.map K.low = [120, 109, 108]
    · rw [if_pos hx]
      rw [decide_eq_true hx] at hfo0
      have HFo := Lib.hid hfo0
      clear hfo0 hx hnsc hscs
      go_enter Tryz.func64, Tryz.ntmps64
      go_wp2_with (first
        | (go_at_call 61; refine htk.mono ?_; rintro e w1 ⟨rfl, hR1, hB1⟩; have hnm := HN.out _ hR1; have B1 := Lib.hid (B0.out.trans hB1); have K1 := Lib.hid (hB1.keep hNb K0.out); clear hR1 hB1)
        | (go_at_call 87; refine hnm.mono ?_; rintro e w2 ⟨rfl, hR2, hB2⟩; have B2 := Lib.hid (B1.out.trans hB2); have K2 := Lib.hid (hB2.keep hNb K1.out); have hfo := HFo.out _ B2.out; have R2 := Lib.hid hR2; clear hR2 hB2)
        | (go_at_call 86; refine hfo.mono ?_; rintro e w3 ⟨rfl, hb3⟩; have B3 := Lib.hid (B2.out.bel hb3); have R3 := Lib.hid (R2.out.below hb3); have K3 := Below.keep hb3 K2.out; have k0 : w3.cell? ⟨w.heap.size, 0, none⟩ = some (.int .i64 (s.2.1 : Int)) := (by rw [Lib.cell_of_heap K3]; rfl); have k1 : w3.cell? ⟨w.heap.size, 1, none⟩ = some (.int .i64 (s.2.2 : Int)) := (by rw [Lib.cell_of_heap K3]; rfl); have hfl := HFail.out w3; have hbl := HB.out _ R3.out; clear hb3 K3)
        | (go_at_call 17; refine hfl.mono ?_; rintro e w5 ⟨⟨fb, rfl, hfc⟩, hfb⟩))
      exact ⟨rfl, ⟨_, rfl, hfc⟩, B3.out.bel hfb⟩
    · rw [if_neg hx]
      rw [decide_eq_false hx] at hfo0
      have HFo := Lib.hid hfo0
      clear hfo0 hx hnsc hscs
      by_cases hz : K.nblank s1 = 0
      · rw [if_pos hz]
        rw [decide_eq_false (by omega), blanks_none hz] at HB
        have HW : Hid (∀ W, Rd b s1 x W → Bar b w W → Calls Tryz.prog 88 #[.pointer (some ⟨b, 0, none⟩), .string ⟨#[63, 62]⟩] W (Step b x W noRet (unitOf (K.want [63, 62] s1)))) := Lib.hid fun W hW _ => want_any [63, 62] qgt_small b _ x W hW _ rfl
        clear hz
        cases hw : K.want [63, 62] s1 with
        | error er =>
          rw [hw] at HW
          clear hw
          go_enter Tryz.func64, Tryz.ntmps64
          go_wp2_with (first
            | (go_at_call 61; refine htk.mono ?_; rintro e w1 ⟨rfl, hR1, hB1⟩; have hnm := HN.out _ hR1; have B1 := Lib.hid (B0.out.trans hB1); have K1 := Lib.hid (hB1.keep hNb K0.out); clear hR1 hB1)
            | (go_at_call 87; refine hnm.mono ?_; rintro e w2 ⟨rfl, hR2, hB2⟩; have B2 := Lib.hid (B1.out.trans hB2); have K2 := Lib.hid (hB2.keep hNb K1.out); have hfo := HFo.out _ B2.out; have R2 := Lib.hid hR2; clear hR2 hB2)
            | (go_at_call 86; refine hfo.mono ?_; rintro e w3 ⟨rfl, hb3⟩; have B3 := Lib.hid (B2.out.bel hb3); have R3 := Lib.hid (R2.out.below hb3); have K3 := Below.keep hb3 K2.out; have k0 : w3.cell? ⟨w.heap.size, 0, none⟩ = some (.int .i64 (s.2.1 : Int)) := (by rw [Lib.cell_of_heap K3]; rfl); have k1 : w3.cell? ⟨w.heap.size, 1, none⟩ = some (.int .i64 (s.2.2 : Int)) := (by rw [Lib.cell_of_heap K3]; rfl); have hfl := HFail.out w3; have hbl := HB.out _ R3.out; clear hb3 K3)
            | (go_at_call 83; refine hbl.mono ?_; rintro e w4 ⟨rfl, hR4, hB4⟩; have B4 := Lib.hid (B3.out.trans hB4); have hwn := HW.out _ hR4 B4.out; clear hR4 hB4)
            | (go_at_call 88; refine hwn.mono ?_; rintro e w5 ⟨⟨fb, rfl, hfc⟩, hfb⟩))
          exact ⟨rfl, ⟨_, rfl, hfc⟩, B4.out.trans hfb⟩
        | ok s2 =>
          rw [hw] at HW
          clear hw
          go_enter Tryz.func64, Tryz.ntmps64
          go_wp2_with (first
            | (go_at_call 61; refine htk.mono ?_; rintro e w1 ⟨rfl, hR1, hB1⟩; have hnm := HN.out _ hR1; have B1 := Lib.hid (B0.out.trans hB1); have K1 := Lib.hid (hB1.keep hNb K0.out); clear hR1 hB1)
            | (go_at_call 87; refine hnm.mono ?_; rintro e w2 ⟨rfl, hR2, hB2⟩; have B2 := Lib.hid (B1.out.trans hB2); have K2 := Lib.hid (hB2.keep hNb K1.out); have hfo := HFo.out _ B2.out; have R2 := Lib.hid hR2; clear hR2 hB2)
            | (go_at_call 86; refine hfo.mono ?_; rintro e w3 ⟨rfl, hb3⟩; have B3 := Lib.hid (B2.out.bel hb3); have R3 := Lib.hid (R2.out.below hb3); have K3 := Below.keep hb3 K2.out; have k0 : w3.cell? ⟨w.heap.size, 0, none⟩ = some (.int .i64 (s.2.1 : Int)) := (by rw [Lib.cell_of_heap K3]; rfl); have k1 : w3.cell? ⟨w.heap.size, 1, none⟩ = some (.int .i64 (s.2.2 : Int)) := (by rw [Lib.cell_of_heap K3]; rfl); have hfl := HFail.out w3; have hbl := HB.out _ R3.out; clear hb3 K3)
            | (go_at_call 83; refine hbl.mono ?_; rintro e w4 ⟨rfl, hR4, hB4⟩; have B4 := Lib.hid (B3.out.trans hB4); have hwn := HW.out _ hR4 B4.out; clear hR4 hB4)
            | (go_at_call 88; refine hwn.mono ?_; rintro e w5 ⟨rfl, hR5, hB5⟩; have R5 := Lib.hid hR5; clear hR5))
          go_end0
          exact ⟨rfl, R5.out, B4.out.trans hB5⟩
      · rw [if_neg hz]
        rw [decide_eq_true (by omega)] at HB
        have HW : Hid (∀ W, Rd b (K.blanks s1) x W → Bar b w W → Calls Tryz.prog 89 #[.pointer (some ⟨b, 0, none⟩), .string ⟨#[63, 62]⟩] W (Step b x W strRet (K.upTo [63, 62] (K.blanks s1)))) := Lib.hid fun W hW hB => upTo_any [63, 62] qgt_small (by simp) (by decide) b _ x W hW (HLow.out W hB).1 _ rfl
        clear hz
        cases hw : K.upTo [63, 62] (K.blanks s1) with
        | error er =>
          rw [hw] at HW
          clear hw
          go_enter Tryz.func64, Tryz.ntmps64
          go_wp2_with (first
            | (go_at_call 61; refine htk.mono ?_; rintro e w1 ⟨rfl, hR1, hB1⟩; have hnm := HN.out _ hR1; have B1 := Lib.hid (B0.out.trans hB1); have K1 := Lib.hid (hB1.keep hNb K0.out); clear hR1 hB1)
            | (go_at_call 87; refine hnm.mono ?_; rintro e w2 ⟨rfl, hR2, hB2⟩; have B2 := Lib.hid (B1.out.trans hB2); have K2 := Lib.hid (hB2.keep hNb K1.out); have hfo := HFo.out _ B2.out; have R2 := Lib.hid hR2; clear hR2 hB2)
            | (go_at_call 86; refine hfo.mono ?_; rintro e w3 ⟨rfl, hb3⟩; have B3 := Lib.hid (B2.out.bel hb3); have R3 := Lib.hid (R2.out.below hb3); have K3 := Below.keep hb3 K2.out; have k0 : w3.cell? ⟨w.heap.size, 0, none⟩ = some (.int .i64 (s.2.1 : Int)) := (by rw [Lib.cell_of_heap K3]; rfl); have k1 : w3.cell? ⟨w.heap.size, 1, none⟩ = some (.int .i64 (s.2.2 : Int)) := (by rw [Lib.cell_of_heap K3]; rfl); have hfl := HFail.out w3; have hbl := HB.out _ R3.out; clear hb3 K3)
            | (go_at_call 83; refine hbl.mono ?_; rintro e w4 ⟨rfl, hR4, hB4⟩; have B4 := Lib.hid (B3.out.trans hB4); have hwn := HW.out _ hR4 B4.out; clear hR4 hB4)
            | (go_at_call 89; refine hwn.mono ?_; rintro e w5 ⟨⟨fb, rfl, hfc⟩, hfb⟩))
          exact ⟨rfl, ⟨_, rfl, hfc⟩, B4.out.trans hfb⟩
        | ok q =>
          obtain ⟨m, s2⟩ := q
          rw [hw] at HW
          clear hw
          go_enter Tryz.func64, Tryz.ntmps64
          go_wp2_with (first
            | (go_at_call 61; refine htk.mono ?_; rintro e w1 ⟨rfl, hR1, hB1⟩; have hnm := HN.out _ hR1; have B1 := Lib.hid (B0.out.trans hB1); have K1 := Lib.hid (hB1.keep hNb K0.out); clear hR1 hB1)
            | (go_at_call 87; refine hnm.mono ?_; rintro e w2 ⟨rfl, hR2, hB2⟩; have B2 := Lib.hid (B1.out.trans hB2); have K2 := Lib.hid (hB2.keep hNb K1.out); have hfo := HFo.out _ B2.out; have R2 := Lib.hid hR2; clear hR2 hB2)
            | (go_at_call 86; refine hfo.mono ?_; rintro e w3 ⟨rfl, hb3⟩; have B3 := Lib.hid (B2.out.bel hb3); have R3 := Lib.hid (R2.out.below hb3); have K3 := Below.keep hb3 K2.out; have k0 : w3.cell? ⟨w.heap.size, 0, none⟩ = some (.int .i64 (s.2.1 : Int)) := (by rw [Lib.cell_of_heap K3]; rfl); have k1 : w3.cell? ⟨w.heap.size, 1, none⟩ = some (.int .i64 (s.2.2 : Int)) := (by rw [Lib.cell_of_heap K3]; rfl); have hfl := HFail.out w3; have hbl := HB.out _ R3.out; clear hb3 K3)
            | (go_at_call 83; refine hbl.mono ?_; rintro e w4 ⟨rfl, hR4, hB4⟩; have B4 := Lib.hid (B3.out.trans hB4); have hwn := HW.out _ hR4 B4.out; clear hR4 hB4)
            | (go_at_call 89; refine hwn.mono ?_; rintro e w5 ⟨rfl, hR5, hB5⟩; have R5 := Lib.hid hR5; clear hR5))
          go_end0
          exact ⟨rfl, R5.out, B4.out.trans hB5⟩
end Go.Proofs.YtdilngjolhmjnaaGreatDoor
namespace Go.Proofs.YtdilngjolhmjnaaGreatDoor
open Go.RowKit Go.Shelf
set_option linter.all false

theorem lt_amp_small : Small [60, 38] := by unfold Small; decide
/-- Taking text up to the next < or &. -/
def unref (s : K.St) : Except K.Er (List Nat × K.St) := match K.idx [93, 93, 62] (notIn [60, 38] s.1) with
  | some k => .error (21, (K.skip s k).2)
  | none => .ok (notIn [60, 38] s.1, K.skip s (notIn [60, 38] s.1).length)

set_option maxHeartbeats 8000000 in
set_option maxRecDepth 100000 in
theorem unreferred_any (b : Nat) (s : K.St) (x : X6) (w : World) (h : Rd b s x w) (hlow : Low w) (hb12 : 12 ≤ b) :
    Calls Tryz.prog 95 #[.pointer (some ⟨b, 0, none⟩)] w (Step b x w strRet (unref s)) := by
  have hlt := h.lt
  have hbf := before_any [60, 38] lt_amp_small (by decide) (by decide) b s x w h ⟨#[60, 38]⟩ rfl
  have hmt : s.1.take (notIn [60, 38] s.1).length = notIn [60, 38] s.1 := takeWhile_take _ _
  have hml := notIn_len [60, 38] s.1
  have hle := n8_take_le s.1 (notIn [60, 38] s.1).length
  have hl6 := h.1.len
  have htk0 : ∀ W, Rd b s x W → Calls Tryz.prog 61 #[.pointer (some ⟨b, 0, none⟩), .int .i64 ((U.n8 (s.1.take (notIn [60, 38] s.1).length)).length : Int)] W (Took b s x (notIn [60, 38] s.1).length W) := fun W hW => take_any _ b s x W hW _ rfl
  unfold Took at htk0
  have hU : unref s = match K.idx [93, 93, 62] (notIn [60, 38] s.1) with
    | some k => .error (21, (K.skip s k).2)
    | none => .ok (notIn [60, 38] s.1, K.skip s (notIn [60, 38] s.1).length) := rfl
  rw [hU]
  have hsl : (bs (U.n8 s.1)).extract 0 (U.n8 (notIn [60, 38] s.1)).length = bs (U.n8 (notIn [60, 38] s.1)) := by
    have e : U.n8 s.1 = U.n8 (notIn [60, 38] s.1) ++ U.n8 (s.1.drop (notIn [60, 38] s.1).length) := by
      rw [← U.n8_append]
      conv => rhs; rw [← hmt]
      rw [hmt]
      conv => lhs; rw [← List.take_append_drop (notIn [60, 38] s.1).length s.1, hmt]
    rw [bs_take, e, List.take_left' rfl]
  have hmsc : K.Sc (notIn [60, 38] s.1) := by rw [← hmt]; exact fun c hc => h.1.sc c (List.mem_of_mem_take hc)
  rw [hmt] at hbf htk0 hle
  have htake : ∀ k, k ≤ (notIn [60, 38] s.1).length → (notIn [60, 38] s.1).take k = s.1.take k := by
    intro k hk
    conv => lhs; rw [← hmt]
    rw [List.take_take, Nat.min_eq_left hk]
  generalize notIn [60, 38] s.1 = m at hbf htk0 hle hsl hmsc htake hml ⊢
  have HI : Hid (∀ W, Below w.heap.size w W → Calls Tryz.prog 90 #[.string (bs (U.n8 m)), .string ⟨#[93, 93, 62]⟩] W fun e w' => e = .returned (.int .i64 (match K.idx [93, 93, 62] m with | none => -1 | some k => ((U.n8 (m.take k)).length : Int))) ∧ W = w') :=
    Lib.hid fun W hW => index_call [93, 93, 62] sec_small (by simp) m hmsc (by omega) W (hlow.below hW (by omega))
  have R0 := Lib.hid h
  have hsz := bs_size (U.n8 s.1)
  have hcell : ∀ W, Below w.heap.size w W → W.cell? ⟨b, 0, none⟩ = some (.string (bs (U.n8 s.1))) := fun W hW => (h.below hW).cells.1
  cases hi : K.idx [93, 93, 62] m with
  | none =>
    rw [hi] at HI
    have HI : Hid (∀ W, Below w.heap.size w W → Calls Tryz.prog 90 #[.string (bs (U.n8 m)), .string ⟨#[93, 93, 62]⟩] W fun e w' => e = .returned (.int .i64 (-1)) ∧ W = w') := HI
    have HT := Lib.hid htk0
    obtain ⟨L, hL⟩ : ∃ L, (U.n8 m).length = L := ⟨_, rfl⟩
    rw [hL] at hbf hsl HT hle
    have hLz : (L : Int) ≤ ((bs (U.n8 s.1)).size : Int) := by omega
    have hL6 : L ≤ 65536 := by omega
    clear hi h hlow hU hmt htk0 hmsc hml hL htake
    generalize bs (U.n8 s.1) = R at hsl hsz hLz hcell
    have HC := Lib.hid hcell
    clear hsz hl6 hle hcell
    go_enter Tryz.func95, Tryz.ntmps95
    go_wp2_with (first
      | (go_at_call 106; refine hbf.mono ?_; rintro e w1 ⟨rfl, hb1⟩; have g0 := HC.out _ hb1; have hix := HI.out _ hb1; have B1 := Lib.hid (Bar.of_below (b := b) hb1); have R1 := Lib.hid (R0.out.below hb1); have htk := HT.out _ R1.out; clear hb1)
      | (go_at_call 90; refine hix.mono ?_; rintro e w2 ⟨rfl, rfl⟩)
      | (go_at_call 61; refine htk.mono ?_; rintro e w3 ⟨rfl, hR3, hB3⟩; have R3 := Lib.hid hR3; clear hR3))
    go_ret
    exact ⟨rfl, R3.out, B1.out.trans hB3⟩
  | some k =>
    obtain ⟨_, hkm⟩ := idx_pre hi
    rw [hi] at HI
    have HI : Hid (∀ W, Below w.heap.size w W → Calls Tryz.prog 90 #[.string (bs (U.n8 m)), .string ⟨#[93, 93, 62]⟩] W fun e w' => e = .returned (.int .i64 ((U.n8 (m.take k)).length : Int)) ∧ W = w') := HI
    rw [htake k hkm] at HI
    have htk1 : ∀ W, Rd b s x W → Calls Tryz.prog 61 #[.pointer (some ⟨b, 0, none⟩), .int .i64 ((U.n8 (s.1.take k)).length : Int)] W (Took b s x k W) := fun W hW => take_any _ b s x W hW _ rfl
    unfold Took at htk1
    have HT := Lib.hid htk1
    have hk6 := n8_take_le s.1 k
    show Calls Tryz.prog 95 #[.pointer (some ⟨b, 0, none⟩)] w (Step b x w (strRet : List Nat → Value) (.error (21, (K.skip s k).2)))
    generalize K.skip s k = s1 at HT ⊢
    have HFail : Hid (∀ W, Calls Tryz.prog 17 #[.int .i64 21, .agg #[.int .i64 (s1.2.1 : Int), .int .i64 (s1.2.2 : Int)]] W fun e w' => Fell (21, s1.2) e w' ∧ Below W.heap.size W w') := Lib.hid fun W => fail_lit 21 21 rfl s1.2.1 s1.2.2 W
    obtain ⟨L, hL⟩ : ∃ L, (U.n8 m).length = L := ⟨_, rfl⟩
    obtain ⟨J, hJ⟩ : ∃ J, (U.n8 (s.1.take k)).length = J := ⟨_, rfl⟩
    rw [hL] at hbf hsl hle
    rw [hJ] at HI HT hk6
    have hLz : (L : Int) ≤ ((bs (U.n8 s.1)).size : Int) := by omega
    have hL6 : L ≤ 65536 := by omega
    have hJ6 : J ≤ 65536 := by omega
    clear hi h hlow hU hmt htk0 hmsc hml hL htake htk1 hJ hk6
    generalize bs (U.n8 s.1) = R at hsl hsz hLz hcell
    have HC := Lib.hid hcell
    clear hsz hl6 hle hcell
    go_enter Tryz.func95, Tryz.ntmps95
    go_wp2_with (first
      | (go_at_call 106; refine hbf.mono ?_; rintro e w1 ⟨rfl, hb1⟩; have g0 := HC.out _ hb1; have hix := HI.out _ hb1; have B1 := Lib.hid (Bar.of_below (b := b) hb1); have R1 := Lib.hid (R0.out.below hb1); have htk := HT.out _ R1.out; clear hb1)
      | (go_at_call 90; refine hix.mono ?_; rintro e w2 ⟨rfl, rfl⟩)
      | (go_at_call 61; refine htk.mono ?_; rintro e w3 ⟨rfl, hR3, hB3⟩; obtain ⟨_, k1, k2⟩ := hR3.cells; have hfl := HFail.out w3; have B3 := Lib.hid (B1.out.trans hB3); clear hR3 hB3)
      | (go_at_call 17; refine hfl.mono ?_; rintro e w4 ⟨⟨fb, rfl, hfc⟩, hfb⟩))
    exact ⟨rfl, ⟨_, rfl, hfc⟩, B3.out.bel hfb⟩
end Go.Proofs.YtdilngjolhmjnaaGreatDoor
namespace Go.Proofs.YtdilngjolhmjnaaGreatDoor
open Go.RowKit Go.Shelf
set_option linter.all false

theorem blank_byte {c : Nat} (hs : U.scalar c) : ∃ b0 t, U.enc c = b0 :: t ∧ K.blank b0.toNat = K.blank c := by
  by_cases hc : c < 128
  · exact ⟨UInt8.ofNat c, [], K.enc_low hc, by rw [K.toNat_ofNat (by omega)]⟩
  · obtain ⟨b0, t, e, hb, _⟩ := K.enc_high (Nat.le_of_not_lt hc) hs
    refine ⟨b0, t, e, ?_⟩
    have h1 : K.blank b0.toNat = false := by unfold K.blank; simp; omega
    have h2 : K.blank c = false := by unfold K.blank; simp; omega
    rw [h1, h2]
theorem decl_small : Small K.kXmlDecl := by unfold Small; decide
theorem decl_n8 : U.n8 K.kXmlDecl = [60, 63, 120, 109, 108] := by decide +kernel

set_option maxHeartbeats 4000000 in
set_option maxRecDepth 100000 in
theorem declares_any (b : Nat) (s : K.St) (x : X6) (w : World) (h : Rd b s x w) :
    Calls Tryz.prog 37 #[.pointer (some ⟨b, 0, none⟩)] w fun e w' => e = .returned (.bool (K.declares s)) ∧ w = w' := by
  obtain ⟨c0, c1, c2⟩ := h.cells
  have hse := sees_any K.kXmlDecl decl_small b s x w h ⟨#[60, 63, 120, 109, 108]⟩ rfl
  have hsc := h.1.sc
  have hl6 := h.1.len
  obtain ⟨l, p⟩ := s
  have hd : K.declares (l, p) = (K.sees K.kXmlDecl (l, p) && (match l.drop 5 with | [] => false | c :: _ => K.blank c)) := rfl
  rw [hd]
  cases hs : K.sees K.kXmlDecl (l, p) with
  | false =>
    rw [hs] at hse
    simp only [Bool.false_and]
    clear h hs hd
    go_enter Tryz.func37, Tryz.ntmps37
    go_wp2_with (go_at_call 59; (with_reducible refine hse.mono ?_); rintro e w' ⟨rfl, rfl⟩)
    go_ret
    exact ⟨rfl, rfl⟩
  | true =>
    rw [hs] at hse
    obtain ⟨r, rfl⟩ : ∃ r, l = K.kXmlDecl ++ r := by
      obtain ⟨r, hr⟩ := List.isPrefixOf_iff_prefix.1 (show K.kXmlDecl.isPrefixOf l = true from hs)
      exact ⟨r, hr.symm⟩
    have hdr : (K.kXmlDecl ++ r).drop 5 = r := rfl
    rw [hdr]
    simp only [Bool.true_and]
    have hn : U.n8 (K.kXmlDecl ++ r) = [60, 63, 120, 109, 108] ++ U.n8 r := by rw [U.n8_append, decl_n8]
    have hsz := bs_size (U.n8 (K.kXmlDecl ++ r))
    simp only at c0 hl6
    rw [hn] at c0 hsz hl6
    have hscr : K.Sc r := fun c hc => hsc c (List.mem_append_right _ hc)
    clear h hs hd hn hdr
    cases r with
    | nil =>
      have hsz5 : ((bs ([60, 63, 120, 109, 108] ++ U.n8 [])).size : Int) = 5 := rfl
      generalize bs ([60, 63, 120, 109, 108] ++ U.n8 []) = R at c0 hsz5
      clear hsz
      go_enter Tryz.func37, Tryz.ntmps37
      go_wp2_with (go_at_call 59; (with_reducible refine hse.mono ?_); rintro e w' ⟨rfl, rfl⟩)
      go_ret
      exact ⟨rfl, rfl⟩
    | cons c r =>
      obtain ⟨b0, t, e, hb⟩ := blank_byte hscr.head
      have hn2 : U.n8 (c :: r) = b0 :: (t ++ U.n8 r) := by rw [U.n8_cons, e]; rfl
      rw [hn2] at c0 hsz hl6
      have hbl := isBlank_any b0.toNat (by have := UInt8.toNat_lt b0; omega)
      rw [hb] at hbl
      obtain ⟨kk, hkk⟩ : ∃ kk, K.blank c = kk := ⟨_, rfl⟩
      rw [hkk] at hbl
      have HKK := Lib.hid hkk
      clear hkk
      have hz5 : 5 < (bs ([60, 63, 120, 109, 108] ++ b0 :: (t ++ U.n8 r))).size := by rw [hsz]; simp
      have hget : (bs ([60, 63, 120, 109, 108] ++ b0 :: (t ++ U.n8 r)))[5] = b0 := rfl
      have hz6 : (bs ([60, 63, 120, 109, 108] ++ b0 :: (t ++ U.n8 r))).size ≤ 65536 := by rw [hsz]; exact hl6
      generalize bs ([60, 63, 120, 109, 108] ++ b0 :: (t ++ U.n8 r)) = R at c0 hz5 hget hz6
      clear hsz hl6
      have hb8 := UInt8.toNat_lt b0
      have hb9 : (b0.toNat : Int) < 256 := by omega
      have hz7 : (5 : Int) < (R.size : Int) := by omega
      go_enter Tryz.func37, Tryz.ntmps37
      go_wp2_with (first
        | (go_at_call 59; (with_reducible refine hse.mono ?_); rintro e w' ⟨rfl, rfl⟩)
        | (go_at_call 60; refine (hbl _).mono ?_; rintro e w' ⟨rfl, rfl⟩))
      go_ret
      refine ⟨?_, rfl⟩
      show _ = Ending.returned (.bool (K.blank c))
      rw [HKK.out]
      rfl
end Go.Proofs.YtdilngjolhmjnaaGreatDoor
