/- esnum's digits: one more is taken. Conditions: those that each theorem names. esnum's digits ahead of the point. Conditions: those that each theorem names. esnum's digits behind the point. Conditions: those that each theorem names. esnum's sign. Conditions: those that each theorem names. -/
import Derived.Test.YtelphbcdjfdjpaaGreatDoorZ19
namespace Go.Proofs.YtelphbcdjfdjpaaGreatDoor
open Go.RowKit
set_option linter.all false

/-- A number's digits as the reader of decimals keeps them, in block b. -/
def Frac (B b : Nat) (ds : List UInt8) (more : Bool) (pw : Int) (w : World) : Prop :=
  B ≤ b ∧ ∃ v, w.heap[b]? = some (.cells #[v, .bool more, .int .i64 pw] 133 (0, 0)) ∧ w.ownsRowF B 5 1 v ds.length (Lib.byteCells ds) ∧ v.ownBlock ≠ some b
def takeD (d : UInt8) (ds : List UInt8) (more : Bool) : List UInt8 × Bool := if ds = [] ∧ d = 48 then (ds, more) else if ds.length < 768 then (ds ++ [d], more) else (ds, more || d != 48)
theorem frac_slice {B : Nat} {ds : List UInt8} {v : Value} {w : World} (h : w.ownsRowF B 5 1 v ds.length (Lib.byteCells ds)) : ∃ ao cap, v = .slice ao ds.length cap := by
  rcases h.2 with ⟨hv, h0⟩ | ⟨g, cap, cur, fz, hv, _⟩
  · exact ⟨none, 0, by rw [hv, h0]⟩
  · exact ⟨_, cap, hv⟩
theorem frac_put {B b i : Nat} {ds : List UInt8} {more : Bool} {pw : Int} {v v0 m0 p0 x : Value} {w : World} (hB : B ≤ b) (hb : w.heap[b]? = some (.cells #[v0, m0, p0] 133 (0, 0))) (hown : w.ownsRowF B 5 1 v ds.length (Lib.byteCells ds))
    (hset : (#[v0, m0, p0] : Array Value).setIfInBounds i x = #[v, .bool more, .int .i64 pw]) : Frac B b ds more pw (w.setCell ⟨b, i, none⟩ x) := by
  have hne : ∀ g cur fz, w.heap[g]? = some (.cells cur 5 fz) → g ≠ b := by
    rintro g cur fz h rfl
    rw [hb] at h
    injection h with h
    injection h with _ h _
    exact absurd h (by decide)
  have hk : ∀ g, g ≠ b → (w.setCell ⟨b, i, none⟩ x).heap[g]? = w.heap[g]? := fun g h => by
    unfold World.setCell
    simp only [Array.getElem?_modify]
    rw [if_neg (fun e => h e.symm)]
  refine ⟨hB, v, ?_, ⟨hown.1, ?_⟩, ?_⟩
  · rw [heap_set hb i x, hset]
  · rcases hown.2 with hn | ⟨g, cap, cur, fz, hv, hg, hh, rest⟩
    · exact .inl hn
    · exact .inr ⟨g, cap, cur, fz, hv, hg, by rw [hk g (hne g cur fz hh)]; exact hh, rest⟩
  · rcases hown.2 with ⟨hv, _⟩ | ⟨g, cap, cur, fz, hv, hg, hh, rest⟩
    · rw [hv]; intro h; cases h
    · rw [hv]
      intro h
      exact hne g cur fz hh (Option.some.inj h)
set_option maxHeartbeats 2000000 in
theorem take_none (B b : Nat) (more : Bool) (pw : Int) (w : World) (h : Frac B b [] more pw w) :
    Calls Tryz.prog 137 #[.pointer (some ⟨b, 0, none⟩), .int .u8 48] w fun e w' => e = .returned (.tuple #[]) ∧ Frac B b [] more pw w' ∧ Below B w w' := by
  have HF := Lib.hid h
  obtain ⟨hB, v, hbk, hown, hne⟩ := h
  obtain ⟨ao, cap, rfl⟩ := frac_slice hown
  have c0 : w.cell? ⟨b, 0, none⟩ = some (.slice ao 0 cap) := by rw [Lib.cell_of_heap hbk]; rfl
  clear hown hbk hne
  go_enter Tryz.func137, Tryz.ntmps137
  go_wp2
  go_end0
  exact ⟨rfl, HF.out, Below.refl _ _⟩
set_option maxHeartbeats 2000000 in
theorem take_more (B b : Nat) (d : UInt8) (ds : List UInt8) (more : Bool) (pw : Int) (w : World) (hd : 768 ≤ ds.length) (hd2 : ds.length ≤ 140737488355328) (h : Frac B b ds more pw w) :
    Calls Tryz.prog 137 #[.pointer (some ⟨b, 0, none⟩), .int .u8 (d.toNat : Int)] w fun e w' => e = .returned (.tuple #[]) ∧ Frac B b ds (more || d != 48) pw w' ∧ Below B w w' := by
  have HF := Lib.hid h
  obtain ⟨hB, v, hbk, hown, hne⟩ := h
  obtain ⟨ao, cap, rfl⟩ := frac_slice hown
  have c0 : w.cell? ⟨b, 0, none⟩ = some (.slice ao ds.length cap) := by rw [Lib.cell_of_heap hbk]; rfl
  have f1 : w.frozen? ⟨b, 1, none⟩ = false := Lib.frozen_of_heap hbk 1
  have c1 : w.cell? ⟨b, 1, none⟩ = some (.bool more) := by rw [Lib.cell_of_heap hbk]; rfl
  have HO := Lib.hid hown
  have HK := Lib.hid hbk
  have HN := Lib.hid hne
  have i1 : ((ds.length : Int) == 0) = false := beq_eq_false_iff_ne.2 (by omega)
  have i2 : ¬ (ds.length : Int) < 768 := by omega
  have hv : d.toNat < 256 := UInt8.toNat_lt _
  clear hown hbk hne
  by_cases h48 : d = 48
  · subst h48
    have hm : (more || (48 : UInt8) != 48) = more := by simp
    rw [hm]
    go_enter Tryz.func137, Tryz.ntmps137
    go_wp2
    go_end0
    exact ⟨rfl, HF.out, Below.refl _ _⟩
  · have hm : (more || d != 48) = true := by simp [h48]
    rw [hm]
    have h2 : ¬ d.toNat = 48 := fun e => h48 (UInt8.toNat_inj.1 e)
    have h3 : ¬ (d.toNat : Int) = 48 := by omega
    clear hm h48
    go_enter Tryz.func137, Tryz.ntmps137
    go_wp2
    go_end0
    exact ⟨rfl, frac_put hB HK.out HO.out rfl, (Below.refl _ _).setCell (p := ⟨b, 1, none⟩) hB _⟩
set_option maxHeartbeats 2000000 in
theorem take_one (B b : Nat) (d : UInt8) (ds : List UInt8) (more : Bool) (pw : Int) (w : World) (hd : ds.length < 768) (hd2 : ds = [] → d ≠ 48) (h : Frac B b ds more pw w) (hBw : B ≤ w.heap.size) :
    Calls Tryz.prog 137 #[.pointer (some ⟨b, 0, none⟩), .int .u8 (d.toNat : Int)] w fun e w' => e = .returned (.tuple #[]) ∧ Frac B b (ds ++ [d]) more pw w' ∧ Below B w w' := by
  obtain ⟨i0, hi, hz0, hz1, hz2⟩ := info_parts Tryz.Builder_Extra_169.infoByte
  obtain ⟨hB, v, hbk, hown, hne⟩ := h
  obtain ⟨ao, cap, hv⟩ := frac_slice hown
  have c0 : w.cell? ⟨b, 0, none⟩ = some v := by rw [Lib.cell_of_heap hbk]; rfl
  have i2 : (ds.length : Int) < 768 := by omega
  have hvd : d.toNat < 256 := UInt8.toNat_lt _
  have HK := Lib.hid hbk
  have HN := Lib.hid hne
  have HO := Lib.hid hown
  clear hbk hne hown
  subst hv
  by_cases hds : ds = []
  · have h48 := hd2 hds
    have h2 : ¬ d.toNat = 48 := fun e => h48 (UInt8.toNat_inj.1 e)
    have h3 : ¬ (d.toNat : Int) = 48 := by omega
    have h4 : ((d.toNat : Int) == 48) = false := beq_eq_false_iff_ne.2 h3
    subst hds
    clear h48 hd2 h3 h2
    go_enter Tryz.func137, Tryz.ntmps137
    go_wp2_with (at_builtin; refine wpList_append_ownF _ rfl _ _ 87 rfl B 5 i0 (.int .u8 0) 1 1 Tryz.underlying87 hi hz0 hz1 hz2 rfl (by decide) _ _ _ rfl (HO.out.alloc _) ⟨w.heap.size, 0, none⟩ 1 1 [.int .u8 (d.toNat : Int)] rfl rfl ?c1 ?c2 ?c3 ?c4 ?c5 ?_)
    case c1 =>
      intro j u hj
      match j, hj with
      | 0, hj => simp at hj; subst hj; simp [Addr.add]
    case c2 => intro u hu; simp at hu; subst hu; rfl
    case c3 => unfold maxLen; omega
    case c4 => omega
    case c5 => simp; omega
    intro v' w2 hown' hgrow _
    have hlt : b < w.heap.size := lt_of_heap HK.out
    have hb2 : w2.heap[b]? = some (.cells #[.slice ao 0 cap, .bool more, .int .i64 pw] 133 (0, 0)) := by
      rw [hgrow.block b (by simp; omega) (fun e => HN.out e.symm), Lib.alloc_old w _ b hlt]
      exact HK.out
    have f0 : w2.frozen? ⟨b, 0, none⟩ = false := Lib.frozen_of_heap hb2 0
    have d0 : w2.cell? ⟨b, 0, none⟩ = some (.slice ao 0 cap) := by rw [Lib.cell_of_heap hb2]; rfl
    have hb3 : Below B w w2 := ((Below.refl B w).alloc hBw _).grown hgrow (by simp; omega) (fun k hk => (HO.out.lt k hk).1)
    obtain ⟨ao2, n2, cap2, rfl⟩ : ∃ ao2 n2 cap2, v' = .slice ao2 n2 cap2 := by
      rcases hown'.2 with ⟨hv, _⟩ | ⟨g, cap2, cur, fz, hv, _⟩
      · exact ⟨none, 0, 0, hv⟩
      · exact ⟨_, _, cap2, hv⟩
    have HB2 := Lib.hid hb2
    have HO2 := Lib.hid hown'
    have HB3 := Lib.hid hb3
    clear hb2 hown' hb3 hgrow hi hz0 hz1 hz2 c0
    go_wp2
    go_end0
    exact ⟨rfl, frac_put hB HB2.out (by simpa [Lib.byteCells] using HO2.out) rfl, HB3.out.setCell (p := ⟨b, 0, none⟩) hB _⟩
  · have h5 : ((ds.length : Int) == 0) = false := by
      have : ds.length ≠ 0 := fun e => hds (List.length_eq_zero_iff.1 e)
      exact beq_eq_false_iff_ne.2 (by omega)
    go_enter Tryz.func137, Tryz.ntmps137
    go_wp2_with (at_builtin; refine wpList_append_ownF _ rfl _ _ 87 rfl B 5 i0 (.int .u8 0) 1 1 Tryz.underlying87 hi hz0 hz1 hz2 rfl (by decide) _ _ _ rfl (HO.out.alloc _) ⟨w.heap.size, 0, none⟩ 1 1 [.int .u8 (d.toNat : Int)] rfl rfl ?c1 ?c2 ?c3 ?c4 ?c5 ?_)
    case c1 =>
      intro j u hj
      match j, hj with
      | 0, hj => simp at hj; subst hj; simp [Addr.add]
    case c2 => intro u hu; simp at hu; subst hu; rfl
    case c3 => unfold maxLen; omega
    case c4 => omega
    case c5 => simp; omega
    intro v' w2 hown' hgrow _
    have hlt : b < w.heap.size := lt_of_heap HK.out
    have hb2 : w2.heap[b]? = some (.cells #[.slice ao ds.length cap, .bool more, .int .i64 pw] 133 (0, 0)) := by
      rw [hgrow.block b (by simp; omega) (fun e => HN.out e.symm), Lib.alloc_old w _ b hlt]
      exact HK.out
    have f0 : w2.frozen? ⟨b, 0, none⟩ = false := Lib.frozen_of_heap hb2 0
    have d0 : w2.cell? ⟨b, 0, none⟩ = some (.slice ao ds.length cap) := by rw [Lib.cell_of_heap hb2]; rfl
    have hb3 : Below B w w2 := ((Below.refl B w).alloc hBw _).grown hgrow (by simp; omega) (fun k hk => (HO.out.lt k hk).1)
    obtain ⟨ao2, n2, cap2, rfl⟩ : ∃ ao2 n2 cap2, v' = .slice ao2 n2 cap2 := by
      rcases hown'.2 with ⟨hv, _⟩ | ⟨g, cap2, cur, fz, hv, _⟩
      · exact ⟨none, 0, 0, hv⟩
      · exact ⟨_, _, cap2, hv⟩
    have HB2 := Lib.hid hb2
    have HO2 := Lib.hid hown'
    have HB3 := Lib.hid hb3
    clear hb2 hown' hb3 hgrow hi hz0 hz1 hz2 c0
    go_wp2
    go_end0
    exact ⟨rfl, frac_put hB HB2.out (by simpa [Lib.byteCells] using HO2.out) rfl, HB3.out.setCell (p := ⟨b, 0, none⟩) hB _⟩
theorem take_any (B b : Nat) (d : UInt8) (ds : List UInt8) (more : Bool) (pw : Int) (w : World) (hds : ds.length ≤ 140737488355328) (h : Frac B b ds more pw w) (hBw : B ≤ w.heap.size) :
    Calls Tryz.prog 137 #[.pointer (some ⟨b, 0, none⟩), .int .u8 (d.toNat : Int)] w fun e w' => e = .returned (.tuple #[]) ∧ Frac B b (takeD d ds more).1 (takeD d ds more).2 pw w' ∧ Below B w w' := by
  unfold takeD
  by_cases h0 : ds = [] ∧ d = 48
  · rw [if_pos h0]
    obtain ⟨rfl, rfl⟩ := h0
    exact take_none B b more pw w h
  · rw [if_neg h0]
    by_cases h1 : ds.length < 768
    · rw [if_pos h1]
      exact take_one B b d ds more pw w h1 (fun e1 e2 => h0 ⟨e1, e2⟩) h hBw
    · rw [if_neg h1]
      exact take_more B b d ds more pw w (by omega) hds h
theorem numDigit_any (u : Int) (w : World) : Calls Tryz.prog 136 #[.int .i64 u] w fun e w' => e = .returned (.bool (decide (48 ≤ u) && decide (u ≤ 57))) ∧ w' = w := by
  by_cases h1 : 48 ≤ u
  · by_cases h2 : u ≤ 57
    · rw [decide_eq_true h1, decide_eq_true h2]
      go_enter Tryz.func136, Tryz.ntmps136
      go_wp2
      go_ret
      exact ⟨rfl, rfl⟩
    · rw [decide_eq_true h1, decide_eq_false h2]
      go_enter Tryz.func136, Tryz.ntmps136
      go_wp2
      go_ret
      exact ⟨rfl, rfl⟩
  · rw [decide_eq_false h1]
    go_enter Tryz.func136, Tryz.ntmps136
    go_wp2
    go_ret
    exact ⟨rfl, rfl⟩
end Go.Proofs.YtelphbcdjfdjpaaGreatDoor
namespace Go.Proofs.YtelphbcdjfdjpaaGreatDoor
open Go.RowKit
set_option linter.all false

/-- The digits from i on that s shows, taken. -/
def frontF (s : Nat → Int) : Nat → Nat → List UInt8 → Bool → Int → Nat × List UInt8 × Bool × Int
  | 0, i, ds, m, p => (i, ds, m, p)
  | f + 1, i, ds, m, p => if 48 ≤ s i ∧ s i ≤ 57 then
      frontF s f (i + 1) (takeD (UInt8.ofNat (s i).toNat) ds m).1 (takeD (UInt8.ofNat (s i).toNat) ds m).2 (if 0 < (takeD (UInt8.ofNat (s i).toNat) ds m).1.length then p + 1 else p)
    else (i, ds, m, p)
theorem Frac.drewN {B b : Nat} {ds : List UInt8} {m : Bool} {p : Int} {w : World} (h : Frac B b ds m p w) (n : Nat) : Frac B b ds m p (w.drewN n) := h
theorem Frac.cells {B b : Nat} {ds : List UInt8} {m : Bool} {p : Int} {w : World} (h : Frac B b ds m p w) : ∃ ao cap, w.cell? ⟨b, 0, none⟩ = some (.slice ao ds.length cap) ∧ w.cell? ⟨b, 1, none⟩ = some (.bool m) ∧ w.cell? ⟨b, 2, none⟩ = some (.int .i64 p) ∧ w.frozen? ⟨b, 2, none⟩ = false := by
  obtain ⟨hB, v, hbk, hown, hne⟩ := h
  obtain ⟨ao, cap, rfl⟩ := frac_slice hown
  exact ⟨ao, cap, by rw [Lib.cell_of_heap hbk]; rfl, by rw [Lib.cell_of_heap hbk]; rfl, by rw [Lib.cell_of_heap hbk]; rfl, Lib.frozen_of_heap hbk 2⟩
theorem Frac.setPower {B b : Nat} {ds : List UInt8} {m : Bool} {p q : Int} {w : World} (h : Frac B b ds m p w) : Frac B b ds m q (w.setCell ⟨b, 2, none⟩ (.int .i64 q)) := by
  obtain ⟨hB, v, hbk, hown, hne⟩ := h
  exact frac_put hB hbk hown rfl

set_option maxHeartbeats 4000000 in
theorem front_any (S : ByteArray) (hS : S.size ≤ 140737488355328) (fr to a b c B q f i0 : Nat) (ht : 2 * to ≤ S.size) (hft : fr ≤ to) (hto : to ≤ 1000000) (ha : a < B) (hb : b < B) (hc : c < B) (ds0 : List UInt8) (m0 : Bool) (p0 : Int) (w : World)
    (hl : LookS S fr to a b c w) (hF : Frac B q ds0 m0 p0 w) (hBw : B ≤ w.heap.size) (hi : i0 ≤ to) (hds : ds0.length ≤ i0) (hp : -2000000 ≤ p0) (hp2 : p0 ≤ i0) (hf : to + 1 ≤ i0 + f) :
    Calls Tryz.prog 124 #[.pointer (some ⟨q, 0, none⟩), .func (.func 98) #[] #[.pointer (some ⟨a, 0, none⟩), .pointer (some ⟨b, 0, none⟩), .pointer (some ⟨c, 0, none⟩)], .int .i64 (i0 : Int)] w
      fun e w' => e = .returned (.int .i64 ((frontF (seenAt S fr to) f i0 ds0 m0 p0).1 : Int)) ∧ Frac B q (frontF (seenAt S fr to) f i0 ds0 m0 p0).2.1 (frontF (seenAt S fr to) f i0 ds0 m0 p0).2.2.1 (frontF (seenAt S fr to) f i0 ds0 m0 p0).2.2.2 w' ∧ Below B w w' := by
  obtain ⟨R, hR⟩ : ∃ R, frontF (seenAt S fr to) f i0 ds0 m0 p0 = R := ⟨_, rfl⟩
  rw [hR]
  have HR := Lib.hid hR
  have HF := Lib.hid hF
  have HL := Lib.hid hl
  clear hR hF hl
  go_enter Tryz.func124, Tryz.ntmps124
  go_wp2
  go_loopg [2] f (fun g v wr => ∃ (F i : Nat) (ds : List UInt8) (m : Bool) (p : Int), F = g ∧ v = .int .i64 (i : Int) ∧ i ≤ to + 1 ∧ to + 1 ≤ i + F ∧ ds.length ≤ i ∧ -2000000 ≤ p ∧ p ≤ i ∧ Hid (frontF (seenAt S fr to) F i ds m p = R) ∧ Hid (Frac B q ds m p wr) ∧ Hid (Below B w wr))
  case atStart => exact ⟨_, i0, ds0, m0, p0, rfl, rfl, by omega, hf, hds, hp, hp2, HR, HF, Lib.hid (Below.refl _ _)⟩
  case round =>
    obtain ⟨F, i, ds, m, p, hFg, rfl, hi1, hg, hdl, hp3, hp4, hRr, hFr, hBr⟩ := hrel
    have hlr := LookS.keep HL.out hBr.out ha hb hc
    have HLR := Lib.hid hlr
    have hlk := look_any S hS fr to a b c i ht (by omega) hft
    obtain ⟨u, hu⟩ : ∃ u, seenAt S fr to i = u := ⟨_, rfl⟩
    rw [hu] at hlk
    have hdg := numDigit_any u
    by_cases hdd : 48 ≤ u ∧ u ≤ 57
    · have hdt : (decide (48 ≤ u) && decide (u ≤ 57)) = true := by
        rw [decide_eq_true hdd.1, decide_eq_true hdd.2]; rfl
      rw [hdt] at hdg
      have hit : fr + i < to := by
        unfold seenAt at hu
        split at hu
        · assumption
        · omega
      obtain ⟨F, rfl⟩ : ∃ F', F = F' + 1 := ⟨F - 1, by omega⟩
      obtain ⟨d, hd⟩ : ∃ d : UInt8, d = UInt8.ofNat u.toNat := ⟨_, rfl⟩
      have hud : (d.toNat : Int) = u := by
        rw [hd, UInt8.toNat_ofNat']
        omega
      have hRn := hRr.out
      unfold frontF at hRn
      rw [hu, if_pos hdd, ← hd] at hRn
      obtain ⟨T, hT⟩ : ∃ T, takeD d ds m = T := ⟨_, rfl⟩
      rw [hT] at hRn
      have hTl : T.1.length ≤ i + 1 := by
        rw [← hT]
        unfold takeD
        split
        · show ds.length ≤ _; omega
        · split
          · show (ds ++ [d]).length ≤ _; rw [List.length_append]; show ds.length + 1 ≤ _; omega
          · show ds.length ≤ _; omega
      have htk := fun W (hW : Frac B q ds m p W) (hBW : B ≤ W.heap.size) => take_any B q d ds m p W (by omega) hW hBW
      rw [hT] at htk
      have HT := Lib.hid htk
      have HRn := Lib.hid hRn
      have hw8 : IntKind.u8.wrap u = u := IntWalk.u8_in _ (by omega)
      rw [← hud] at hlk hdg hw8
      clear hu hdt hdd hlr htk hRn hRr hd hT hud
      have hBs : B ≤ wr.heap.size := Nat.le_trans hBw hBr.out.size
      have hw1 : IntKind.i64.wrap (p + 1) = p + 1 := IntWalk.i64_in _ (by omega)
      have hw2 : IntKind.i64.wrap ((i : Int) + 1) = (i : Int) + 1 := IntWalk.i64_in _ (by omega)
      by_cases hTp : 0 < T.1.length
      · have hTi : (0 : Int) < (T.1.length : Int) := by omega
        rw [if_pos hTp] at HRn
        clear hTp
        go_wp2_with (first | ((with_reducible refine (hlk _ HLR.out).mono ?_); rintro e w2 ⟨rfl, n, rfl⟩) | ((with_reducible refine (hdg _).mono ?_); rintro e w2 ⟨rfl, rfl⟩) | ((with_reducible refine (hlk _ (HLR.out.drewN _)).mono ?_); rintro e w2 ⟨rfl, n2, rfl⟩) | (go_at_call 137; refine (HT.out _ (Frac.drewN hFr.out _) hBs).mono ?_; rintro e w3 ⟨rfl, hF3, hb3⟩; obtain ⟨ao, cap, c0, c1, c2, f2⟩ := hF3.cells; have HF3 := Lib.hid hF3; have HB3 := Lib.hid (hBr.out.trans ((belN (Below.refl _ _) _).trans hb3)); clear hF3 hb3))
        go_roundg F
        case measure => omega
        case rel => exact ⟨F, i + 1, T.1, T.2, _, rfl, by go_num, by omega, by omega, hTl, by omega, by omega, HRn, Lib.hid (Frac.setPower HF3.out), Lib.hid (HB3.out.setCell (p := ⟨q, 2, none⟩) HF3.out.1 _)⟩
      · have hTi : ¬ (0 : Int) < (T.1.length : Int) := by omega
        rw [if_neg hTp] at HRn
        clear hTp
        go_wp2_with (first | ((with_reducible refine (hlk _ HLR.out).mono ?_); rintro e w2 ⟨rfl, n, rfl⟩) | ((with_reducible refine (hdg _).mono ?_); rintro e w2 ⟨rfl, rfl⟩) | ((with_reducible refine (hlk _ (HLR.out.drewN _)).mono ?_); rintro e w2 ⟨rfl, n2, rfl⟩) | (go_at_call 137; refine (HT.out _ (Frac.drewN hFr.out _) hBs).mono ?_; rintro e w3 ⟨rfl, hF3, hb3⟩; obtain ⟨ao, cap, c0, c1, c2, f2⟩ := hF3.cells; have HF3 := Lib.hid hF3; have HB3 := Lib.hid (hBr.out.trans ((belN (Below.refl _ _) _).trans hb3)); clear hF3 hb3))
        go_roundg F
        case measure => omega
        case rel => exact ⟨F, i + 1, T.1, T.2, _, rfl, by go_num, by omega, by omega, hTl, by omega, by omega, HRn, HF3, HB3⟩
    · have hdf : (decide (48 ≤ u) && decide (u ≤ 57)) = false := by
        rw [Bool.and_eq_false_iff, decide_eq_false_iff_not, decide_eq_false_iff_not]; omega
      rw [hdf] at hdg
      have hend : Hid (R = (i, ds, m, p)) := Lib.hid (by
        rw [← show _ = R from hRr.out]
        cases F with
        | zero => rfl
        | succ F => unfold frontF; rw [hu, if_neg hdd])
      clear hu hdf hdd hlr
      go_wp2_with (first | ((with_reducible refine (hlk _ HLR.out).mono ?_); rintro e w2 ⟨rfl, n, rfl⟩) | ((with_reducible refine (hdg _).mono ?_); rintro e w2 ⟨rfl, rfl⟩))
      go_ret
      rw [show R = _ from hend.out]
      exact ⟨rfl, Frac.drewN hFr.out n, belN hBr.out n⟩
end Go.Proofs.YtelphbcdjfdjpaaGreatDoor
namespace Go.Proofs.YtelphbcdjfdjpaaGreatDoor
open Go.RowKit
set_option linter.all false

/-- The digits from i on that s shows, taken behind the point. -/
def backF (s : Nat → Int) : Nat → Nat → List UInt8 → Bool → Int → Nat × List UInt8 × Bool × Int
  | 0, i, ds, m, p => (i, ds, m, p)
  | f + 1, i, ds, m, p => if 48 ≤ s i ∧ s i ≤ 57 then
      backF s f (i + 1) (takeD (UInt8.ofNat (s i).toNat) ds m).1 (takeD (UInt8.ofNat (s i).toNat) ds m).2 (if (takeD (UInt8.ofNat (s i).toNat) ds m).1.length = 0 then p - 1 else p)
    else (i, ds, m, p)
set_option maxHeartbeats 4000000 in
theorem back_any (S : ByteArray) (hS : S.size ≤ 140737488355328) (fr to a b c B q f i0 : Nat) (ht : 2 * to ≤ S.size) (hft : fr ≤ to) (hto : to ≤ 1000000) (ha : a < B) (hb : b < B) (hc : c < B) (ds0 : List UInt8) (m0 : Bool) (p0 : Int) (w : World)
    (hl : LookS S fr to a b c w) (hF : Frac B q ds0 m0 p0 w) (hBw : B ≤ w.heap.size) (hi : i0 ≤ to) (hds : ds0.length ≤ i0) (hp : -2000000 ≤ p0 + i0) (hp2 : p0 ≤ 2000000) (hf : to + 1 ≤ i0 + f) :
    Calls Tryz.prog 125 #[.pointer (some ⟨q, 0, none⟩), .func (.func 98) #[] #[.pointer (some ⟨a, 0, none⟩), .pointer (some ⟨b, 0, none⟩), .pointer (some ⟨c, 0, none⟩)], .int .i64 (i0 : Int)] w
      fun e w' => e = .returned (.int .i64 ((backF (seenAt S fr to) f i0 ds0 m0 p0).1 : Int)) ∧ Frac B q (backF (seenAt S fr to) f i0 ds0 m0 p0).2.1 (backF (seenAt S fr to) f i0 ds0 m0 p0).2.2.1 (backF (seenAt S fr to) f i0 ds0 m0 p0).2.2.2 w' ∧ Below B w w' := by
  obtain ⟨R, hR⟩ : ∃ R, backF (seenAt S fr to) f i0 ds0 m0 p0 = R := ⟨_, rfl⟩
  rw [hR]
  have HR := Lib.hid hR
  have HF := Lib.hid hF
  have HL := Lib.hid hl
  clear hR hF hl
  go_enter Tryz.func125, Tryz.ntmps125
  go_wp2
  go_loopg [2] f (fun g v wr => ∃ (F i : Nat) (ds : List UInt8) (m : Bool) (p : Int), F = g ∧ v = .int .i64 (i : Int) ∧ i ≤ to + 1 ∧ to + 1 ≤ i + F ∧ ds.length ≤ i ∧ -2000000 ≤ p + i ∧ p ≤ 2000000 ∧ Hid (backF (seenAt S fr to) F i ds m p = R) ∧ Hid (Frac B q ds m p wr) ∧ Hid (Below B w wr))
  case atStart => exact ⟨_, i0, ds0, m0, p0, rfl, rfl, by omega, hf, hds, hp, hp2, HR, HF, Lib.hid (Below.refl _ _)⟩
  case round =>
    obtain ⟨F, i, ds, m, p, hFg, rfl, hi1, hg, hdl, hp3, hp4, hRr, hFr, hBr⟩ := hrel
    have hlr := LookS.keep HL.out hBr.out ha hb hc
    have HLR := Lib.hid hlr
    have hlk := look_any S hS fr to a b c i ht (by omega) hft
    obtain ⟨u, hu⟩ : ∃ u, seenAt S fr to i = u := ⟨_, rfl⟩
    rw [hu] at hlk
    have hdg := numDigit_any u
    by_cases hdd : 48 ≤ u ∧ u ≤ 57
    · have hdt : (decide (48 ≤ u) && decide (u ≤ 57)) = true := by
        rw [decide_eq_true hdd.1, decide_eq_true hdd.2]; rfl
      rw [hdt] at hdg
      have hit : fr + i < to := by
        unfold seenAt at hu
        split at hu
        · assumption
        · omega
      obtain ⟨F, rfl⟩ : ∃ F', F = F' + 1 := ⟨F - 1, by omega⟩
      obtain ⟨d, hd⟩ : ∃ d : UInt8, d = UInt8.ofNat u.toNat := ⟨_, rfl⟩
      have hud : (d.toNat : Int) = u := by
        rw [hd, UInt8.toNat_ofNat']
        omega
      have hRn := hRr.out
      unfold backF at hRn
      rw [hu, if_pos hdd, ← hd] at hRn
      obtain ⟨T, hT⟩ : ∃ T, takeD d ds m = T := ⟨_, rfl⟩
      rw [hT] at hRn
      have hTl : T.1.length ≤ i + 1 := by
        rw [← hT]
        unfold takeD
        split
        · show ds.length ≤ _; omega
        · split
          · show (ds ++ [d]).length ≤ _; rw [List.length_append]; show ds.length + 1 ≤ _; omega
          · show ds.length ≤ _; omega
      have htk := fun W (hW : Frac B q ds m p W) (hBW : B ≤ W.heap.size) => take_any B q d ds m p W (by omega) hW hBW
      rw [hT] at htk
      have HT := Lib.hid htk
      have HRn := Lib.hid hRn
      have hw8 : IntKind.u8.wrap u = u := IntWalk.u8_in _ (by omega)
      rw [← hud] at hlk hdg hw8
      clear hu hdt hdd hlr htk hRn hRr hd hT hud
      have hBs : B ≤ wr.heap.size := Nat.le_trans hBw hBr.out.size
      have hw1 : IntKind.i64.wrap (p - 1) = p - 1 := IntWalk.i64_in _ (by omega)
      have hw2 : IntKind.i64.wrap ((i : Int) + 1) = (i : Int) + 1 := IntWalk.i64_in _ (by omega)
      by_cases hTp : T.1.length = 0
      · have hTi : (T.1.length : Int) = 0 := by omega
        rw [if_pos hTp] at HRn
        clear hTp
        go_wp2_with (first | ((with_reducible refine (hlk _ HLR.out).mono ?_); rintro e w2 ⟨rfl, n, rfl⟩) | ((with_reducible refine (hdg _).mono ?_); rintro e w2 ⟨rfl, rfl⟩) | ((with_reducible refine (hlk _ (HLR.out.drewN _)).mono ?_); rintro e w2 ⟨rfl, n2, rfl⟩) | (go_at_call 137; refine (HT.out _ (Frac.drewN hFr.out _) hBs).mono ?_; rintro e w3 ⟨rfl, hF3, hb3⟩; obtain ⟨ao, cap, c0, c1, c2, f2⟩ := hF3.cells; have HF3 := Lib.hid hF3; have HB3 := Lib.hid (hBr.out.trans ((belN (Below.refl _ _) _).trans hb3)); clear hF3 hb3))
        go_roundg F
        case measure => omega
        case rel => exact ⟨F, i + 1, T.1, T.2, _, rfl, by go_num, by omega, by omega, hTl, by omega, by omega, HRn, Lib.hid (Frac.setPower HF3.out), Lib.hid (HB3.out.setCell (p := ⟨q, 2, none⟩) HF3.out.1 _)⟩
      · have hTi : ((T.1.length : Int) == 0) = false := beq_eq_false_iff_ne.2 (by omega)
        rw [if_neg hTp] at HRn
        clear hTp
        go_wp2_with (first | ((with_reducible refine (hlk _ HLR.out).mono ?_); rintro e w2 ⟨rfl, n, rfl⟩) | ((with_reducible refine (hdg _).mono ?_); rintro e w2 ⟨rfl, rfl⟩) | ((with_reducible refine (hlk _ (HLR.out.drewN _)).mono ?_); rintro e w2 ⟨rfl, n2, rfl⟩) | (go_at_call 137; refine (HT.out _ (Frac.drewN hFr.out _) hBs).mono ?_; rintro e w3 ⟨rfl, hF3, hb3⟩; obtain ⟨ao, cap, c0, c1, c2, f2⟩ := hF3.cells; have HF3 := Lib.hid hF3; have HB3 := Lib.hid (hBr.out.trans ((belN (Below.refl _ _) _).trans hb3)); clear hF3 hb3))
        go_roundg F
        case measure => omega
        case rel => exact ⟨F, i + 1, T.1, T.2, _, rfl, by go_num, by omega, by omega, hTl, by omega, by omega, HRn, HF3, HB3⟩
    · have hdf : (decide (48 ≤ u) && decide (u ≤ 57)) = false := by
        rw [Bool.and_eq_false_iff, decide_eq_false_iff_not, decide_eq_false_iff_not]; omega
      rw [hdf] at hdg
      have hend : Hid (R = (i, ds, m, p)) := Lib.hid (by
        rw [← show _ = R from hRr.out]
        cases F with
        | zero => rfl
        | succ F => unfold backF; rw [hu, if_neg hdd])
      clear hu hdf hdd hlr
      go_wp2_with (first | ((with_reducible refine (hlk _ HLR.out).mono ?_); rintro e w2 ⟨rfl, n, rfl⟩) | ((with_reducible refine (hdg _).mono ?_); rintro e w2 ⟨rfl, rfl⟩))
      go_ret
      rw [show R = _ from hend.out]
      exact ⟨rfl, Frac.drewN hFr.out n, belN hBr.out n⟩
end Go.Proofs.YtelphbcdjfdjpaaGreatDoor
namespace Go.Proofs.YtelphbcdjfdjpaaGreatDoor
open Go.RowKit
set_option linter.all false

def signOf (s : Nat → Int) (i : Nat) : Bool × Nat := if s i = 45 then (true, i + 1) else if s i = 43 then (false, i + 1) else (false, i)
set_option maxHeartbeats 2000000 in
theorem signAt_any (S : ByteArray) (hS : S.size ≤ 140737488355328) (fr to a b c i : Nat) (ht : 2 * to ≤ S.size) (hft : fr ≤ to) (hi : i ≤ 1000000) (w : World) (h : LookS S fr to a b c w) :
    Calls Tryz.prog 112 #[.func (.func 98) #[] #[.pointer (some ⟨a, 0, none⟩), .pointer (some ⟨b, 0, none⟩), .pointer (some ⟨c, 0, none⟩)], .int .i64 (i : Int)] w fun e w' => e = .returned (.tuple #[.bool (signOf (seenAt S fr to) i).1, .int .i64 ((signOf (seenAt S fr to) i).2 : Int)]) ∧ ∃ n, w' = w.drewN n := by
  have hlk := look_any S hS fr to a b c i ht (by omega) hft
  unfold signOf
  generalize seenAt S fr to i = u at *
  have hw : IntKind.i64.wrap ((i : Int) + 1) = (i : Int) + 1 := IntWalk.i64_in _ (by omega)
  by_cases h1 : u = 45
  · subst h1
    rw [if_pos rfl]
    go_enter Tryz.func112, Tryz.ntmps112
    go_wp2_with ((with_reducible refine (hlk _ h).mono ?_); rintro e w2 ⟨rfl, n, rfl⟩)
    go_ret2
    exact ⟨rfl, _, rfl⟩
  · rw [if_neg h1]
    by_cases h2 : u = 43
    · subst h2
      rw [if_pos rfl]
      clear h1
      go_enter Tryz.func112, Tryz.ntmps112
      go_wp2_with ((with_reducible refine (hlk _ h).mono ?_); rintro e w2 ⟨rfl, n, rfl⟩)
      go_ret2
      exact ⟨rfl, _, rfl⟩
    · rw [if_neg h2]
      go_enter Tryz.func112, Tryz.ntmps112
      go_wp2_with ((with_reducible refine (hlk _ h).mono ?_); rintro e w2 ⟨rfl, n, rfl⟩)
      go_ret2
      exact ⟨rfl, _, rfl⟩
end Go.Proofs.YtelphbcdjfdjpaaGreatDoor
