/- Layer 8: putItem where the item is new. Conditions: those that each theorem names. Layer 8: which floats are lengths. No program. Layer 8: putLength. Conditions: those that each theorem names. -/
import Derived.Test.YtmhoebbdapjpeaaDoorY13
import GoSem.Core.Float
import Derived.KernelRfl
import Derived.Laws.FloatArith
namespace Go.Proofs.YtmhoebbdapjpeaaDoor
open Go.RowKit Go.Maps
set_option linter.all false

theorem Upd.trans {h : Nat} {sv : Value} {g : Gx} {o1 o2 : Ob} {l1 l2 : Int} {w w1 w2 : World} (U : Upd h sv g o1 l1 w w1) (hs : w.heap.size ≤ w1.heap.size) (k : ∀ g', g'.blk = g.blk → ObAt o1 g' w1 → (∀ b ∈ g'.blocks, (b ∈ g.blocks ∨ w.heap.size ≤ b) ∧ b < w1.heap.size) → Upd h sv g' o2 l2 w1 w2) : Upd h sv g o2 l2 w w2 := by
  obtain ⟨⟨g', h1, h2, h3⟩, hp, hf⟩ := U
  obtain ⟨⟨g2, i1, i2, i3⟩, hp2, hf2⟩ := k g' h1 h2 h3
  have hs2 := hf2.size
  refine ⟨⟨g2, i1.trans h1, i2, fun b hb => ⟨?_, (i3 b hb).2⟩⟩, hp2, ?_⟩
  · rcases (i3 b hb).1 with h | h
    · exact (h3 b h).1
    · exact Or.inr (Nat.le_trans hs h)
  · refine hf.trans hf2 (fun b hb => ?_)
    rcases List.mem_cons.1 hb with rfl | hb
    · exact Or.inl List.mem_cons_self
    · exact (h3 b hb).1.imp (fun h => List.mem_cons_of_mem _ h) id
set_option maxRecDepth 100000 in
set_option maxHeartbeats 2000000 in
theorem putItem_new (h : Nat) (sv : Value) (left : Nat) (o : Ob) (g : Gx) (j : Nat) (hj : o.items.length ≤ j) (hroom : j - o.items.length < left) (hleft : left ≤ 10000) (hn : o.items.length ≤ 10000) (vk : Int) (vn : Nat) (vt : List UInt8) (vr : Int) (w : World)
    (hh : HpC h sv (left : Int) w) (hgh : h ∉ g.blocks) (H : ObAt o g w) (hlt : ∀ x ∈ g.blocks, x < w.heap.size) :
    Calls Tryd.prog 50 #[.pointer (some ⟨h, 0, none⟩), .pointer (some ⟨g.blk, 0, none⟩), .int .i64 (j : Int), .agg #[.int .i64 vk, .float .f64 vn, .string (bs vt), .int .i64 vr]] w fun e w' => e = .returned (.int .i64 0) ∧
      Upd h sv g { o with items := (o.items ++ List.replicate (j + 1 - o.items.length) V.zero).set j ⟨vk, vn, vt, vr⟩ } ((left - (j + 1 - o.items.length) : Nat) : Int) w w' := by
  have hhl := hh.lt
  obtain ⟨p, c, hit⟩ := row_slice H.items
  have hkeep : ∀ W, Fr [] w W → ObAt o g W := fun W hW => H.keep (fun b hb => hW.block b (hlt b hb) List.not_mem_nil)
  obtain ⟨M, hM⟩ : ∃ M, M = o.items.length := ⟨_, rfl⟩
  obtain ⟨o1, ho1⟩ : ∃ o1 : Ob, o1 = { o with items := o.items ++ List.replicate (j + 1 - o.items.length) V.zero } := ⟨_, rfl⟩
  obtain ⟨L1, hL1⟩ : ∃ L1 : Int, L1 = ((left - (j + 1 - o.items.length) : Nat) : Int) := ⟨_, rfl⟩
  have hlen1 : o1.items.length = j + 1 := by rw [ho1]; show (o.items ++ _).length = _; rw [List.length_append, List.length_replicate]; omega
  have hzj : o1.items[j]? = some V.zero := by
    rw [ho1]
    show (o.items ++ List.replicate (j + 1 - o.items.length) V.zero)[j]? = _
    rw [List.getElem?_append_right hj, List.getElem?_replicate, if_pos (by omega)]
  have hres : ∀ W, Fr [] w W → Bx w.heap.size vk vn (bs vt) vr W → Calls Tryd.prog 68 #[.pointer (some ⟨h, 0, none⟩), .pointer (some ⟨g.blk, 0, none⟩), .int .i64 ((j : Int) + 1)] W fun e w1 => e = .returned (.tuple #[]) ∧
      ∃ x c' : Nat, w1.cell? ⟨g.blk, 4, none⟩ = some (.slice (some ⟨x, 0, none⟩) (j + 1) c') ∧ ((w1.cell? ⟨x, j * 4, none⟩ = some (.int .i64 0) ∧ w1.cell? ⟨x, j * 4 + 1, none⟩ = some (.float .f64 0) ∧ w1.cell? ⟨x, j * 4 + 2, none⟩ = some (.string ⟨#[]⟩) ∧ w1.cell? ⟨x, j * 4 + 3, none⟩ = some (.int .i64 0)) ∧
      (w1.frozen? ⟨x, j * 4, none⟩ = false ∧ w1.frozen? ⟨x, j * 4 + 1, none⟩ = false ∧ w1.frozen? ⟨x, j * 4 + 2, none⟩ = false ∧ w1.frozen? ⟨x, j * 4 + 3, none⟩ = false)) ∧ Bx w.heap.size vk vn (bs vt) vr w1 ∧ Upd h sv g { o1 with items := o1.items.set j ⟨vk, vn, vt, vr⟩ } L1 w (setItem w1 x j ⟨vk, vn, vt, vr⟩) := by
    intro W hW hB
    have hWs := hW.size
    rw [show (j : Int) + 1 = ((j + 1 : Nat) : Int) by omega]
    refine (resize_more h sv left o g (j + 1) (by omega) (by omega) (by omega) hleft W ((hW.block h hhl List.not_mem_nil).trans hh) hgh (hkeep W hW) (fun y hy => Nat.lt_of_lt_of_le (hlt y hy) hWs)).mono ?_
    rintro e w1 ⟨rfl, U⟩
    rw [← ho1, ← hL1] at U
    have hs1 := U.fr.size
    have hgh' : ∀ g' : Gx, g'.blk = g.blk → (∀ b ∈ g'.blocks, (b ∈ g.blocks ∨ W.heap.size ≤ b) ∧ b < w1.heap.size) → h ∉ g'.blocks := by
      intro g' _ h3 hm
      rcases (h3 h hm).1 with h' | h'
      · exact hgh h'
      · omega
    obtain ⟨g', hb', hob', hsub'⟩ := U.ex
    obtain ⟨x, c', hx⟩ : ∃ x c', g'.it = .slice (some ⟨x, 0, none⟩) (j + 1) c' := by
      obtain ⟨_, h2 | ⟨x, c', cur, hv', _⟩⟩ := hob'.items
      · omega
      · exact ⟨x, c', by rw [hv', hlen1]⟩
    have hit' := hob'.items
    rw [hx, hlen1] at hit'
    refine ⟨rfl, x, c', ?_, items_at hit' hlen1 j V.zero hzj, ?_, ?_⟩
    · have := blk_cell hob'.blk 4 g'.it rfl
      rw [hb', hx] at this
      exact this
    · refine (U.fr.block _ ?_ ?_).trans hB
      · exact lt_of_heap hB
      · intro hm
        rcases List.mem_cons.1 hm with e | hm
        · omega
        · have := hlt _ hm; omega
    · refine Upd.pre hW ?_
      refine ⟨⟨g', hb', hob'.setItem (by rw [hx, hlen1]) j (by omega) _, fun b hb => ⟨(hsub' b hb).1, Nat.lt_of_lt_of_le (hsub' b hb).2 (setItem_fr w1 x j _).size⟩⟩, ?_, ?_⟩
      · have hxm : x ∈ g'.blocks := by unfold Gx.blocks; exact List.mem_cons_of_mem _ (List.mem_append_right _ (by rw [hx]; simp [Value.ownBlock]))
        exact (setItem_other j _ (fun e => hgh' g' hb' hsub' (by rw [e]; exact hxm))).trans U.hp
      · have hxm : x ∈ g'.blocks := by unfold Gx.blocks; exact List.mem_cons_of_mem _ (List.mem_append_right _ (by rw [hx]; simp [Value.ownBlock]))
        refine U.fr.trans (setItem_fr w1 x j _) (fun z hz => ?_)
        simp at hz
        rw [hz]
        exact (hsub' x hxm).1.imp (fun h => List.mem_cons_of_mem _ h) id
  have r0' : Fr [] w (w.alloc (.cells #[.int .i64 vk, .float .f64 vn, .string (bs vt), .int .i64 vr] 31)) := Fr.alloc _ _
  have x0 := Bx.new vk vn (bs vt) vr w
  have t0 : (w.alloc (.cells #[.int .i64 vk, .float .f64 vn, .string (bs vt), .int .i64 vr] 31)).cell? ⟨g.blk, 4, none⟩ = some (.slice p M c) := by rw [hM, ← hit]; exact blk_cell (hkeep _ r0').blk 4 _ rfl
  have t1 : (w.alloc (.cells #[.int .i64 vk, .float .f64 vn, .string (bs vt), .int .i64 vr] 31)).cell? ⟨h, 1, none⟩ = some (.int .i64 (left : Int)) := HpC.c1 ((r0'.block h hhl List.not_mem_nil).trans hh)
  have hres0 := hres _ r0' x0
  rw [← hL1]
  have ho2 : ({ o with items := (o.items ++ List.replicate (j + 1 - o.items.length) V.zero).set j ⟨vk, vn, vt, vr⟩ } : Ob) = { o1 with items := o1.items.set j ⟨vk, vn, vt, vr⟩ } := by rw [ho1]
  rw [ho2]
  generalize ({ o1 with items := o1.items.set j ⟨vk, vn, vt, vr⟩ } : Ob) = o2 at *
  have HRES := Lib.hid hres0
  have hst := store_float
  have d1 : (M : Int) ≤ (j : Int) := by omega
  have d2 : (j : Int) - (M : Int) < (left : Int) := by omega
  have e1 : IntKind.i64.wrap ((j : Int) - (M : Int)) = (j : Int) - (M : Int) := IntWalk.i64_in _ (by omega)
  have e2 : IntKind.i64.wrap ((j : Int) + 1) = (j : Int) + 1 := IntWalk.i64_in _ (by omega)
  have d3 : (j : Int) < ((j + 1 : Nat) : Int) := by omega
  clear hres0 hres hkeep ho2 ho1 hL1 hlen1 hzj H hlt hh hgh hit hj hroom hn hleft r0' x0 hM hhl
  unfold setItem at HRES
  dsimp only at HRES
  generalize hb : g.blk = b at *
  generalize bs vt = T at *
  go_enter Tryd.func50, Tryd.ntmps50
  go_wp2_with (first
    | (go_at_call 68; ((with_reducible refine HRES.out.mono ?_); rintro e w1 ⟨rfl, x, c', q0, ⟨⟨q1, q2, q3, q4⟩, q5, q6, q7, q8⟩, qb, hU⟩; have HU := Lib.hid hU; obtain ⟨y0, y1, y2, y3⟩ := qb.cells; clear hU qb))
    | fail)
  go_region
  go_wp2
  go_ret
  exact ⟨rfl, HU.out.drew⟩
end Go.Proofs.YtmhoebbdapjpeaaDoor
namespace Go.Proofs.YtmhoebbdapjpeaaDoor
set_option linter.all false

def geF (a b : Nat) : Bool := FloatKind.f64.format.order a b == some .gt || FloatKind.f64.format.order a b == some .eq
def leF (a b : Nat) : Bool := FloatKind.f64.format.order a b == some .lt || FloatKind.f64.format.order a b == some .eq
theorem read_nought : FloatKind.f64.format.read 0 = .number false 0 (-1074) := by kernel_rfl
theorem read_max : FloatKind.f64.format.read 4746794007244308480 = .number false 9007199250546688 (-22) := by kernel_rfl
theorem cmp_ge {a b : Int} (h : compare a b = .gt ∨ compare a b = .eq) : b ≤ a := by
  rcases h with h | h
  · exact Int.le_of_lt (Int.compare_eq_gt.1 h)
  · exact Int.le_of_eq (Int.compare_eq_eq.1 h).symm
theorem cmp_le {a b : Int} (h : compare a b = .lt ∨ compare a b = .eq) : a ≤ b := by
  rcases h with h | h
  · exact Int.le_of_lt (Int.compare_eq_lt.1 h)
  · exact Int.le_of_eq (Int.compare_eq_eq.1 h)
/-- A float that lies between nought and the greatest length, cut to a whole number. -/
theorem toInt_bd (n : Nat) (h0 : geF n 0 = true) (h1 : leF n 4746794007244308480 = true) : ∃ m : Nat, m ≤ 2147483647 ∧ (FloatKind.f64.decode n).toInt .zero = some (m : Int) := by
  unfold geF at h0
  unfold leF at h1
  have e0 : FloatKind.f64.format.order n 0 = (FloatKind.f64.format.read n).order (FloatKind.f64.format.read 0) := rfl
  have e1 : FloatKind.f64.format.order n 4746794007244308480 = (FloatKind.f64.format.read n).order (FloatKind.f64.format.read 4746794007244308480) := rfl
  rw [e0, read_nought] at h0
  rw [e1, read_max] at h1
  show ∃ m : Nat, m ≤ 2147483647 ∧ (FloatKind.f64.format.read n).toInt .zero = some (m : Int)
  clear e0 e1
  generalize FloatKind.f64.format.read n = D at *
  cases D with
  | nan s t => exact absurd h0 (by simp [Ieee.Datum.order])
  | infinity s =>
    cases s
    · exact absurd h1 (by simp [Ieee.Datum.order])
    · exact absurd h0 (by simp [Ieee.Datum.order])
  | number s m i =>
    simp only [Ieee.Datum.order, Bool.or_eq_true, beq_iff_eq, Option.some.injEq] at h0 h1
    have h0 := cmp_ge h0
    have h1 := cmp_le h1
    simp only [Ieee.signed, Nat.shiftLeft_eq, Bool.false_eq_true, if_false, Nat.zero_mul] at h0 h1
    have key : ∀ c : Nat, c ≤ 2147483647 → (Ieee.Toward.cut .zero s (m <<< i.toNat) (-i).toNat = c) → (s = true → c = 0) → ∃ k : Nat, k ≤ 2147483647 ∧ (Ieee.Datum.number s m i).toInt .zero = some (k : Int) := by
      intro c hc he hs
      refine ⟨c, hc, ?_⟩
      unfold Ieee.Datum.toInt Ieee.Datum.integral
      simp only [he]
      unfold Ieee.signed
      cases s
      · simp
      · rw [hs rfl]; simp
    cases s with
    | true =>
      have hm : m = 0 := by
        rcases Nat.eq_zero_or_pos m with h | h
        · exact h
        · exfalso
          have hp : 0 < m * 2 ^ (i - min i (-1074)).toNat := Nat.mul_pos h (Nat.pow_pos (by decide))
          simp only [if_true] at h0
          omega
      subst hm
      refine key 0 (by omega) ?_ (fun _ => rfl)
      simp [Ieee.Toward.cut]
    | false =>
      simp only [Bool.false_eq_true, if_false] at h1
      have h1 : m * 2 ^ (i - min i (-22)).toNat ≤ 9007199250546688 * 2 ^ (-22 - min i (-22)).toNat := by omega
      have hK : (9007199250546688 : Nat) = 2147483647 * 2 ^ 22 := by decide
      refine key (Ieee.Toward.cut .zero false (m <<< i.toNat) (-i).toNat) ?_ rfl (fun h => by cases h)
      unfold Ieee.Toward.cut
      simp only [Nat.shiftLeft_eq, Nat.one_mul, Bool.toNat_false, Nat.add_zero]
      by_cases hi : 0 ≤ i
      · have hz : (-i).toNat = 0 := by omega
        rw [hz, Nat.zero_min, Nat.pow_zero, Nat.div_one]
        rw [show (-22 - min i (-22)).toNat = 0 by omega, Nat.pow_zero, Nat.mul_one, show (i - min i (-22)).toNat = i.toNat + 22 by omega, Nat.pow_add, ← Nat.mul_assoc, hK] at h1
        exact Nat.le_of_mul_le_mul_right h1 (by decide)
      · have hz : i.toNat = 0 := by omega
        rw [hz, Nat.pow_zero, Nat.mul_one]
        obtain ⟨d, hd⟩ : ∃ d : Nat, (-i).toNat = d := ⟨_, rfl⟩
        have hmd : m ≤ 2147483647 * 2 ^ d := by
          by_cases h22 : d ≤ 22
          · rw [show (-22 - min i (-22)).toNat = 0 by omega, Nat.pow_zero, Nat.mul_one, show (i - min i (-22)).toNat = 22 - d by omega, hK, show 22 = d + (22 - d) by omega, Nat.pow_add, ← Nat.mul_assoc, show d + (22 - d) - d = 22 - d by omega] at h1
            exact Nat.le_of_mul_le_mul_right h1 (Nat.pow_pos (by decide))
          · rw [show (i - min i (-22)).toNat = 0 by omega, Nat.pow_zero, Nat.mul_one, show (-22 - min i (-22)).toNat = d - 22 by omega, hK, Nat.mul_assoc, ← Nat.pow_add, show 22 + (d - 22) = d by omega] at h1
            exact h1
        rw [hd]
        by_cases hlog : d ≤ m.log2 + 2
        · rw [Nat.min_eq_left hlog]
          exact Nat.div_le_of_le_mul (by rw [Nat.mul_comm]; exact hmd)
        · rw [Nat.min_eq_right (by omega)]
          have : m < 2 ^ (m.log2 + 2) := by
            have h := Nat.lt_log2_self (n := m)
            have h2 : 2 ^ (m.log2 + 1) ≤ 2 ^ (m.log2 + 2) := Nat.pow_le_pow_right (by decide) (by omega)
            omega
          rw [Nat.div_eq_of_lt this]
          omega
end Go.Proofs.YtmhoebbdapjpeaaDoor
namespace Go.Proofs.YtmhoebbdapjpeaaDoor
open Go.RowKit Go.Maps
set_option linter.all false

def truncF (b : Nat) : Nat := FloatKind.f64.encode ((FloatKind.f64.decode b).integral .zero)
def wholeF (b : Nat) : Bool := FloatKind.f64.format.order b (truncF b) == some .eq
/-- The length that a float says. -/
def lenF (b : Nat) : Option Nat := if (geF b 0 && leF b 4746794007244308480 && wholeF b) = true then ((FloatKind.f64.decode b).toInt .zero).map Int.toNat else none
theorem lenF_some {b m : Nat} (h : lenF b = some m) : geF b 0 = true ∧ leF b 4746794007244308480 = true ∧ wholeF b = true ∧ m ≤ 2147483647 ∧ (FloatKind.f64.decode b).toInt .zero = some (m : Int) := by
  unfold lenF at h
  split at h
  · rename_i hc
    simp only [Bool.and_eq_true] at hc
    obtain ⟨m', h1, h2⟩ := toInt_bd b hc.1.1 hc.1.2
    rw [h2] at h
    simp at h
    subst h
    exact ⟨hc.1.1, hc.1.2, hc.2, h1, h2⟩
  · cases h
theorem geF_num {b : Nat} (h : geF b 0 = true) : (FloatKind.f64.decode b).isNaN = false := by
  unfold geF at h
  have e0 : FloatKind.f64.format.order b 0 = (FloatKind.f64.decode b).order (FloatKind.f64.format.read 0) := rfl
  rw [e0] at h
  cases hd : FloatKind.f64.decode b with
  | nan s t => rw [hd] at h; exact absurd h (by simp [Ieee.Datum.order])
  | number s m i => rfl
  | infinity s => rfl
theorem x_trunc (b : Nat) (h : (FloatKind.f64.decode b).isNaN = false) (W : World) : (callFunc 76 #[.float .f64 b]).run Tryd.prog W = .ok (.value (.float .f64 (truncF b))) W := by
  have key : ∀ d, FloatKind.f64.decode b = d → d.isNaN = false → (Extern.MathFloor.toIntegral "math.archTrunc" .zero #[.float .f64 b]).run Tryd.prog W = .ok (.float .f64 (FloatKind.f64.encode (d.integral .zero))) W := by
    intro d hd hn
    show Sem.run _ (match FloatKind.f64.decode b with | .nan s t => _ | d => _) W = _
    rw [hd]
    cases d with
    | nan s t => cases hn
    | number s m i => rfl
    | infinity s => rfl
  rw [run_callFunc_extern Tryd.func76 (by kernel_rfl) (by kernel_rfl) (by kernel_rfl) (e := Extern.MathFloor.toIntegral "math.archTrunc" .zero) (by kernel_rfl) #[.float .f64 b] W]
  rw [key _ rfl h]
  rfl
theorem trunc_any (b : Nat) (h : (FloatKind.f64.decode b).isNaN = false) (w : World) : Calls Tryd.prog 67 #[.float .f64 b] w fun e w' => e = .returned (.float .f64 (truncF b)) ∧ w = w' := by
  have x1 := x_trunc b h
  generalize truncF b = t at *
  clear h
  go_enter Tryd.func67, Tryd.ntmps67
  go_wp2
  go_ret
  exact ⟨rfl, rfl⟩
set_option maxRecDepth 100000 in
set_option maxHeartbeats 2000000 in
theorem putLength_bad (h b : Nat) (vk : Int) (vn : Nat) (T : ByteArray) (vr : Int) (w : World) (hv : vk ≠ 3 ∨ lenF vn = none) :
    Calls Tryd.prog 48 #[.pointer (some ⟨h, 0, none⟩), .pointer (some ⟨b, 0, none⟩), .agg #[.int .i64 vk, .float .f64 vn, .string T, .int .i64 vr]] w fun e w' => e = .returned (.int .i64 1) ∧ Fr [] w w' := by
  have hst := store_float
  have r0 : Fr [] w (w.alloc (.cells #[.int .i64 vk, .float .f64 vn, .string T, .int .i64 vr] 31)) := Fr.alloc _ _
  have x0 := Bx.new vk vn T vr w
  obtain ⟨y0, y1, y2, y3⟩ := x0.cells
  have R0 := Lib.hid r0
  have RN : Hid (∀ n, Fr [] w ((w.alloc (.cells #[.int .i64 vk, .float .f64 vn, .string T, .int .i64 vr] 31)).drewN n)) := fun n => r0.trans (Fr.drewN _ n) (fun _ h => by cases h)
  clear r0 x0
  by_cases hk : vk = 3
  · subst hk
    have hn : lenF vn = none := by
      rcases hv with h | h
      · exact absurd rfl h
      · exact h
    have e0 : ((3 : Int) != 3) = false := by decide
    cases hg : geF vn 0 with
    | false =>
      have hge : (FloatKind.f64.format.order vn 0 == some Ordering.gt || FloatKind.f64.format.order vn 0 == some Ordering.eq) = false := hg
      clear hn hg hv
      go_enter Tryd.func48, Tryd.ntmps48
      go_wp2
      go_quiet (fail)
      go_wp2
      go_ret
      exact ⟨rfl, RN.out _⟩
    | true =>
      have hge : (FloatKind.f64.format.order vn 0 == some Ordering.gt || FloatKind.f64.format.order vn 0 == some Ordering.eq) = true := hg
      cases hl : leF vn 4746794007244308480 with
      | false =>
        have hle : (FloatKind.f64.format.order vn 4746794007244308480 == some Ordering.lt || FloatKind.f64.format.order vn 4746794007244308480 == some Ordering.eq) = false := hl
        clear hn hg hv hl
        go_enter Tryd.func48, Tryd.ntmps48
        go_wp2
        go_quiet (fail)
        go_wp2
        go_ret
        exact ⟨rfl, RN.out _⟩
      | true =>
        have hle : (FloatKind.f64.format.order vn 4746794007244308480 == some Ordering.lt || FloatKind.f64.format.order vn 4746794007244308480 == some Ordering.eq) = true := hl
        have hw : wholeF vn = false := by
          cases hw : wholeF vn with
          | false => rfl
          | true =>
            obtain ⟨m, h1, h2⟩ := toInt_bd vn hg hl
            unfold lenF at hn
            rw [hg, hl, hw, h2] at hn
            simp at hn
        have htr := trunc_any vn (geF_num hg)
        have hwh : (FloatKind.f64.format.order vn (truncF vn) != some Ordering.eq) = true := by
          show (!(wholeF vn)) = true
          rw [hw]; rfl
        clear hn hg hv hl hw
        generalize truncF vn = tv at *
        go_enter Tryd.func48, Tryd.ntmps48
        go_wp2
        go_quiet ((go_at_call 67; exact Calls.quiet_of_same ((htr _).mono fun _ _ h => ⟨h.1, h.2.symm⟩)))
        go_wp2
        go_ret
        exact ⟨rfl, RN.out _⟩
  · have e0 : (vk != 3) = true := bne_iff_ne.2 hk
    clear hv hk
    go_enter Tryd.func48, Tryd.ntmps48
    go_wp2
    go_quiet (fail)
    go_wp2
    go_ret
    exact ⟨rfl, RN.out _⟩
/-- What putLength makes of an object's items. -/
def lenItems (l : List V) (m : Nat) : List V := if m < l.length then l.take m else l ++ List.replicate (m - l.length) V.zero
set_option maxRecDepth 100000 in
set_option maxHeartbeats 4000000 in
theorem putLength_good (h : Nat) (sv : Value) (left : Nat) (o : Ob) (g : Gx) (vn : Nat) (T : ByteArray) (vr : Int) (m : Nat) (hv : lenF vn = some m) (hleft : left ≤ 10000) (hn : o.items.length ≤ 10000) (w : World)
    (hh : HpC h sv (left : Int) w) (hgh : h ∉ g.blocks) (H : ObAt o g w) (hlt : ∀ x ∈ g.blocks, x < w.heap.size) :
    Calls Tryd.prog 48 #[.pointer (some ⟨h, 0, none⟩), .pointer (some ⟨g.blk, 0, none⟩), .agg #[.int .i64 3, .float .f64 vn, .string T, .int .i64 vr]] w fun e w' =>
      if left + o.items.length < m then e = .returned (.int .i64 112) ∧ Fr [] w w' else e = .returned (.int .i64 0) ∧ Upd h sv g { o with items := lenItems o.items m } ((left + o.items.length - m : Nat) : Int) w w' := by
  obtain ⟨hg, hl, hwh, hm, hti⟩ := lenF_some hv
  have hhl := hh.lt
  obtain ⟨p, c, hit⟩ := row_slice H.items
  have hkeep : ∀ W, Fr [] w W → ObAt o g W := fun W hW => H.keep (fun b hb => hW.block b (hlt b hb) List.not_mem_nil)
  obtain ⟨M, hM⟩ : ∃ M, M = o.items.length := ⟨_, rfl⟩
  have hge : (FloatKind.f64.format.order vn 0 == some Ordering.gt || FloatKind.f64.format.order vn 0 == some Ordering.eq) = true := hg
  have hle : (FloatKind.f64.format.order vn 4746794007244308480 == some Ordering.lt || FloatKind.f64.format.order vn 4746794007244308480 == some Ordering.eq) = true := hl
  have htr := trunc_any vn (geF_num hg)
  have hwh' : (FloatKind.f64.format.order vn (truncF vn) != some Ordering.eq) = false := by
    show (!(wholeF vn)) = false
    rw [hwh]; rfl
  have hcv : ∀ W, (convert 29 3 (.float .f64 vn)).run Tryd.prog W = .ok (.int .i64 (m : Int)) W := by
    intro W
    refine run_convert_float_int (P := Tryd.prog) W 29 3 .f64 .i64 vn (m : Int) (by rw [Tryd.underlying29]; rfl) Tryd.underlying3 ?_
    unfold floatToIntVal
    rw [hti]
    have h1 : IntKind.i64.min ≤ (m : Int) ∧ (m : Int) ≤ IntKind.i64.max := by
      have e1 : IntKind.i64.min = -9223372036854775808 := rfl
      have e2 : IntKind.i64.max = 9223372036854775807 := rfl
      omega
    exact if_pos h1
  have hst := store_float
  have r0 : Fr [] w (w.alloc (.cells #[.int .i64 3, .float .f64 vn, .string T, .int .i64 vr] 31)) := Fr.alloc _ _
  have x0 := Bx.new 3 vn T vr w
  have RN : Hid (∀ n, Fr [] w ((w.alloc (.cells #[.int .i64 3, .float .f64 vn, .string T, .int .i64 vr] 31)).drewN n)) := fun n => r0.trans (Fr.drewN _ n) (fun _ h => by cases h)
  have RN2 : Hid (∀ n k, Fr [] w (((w.alloc (.cells #[.int .i64 3, .float .f64 vn, .string T, .int .i64 vr] 31)).drewN n).drewN k)) := fun n k => (RN.out n).trans (Fr.drewN _ k) (fun _ h => by cases h)
  have q4 : ∀ n, ((w.alloc (.cells #[.int .i64 3, .float .f64 vn, .string T, .int .i64 vr] 31)).drewN n).cell? ⟨g.blk, 4, none⟩ = some (.slice p M c) := fun n => by rw [hM, ← hit]; exact blk_cell (hkeep _ (RN.out n)).blk 4 _ rfl
  have q1 : ∀ n, ((w.alloc (.cells #[.int .i64 3, .float .f64 vn, .string T, .int .i64 vr] 31)).drewN n).cell? ⟨h, 1, none⟩ = some (.int .i64 (left : Int)) := fun n => HpC.c1 (((RN.out n).block h hhl List.not_mem_nil).trans hh)
  have y1 : ∀ n, ((w.alloc (.cells #[.int .i64 3, .float .f64 vn, .string T, .int .i64 vr] 31)).drewN n).cell? ⟨w.heap.size, 1, none⟩ = some (.float .f64 vn) := fun n => x0.cells.2.1
  obtain ⟨y0, y1', y2, y3⟩ := x0.cells
  have e1 : IntKind.i64.wrap ((m : Int) - (M : Int)) = (m : Int) - (M : Int) := IntWalk.i64_in _ (by omega)
  have hres : ∀ W, Fr [] w W → ¬ (left + o.items.length < m) → Calls Tryd.prog 68 #[.pointer (some ⟨h, 0, none⟩), .pointer (some ⟨g.blk, 0, none⟩), .int .i64 (m : Int)] W fun e w1 => e = .returned (.tuple #[]) ∧ Upd h sv g { o with items := lenItems o.items m } ((left + o.items.length - m : Nat) : Int) w w1 := by
    intro W hW hnot
    have hhW : HpC h sv (left : Int) W := (hW.block h hhl List.not_mem_nil).trans hh
    have hltW : ∀ y ∈ g.blocks, y < W.heap.size := fun y hy => Nat.lt_of_lt_of_le (hlt y hy) hW.size
    by_cases hml : m < o.items.length
    · refine (resize_less h sv left o g m hml (by omega) hleft W hhW hgh (hkeep W hW) hltW).mono ?_
      rintro e w1 ⟨rfl, U⟩
      refine ⟨rfl, Upd.pre hW ?_⟩
      unfold lenItems
      rw [if_pos hml, show left + o.items.length - m = left + (o.items.length - m) by omega]
      exact U
    · refine (resize_more h sv left o g m (by omega) (by omega) (by omega) hleft W hhW hgh (hkeep W hW) hltW).mono ?_
      rintro e w1 ⟨rfl, U⟩
      refine ⟨rfl, Upd.pre hW ?_⟩
      unfold lenItems
      rw [if_neg hml, show left + o.items.length - m = left - (m - o.items.length) by omega]
      exact U
  have HRES := Lib.hid hres
  clear hres hkeep hg hl hwh hti hv hhl H hlt hh hgh hit x0 r0
  generalize truncF vn = tv at *
  by_cases hb : left + o.items.length < m
  · simp only [if_pos hb]
    have d1 : (left : Int) < (m : Int) - (M : Int) := by omega
    clear HRES hb hM
    generalize g.blk = b at *
    go_enter Tryd.func48, Tryd.ntmps48
    go_wp2
    go_quiet ((go_at_call 67; exact Calls.quiet_of_same ((htr _).mono fun _ _ h => ⟨h.1, h.2.symm⟩)))
    go_wp2
    go_quiet (fail)
    go_wp2
    go_ret
    exact ⟨rfl, (RN.out _).trans (Fr.drewN _ _) (fun _ h => by cases h)⟩
  · simp only [if_neg hb]
    have HRES2 : Hid (∀ W, Fr [] w W → Calls Tryd.prog 68 #[.pointer (some ⟨h, 0, none⟩), .pointer (some ⟨g.blk, 0, none⟩), .int .i64 (m : Int)] W fun e w1 => e = .returned (.tuple #[]) ∧ Upd h sv g { o with items := lenItems o.items m } ((left + o.items.length - m : Nat) : Int) w w1) := fun W hW => HRES.out W hW hb
    have d1 : (m : Int) - (M : Int) ≤ (left : Int) := by omega
    generalize ((left + o.items.length - m : Nat) : Int) = L2 at *
    generalize ({ o with items := lenItems o.items m } : Ob) = o2 at *
    clear HRES hb hM
    generalize g.blk = b at *
    go_enter Tryd.func48, Tryd.ntmps48
    go_wp2
    go_quiet ((go_at_call 67; exact Calls.quiet_of_same ((htr _).mono fun _ _ h => ⟨h.1, h.2.symm⟩)))
    go_wp2
    go_quiet (fail)
    go_wp2_with (first
      | (go_at_call 68; ((with_reducible refine (HRES2.out _ (RN.out _)).mono ?_); rintro e w1 ⟨rfl, hU⟩; have HU := Lib.hid hU; clear hU))
      | fail)
    go_ret
    exact ⟨rfl, HU.out⟩
end Go.Proofs.YtmhoebbdapjpeaaDoor
