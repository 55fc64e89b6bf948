/- Layer 8: a number's digits, as the document writes them. Conditions: those that each theorem names. -/
import Derived.Test.YtmndmnajgfabnaaDoorIb
namespace Go.Proofs.YtmndmnajgfabnaaDoor
open Go.RowKit Go.Maps Go.Shelf
set_option linter.all false

theorem dec_digit {m : Nat} : ∀ b ∈ Lib.decDigits m, 48 ≤ b.toNat ∧ b.toNat ≤ 57 := by
  induction m using Nat.strongRecOn with
  | _ m ih =>
    intro b hb
    rw [Lib.decDigits] at hb
    split at hb
    · simp only [List.mem_singleton] at hb
      subst hb
      rw [UInt8.toNat_ofNat']
      omega
    · rw [List.mem_append] at hb
      rcases hb with hb | hb
      · exact ih (m / 10) (by omega) b hb
      · simp only [List.mem_singleton] at hb
        subst hb
        rw [UInt8.toNat_ofNat']
        omega
theorem itoa_plain (n : Int) : ∀ b ∈ Lib.itoa n, b.toNat < 128 := by
  intro b hb
  unfold Lib.itoa at hb
  split at hb
  · rcases List.mem_cons.1 hb with rfl | hb
    · decide
    · have := dec_digit b hb; omega
  · have := dec_digit b hb; omega
theorem scan_plain : ∀ (l : List UInt8), (∀ b ∈ l, b.toNat < 128) → U.scan l = (l.map (·.toNat), l.length)
  | [], _ => rfl
  | a :: l, h => by
    have ha := h a (List.mem_cons_self ..)
    have hd := U.dec_ascii (a :: l) (by simp) (show U.g (a :: l) 0 < 128 from ha)
    rw [U.scan_step _ (by rw [hd]; simp), hd]
    have ih := scan_plain l (fun b hb => h b (List.mem_cons_of_mem _ hb))
    show (U.g (a :: l) 0 :: (U.scan l).1, 1 + (U.scan l).2) = _
    rw [ih]
    show (a.toNat :: l.map (·.toNat), 1 + l.length) = (a.toNat :: l.map (·.toNat), l.length + 1)
    rw [Nat.add_comm]
theorem fm_congr {f g : UInt8 → List UInt8} : ∀ (l : List UInt8), (∀ a ∈ l, f a = g a) → l.flatMap f = l.flatMap g
  | [], _ => rfl
  | a :: l, h => by rw [List.flatMap_cons, List.flatMap_cons, h a (List.mem_cons_self ..), fm_congr l (fun b hb => h b (List.mem_cons_of_mem _ hb))]
theorem wide_plain (l : List UInt8) (h : ∀ b ∈ l, b.toNat < 128) : wideL l = ofB l := by
  have hs := scan_plain l h
  unfold wideL
  rw [if_pos (by unfold full; rw [hs]), hs]
  unfold U.w8 ofB
  rw [List.flatMap_map]
  refine fm_congr l fun b hb => ?_
  have := h b hb
  unfold U.units
  rw [if_pos (by omega)]
  simp
theorem keyB_of (n : Int) : keyB n = ofB (Lib.itoa n) := wide_plain _ (itoa_plain n)
set_option maxHeartbeats 1000000 in
theorem refAt_in (s : ByteArray) (hs : s.size ≤ 140737488355328) (i : Nat) (hi : 2 * i + 1 < s.size) (w : World) :
    Calls Tryd.prog 33 #[.string s, .int .i64 (i : Int)] w fun e w' => e = .returned (.int .i64 (U.unitAt (ls s) i : Nat)) ∧ ∃ n, w' = w.drewN n := by
  have e1 : IntKind.i64.wrap (2 * (i : Int)) = 2 * (i : Int) := IntWalk.i64_in _ (by omega)
  have e2 : IntKind.i64.wrap (2 * (i : Int) + 1) = 2 * (i : Int) + 1 := IntWalk.i64_in _ (by omega)
  have l1 : 0 ≤ 2 * (i : Int) := by omega
  have l2 : 2 * (i : Int) < s.size := by omega
  have l3 : 2 * (i : Int) + 1 < s.size := by omega
  have l4 : 0 ≤ 2 * (i : Int) + 1 := by omega
  have q1 : (2 * (i : Int)).toNat < s.size := by omega
  have q2 : (2 * (i : Int) + 1).toNat < s.size := by omega
  obtain ⟨x, hx⟩ : ∃ x, s[(2 * (i : Int)).toNat] = x := ⟨_, rfl⟩
  obtain ⟨y, hy⟩ : ∃ y, s[(2 * (i : Int) + 1).toNat] = y := ⟨_, rfl⟩
  have hu : Hid (U.unitAt (ls s) i = x.toNat * 256 + y.toNat) := by
    show _ = _
    unfold U.unitAt
    rw [g_at s (2 * i) (by omega), g_at s (2 * i + 1) hi, ← hx, ← hy]
    have a1 : (2 * (i : Int)).toNat = 2 * i := by omega
    have a2 : (2 * (i : Int) + 1).toNat = 2 * i + 1 := by omega
    simp only [a1, a2]
  have x8 := x.toNat_lt
  have y8 := y.toNat_lt
  have w1 : IntKind.i64.wrap (x.toNat : Int) = x.toNat := IntWalk.i64_in _ (by omega)
  have w2 : IntKind.i64.wrap (y.toNat : Int) = y.toNat := IntWalk.i64_in _ (by omega)
  have w3 : IntKind.i64.wrap ((x.toNat : Int) * 256) = (x.toNat : Int) * 256 := IntWalk.i64_in _ (by omega)
  have w4 : IntKind.i64.wrap ((x.toNat : Int) * 256 + (y.toNat : Int)) = (x.toNat : Int) * 256 + (y.toNat : Int) := IntWalk.i64_in _ (by omega)
  have hz : ¬ ((s.size : Int) / 2 - 1 < (i : Int)) := by omega
  have dz : decide ((s.size : Int) / 2 - 1 < (i : Int)) = false := decide_eq_false hz
  go_enter Tryd.func33, Tryd.ntmps33
  go_wp2
  go_quiet (fail)
  go_wp2
  go_ret
  refine ⟨ret_int ?_, _, rfl⟩
  rw [hu.out]
  omega
end Go.Proofs.YtmndmnajgfabnaaDoor
