/- eslex.Word and Name, and the document's own. Conditions: those that each theorem names. -/
import Derived.Test.YthakjbmheoojeaaGreatDoorL2
import Derived.Test.YthakjbmheoojeaaGreatDoorL3
namespace Go.Proofs.YthakjbmheoojeaaGreatDoor
open Go.RowKit
set_option linter.all false

/-- A package's table of texts: variable g holds a slice of them, in blocks below N. -/
def Tab (N g : Nat) (l : List (List UInt8)) (w : World) : Prop :=
  g < N ∧ ∃ b o cap, b < N ∧ w.cell? ⟨g, 0, none⟩ = some (.slice (some ⟨b, o, none⟩) l.length cap) ∧ ∀ i (h : i < l.length), w.cell? ⟨b, o + i, none⟩ = some (.string (bs l[i]))
theorem Tab.below {N B g : Nat} {l : List (List UInt8)} {w w' : World} (h : Tab N g l w) (k : Below B w w') (hB : N ≤ B) : Tab N g l w' := by
  obtain ⟨hg, b, o, cap, hb, hc, hs⟩ := h
  have e : ∀ j, j < N → ∀ i, w'.cell? ⟨j, i, none⟩ = w.cell? ⟨j, i, none⟩ := fun j hj i => by
    simp only [World.cell?]
    rw [k.block j (by omega)]
  exact ⟨hg, b, o, cap, hb, by rw [e g hg]; exact hc, fun i hi => by rw [e b hb]; exact hs i hi⟩

theorem beq_bs (a b : List UInt8) : ((bs a).toList == (bs b).toList) = (a == b) := by rw [Lib.toList_data, Lib.toList_data]; rfl
theorem word_any (N : Nat) (l : List UInt8) (hl : l.length ≤ 140737488355328) (w : World) (hT : Tab N 0 X.words w) :
    Calls Tryz.prog 13 #[.string (bs l)] w fun e w' => e = .returned (.bool (X.word l)) ∧ w = w' := by
  obtain ⟨hg, b, o, cap, hb, hc, hs⟩ := hT
  have hlen : X.words.length = 38 := rfl
  have hw : X.word l = X.words.contains l := rfl
  rw [hw]
  generalize X.words = ws at hc hs hlen ⊢
  rw [hlen] at hc
  go_enter Tryz.func13, Tryz.ntmps13
  go_wp2
  go_loop [7, 4] (fun vi _ => ∃ k : Nat, k ≤ 38 ∧ vi = .int .i64 (k : Int) ∧ ∀ j (h : j < ws.length), j < k → ws[j] ≠ l) (fun vi _ => 38 - (intOf vi).toNat)
  case atStart => exact ⟨0, by omega, rfl, fun j _ h => by omega⟩
  case round =>
    obtain ⟨k, hk, rfl, hno⟩ := hrel
    by_cases hk2 : k < 38
    · go_wp2
      · rename_i h3 _
        rw [beq_bs] at h3
        go_ret
        have hm : l ∈ ws := by
          have e : ws[k]'(by omega) = l := by simpa using h3
          rw [← e]; exact List.getElem_mem _
        exact ⟨by simp [hm], rfl⟩
      · rename_i h2
        rw [beq_bs] at h2
        go_round
        case rel =>
          refine ⟨k + 1, by omega, by go_num, fun j hj hjk => ?_⟩
          rcases Nat.lt_or_ge j k with h | h
          · exact hno j hj h
          · obtain rfl : j = k := by omega
            simpa using h2
        case measure => simp [intOf]; omega
    · obtain rfl : k = 38 := by omega
      have hm : ¬ l ∈ ws := by
        intro h
        obtain ⟨j, hj, e⟩ := List.getElem_of_mem h
        exact hno j hj (by omega) e
      go_wp2
      go_ret
      exact ⟨by simp [hm], rfl⟩
end Go.Proofs.YthakjbmheoojeaaGreatDoor
