/- Layer 8: Array. Conditions: those that each theorem names. -/
import Derived.Test.YtmndmnajgfabnaaDoorHw
namespace Go.Proofs.YtmndmnajgfabnaaDoor
open Go.RowKit Go.Maps
set_option linter.all false

def arrO (l : List V) : Ob := ⟨2, -1, 0, 0, 0, [], l⟩
/-- An array is made. -/
def Hp.array (A : Hp) (l : List V) : (Int × Int) × Hp :=
  if l.all (rightV A.objs.length) = true then
    if A.left ≤ l.length then ((0, 112), A) else (((A.objs.length : Int), 0), ⟨A.objs ++ [arrO l], A.left - l.length - 1⟩)
  else ((0, 1), A)
def ArrPost (h : Nat) (R : (Int × Int) × Hp) (O : List Nat) (w : World) (e : Ending) (w' : World) : Prop :=
  e = .returned (.tuple #[.int .i64 R.1.1, .int .i64 R.1.2]) ∧ Step h R.2 O w w'
/-- What comes behind the look at the items. -/
theorem array_tail (h : Nat) (A : Hp) (sv : Value) (gs : List Gx) (l : List V) (v : Value) (n : Nat) (hnl : l.length = n) (w : World) (H : HeapG h A sv gs w) (F : A.Few) (hfit : l.length < A.left) (hR : RowAt w v n (itemCells l)) (hv : ∀ x ∈ v.ownBlock.toList, x ≠ h) :
    ∀ w1, w1 = w.setCell ⟨h, 1, none⟩ (.int .i64 ((A.left : Int) - (n : Int))) → Calls Tryd.prog 57 #[v] w1 fun e w2 => e = .returned (.slice (some ⟨w.heap.size, 0, none⟩) n n) ∧
      Calls Tryd.prog 43 #[.pointer (some ⟨h, 0, none⟩), .agg #[.int .i64 2, .int .i64 (-1), .map none, .pointer none, .slice (some ⟨w.heap.size, 0, none⟩) n n, .int .i64 0, .int .i64 0, .int .i64 0]] w2 fun e w' =>
        e = .returned (.tuple #[.int .i64 (A.objs.length : Int), .int .i64 0]) ∧ Step h ⟨A.objs ++ [arrO l], A.left - l.length - 1⟩ (allBlocks h sv gs) w w' := by
  intro w1 hw1
  have f1 : Fr [h] w w1 := by rw [hw1]; exact Fr.set w h 1 _
  have s1 : w1.heap.size = w.heap.size := by rw [hw1, heap_size_set]
  have hh1 : HpC h sv (((A.left - l.length : Nat) : Int)) w1 := by
    have := heap_set H.hp 1 (.int .i64 ((A.left : Int) - (n : Int)))
    rw [hw1]
    have e : (((A.left - l.length : Nat) : Int)) = (A.left : Int) - (n : Int) := by omega
    rw [e]
    exact this
  have hhl := H.lt_h
  have hne : ∀ x ∈ allBlocks h sv gs, x ≠ h → w1.heap[x]? = w.heap[x]? := fun x hx hn => f1.block x (H.lt x hx) (by simp [hn])
  have hap := H.apart
  have hnh : ∀ x, x ∈ sv.ownBlock.toList ∨ x ∈ gs.flatMap Gx.blocks → x ≠ h := by
    intro x hx e
    subst e
    unfold allBlocks at hap
    rw [List.cons_append, List.nodup_cons] at hap
    exact hap.1 (List.mem_append.2 hx)
  have hG1 : HeapG h ⟨A.objs, A.left - l.length⟩ sv gs w1 := by
    refine { hp := hh1, row := row_keep H.row (fun x hx => hne x ?_ (hnh x (Or.inl hx))), len := H.len, obs := fun i o g ho hg => (H.obs i o g ho hg).keep (fun x hx => hne x ?_ (hnh x (Or.inr ?_))), apart := H.apart, lt := fun b hb => by rw [s1]; exact H.lt b hb }
    · unfold allBlocks; exact List.mem_append_left _ (List.mem_cons_of_mem _ hx)
    · unfold allBlocks; exact List.mem_append_right _ (List.mem_flatMap.2 ⟨g, List.mem_of_getElem? hg, hx⟩)
    · exact List.mem_flatMap.2 ⟨g, List.mem_of_getElem? hg, hx⟩
  have hR1 : RowAt w1 v n (itemCells l) := by
    obtain ⟨h1, p, cap, hv', hn, hc⟩ := hR
    refine ⟨h1, p, cap, hv', hn, fun a ha j u hj => ?_⟩
    have hc := hc a ha j u hj
    have hblk : (a.add j).block = a.block := by unfold Addr.add; split <;> rfl
    have hane : a.block ≠ h := hv a.block (by rw [hv', ha]; simp [Value.ownBlock])
    have hlt : (a.add j).block < w.heap.size := by
      rcases Nat.lt_or_ge (a.add j).block w.heap.size with h | h
      · exact h
      · simp [World.cell?, Array.getElem?_eq_none h] at hc
    rw [← hc]
    exact World.cell?_of_block (f1.block _ hlt (by simp [hblk, hane]))
  refine (copied_any v n l (by have := F.left; omega) w1 hR1).mono ?_
  rintro e w2 ⟨rfl, ho2, f2⟩
  rw [s1] at ho2 ⊢
  refine ⟨rfl, ?_⟩
  have hadd := add_ok h ⟨A.objs, A.left - l.length⟩ sv gs (A.left - l.length - 1) (arrO l) (.slice (some ⟨w.heap.size, 0, none⟩) n n) w2 (hG1.fr f2) (by show A.left - l.length = _; omega) (by have := F.left; omega) F.objs rfl
    (by
      obtain ⟨q1, q2⟩ := ho2
      refine ⟨by show (itemCells l).length = l.length * 4; rw [q1, hnl], ?_⟩
      rcases q2 with ⟨q, _⟩ | ⟨g, cap, cur, q3, q4, q5, q6, q7, q8, q9⟩
      · cases q
      · refine Or.inr ⟨g, cap, cur, ?_, Nat.zero_le _, q5, ?_, q7, q8, ?_⟩
        · rw [q3]; show _ = Value.slice _ l.length _; rw [hnl]
        · show l.length ≤ _; omega
        · show List.take (l.length * 4) _ = _; rw [hnl]; exact q9)
    (by
      intro x hx hm
      simp [Value.ownBlock] at hx
      have := H.lt x hm
      omega)
  refine hadd.mono ?_
  rintro e w' ⟨rfl, hA⟩
  refine ⟨rfl, ?_⟩
  obtain ⟨⟨O', hO', hsub⟩, hfr⟩ := hA
  have f12 : Fr [h] w w2 := f1.trans f2 (fun _ h => by cases h)
  refine ⟨⟨O', hO', fun b hb => ?_⟩, (f12.mono (fun z hz => Or.inl (by simp at hz; rw [hz]; simp [allBlocks]))).trans hfr (fun z hz => Or.inl hz)⟩
  have := f12.size
  rcases hsub b hb with h1 | h1 | h1
  · exact Or.inl h1
  · exact Or.inr (by omega)
  · simp [Value.ownBlock] at h1
    exact Or.inr (by omega)
def ArrRel (m : Nat) (l : List V) (w : World) (j : Nat) (wr : World) : Prop := j ≤ l.length ∧ l.all (rightV m) = (l.drop j).all (rightV m) ∧ Fr [] w wr
theorem add_plain2 (b off j : Nat) : (⟨b, off, none⟩ : Addr).add j = ⟨b, off + j, none⟩ := by unfold Addr.add; split <;> simp_all
set_option maxRecDepth 100000 in
set_option maxHeartbeats 4000000 in
theorem array_any (h : Nat) (A : Hp) (sv : Value) (gs : List Gx) (l : List V) (v : Value) (w : World) (H : HeapG h A sv gs w) (F : A.Few) (hl : l.length ≤ 10000) (hR : RowAt w v l.length (itemCells l)) (hv : ∀ x ∈ v.ownBlock.toList, x ≠ h) (hts : ∀ u ∈ l, u.t.length ≤ maxLen) :
    Calls Tryd.prog 28 #[.pointer (some ⟨h, 0, none⟩), v] w (ArrPost h (A.array l) (allBlocks h sv gs) w) := by
  obtain ⟨sp, scap, hsv⟩ := row_slice H.row
  have hGL := H.len
  have hright : ∀ (u : V), u ∈ l → ∀ W, Fr [] w W → Calls Tryd.prog 46 #[.pointer (some ⟨h, 0, none⟩), .agg #[.int .i64 u.k, .float .f64 u.n, .string (bs u.t), .int .i64 u.r]] W fun e w' => e = .returned (.bool (rightV A.objs.length u)) ∧ Fr [] W w' := by
    intro u hu W hW
    have := (H.fr hW).hp
    rw [hsv] at this
    refine (isRight_any h sp gs.length scap A.left u.k u.n u.t (hts u hu) u.r W this).mono ?_
    rintro e w' ⟨rfl, hb⟩
    exact ⟨by rw [hGL], .of_below hb⟩
  obtain ⟨R, hRR⟩ : ∃ R, A.array l = R := ⟨_, rfl⟩
  rw [hRR]
  obtain ⟨n, hn⟩ : ∃ n, l.length = n := ⟨_, rfl⟩
  have htail : ∀ W, Fr [] w W → l.length < A.left → ∀ w1, w1 = W.setCell ⟨h, 1, none⟩ (.int .i64 ((A.left : Int) - (n : Int))) → Calls Tryd.prog 57 #[v] w1 fun e w2 => e = .returned (.slice (some ⟨W.heap.size, 0, none⟩) n n) ∧
      Calls Tryd.prog 43 #[.pointer (some ⟨h, 0, none⟩), .agg #[.int .i64 2, .int .i64 (-1), .map none, .pointer none, .slice (some ⟨W.heap.size, 0, none⟩) n n, .int .i64 0, .int .i64 0, .int .i64 0]] w2 fun e w' =>
        e = .returned (.tuple #[.int .i64 (A.objs.length : Int), .int .i64 0]) ∧ Step h ⟨A.objs ++ [arrO l], A.left - l.length - 1⟩ (allBlocks h sv gs) W w' :=
    fun W hW hf => array_tail h A sv gs l v n hn W (H.fr hW) F hf (by rw [← hn]; exact hR.fr hW) hv
  rw [hn] at hR
  obtain ⟨hRl, p, cap, hvv, hpn, hcells⟩ := hR
  have hitem : ∀ (j : Nat) (u : V), l[j]? = some u → ∃ b off, p = some ⟨b, off, none⟩ ∧ j < n ∧ ∀ W, Fr [] w W → W.cell? ⟨b, off + j * 4, none⟩ = some (.int .i64 u.k) ∧ W.cell? ⟨b, off + j * 4 + 1, none⟩ = some (.float .f64 u.n) ∧ W.cell? ⟨b, off + j * 4 + 2, none⟩ = some (.string (bs u.t)) ∧ W.cell? ⟨b, off + j * 4 + 3, none⟩ = some (.int .i64 u.r) := by
    intro j u hu
    have hj : j < l.length := by
      rcases Nat.lt_or_ge j l.length with h' | h'
      · exact h'
      · rw [List.getElem?_eq_none h'] at hu; cases hu
    obtain ⟨a0, a1, a2, a3⟩ := item_at l j u hu
    cases hp : p with
    | none => have := hpn hp; omega
    | some a =>
      have hc := hcells a hp
      obtain ⟨b, off, spot⟩ := a
      obtain ⟨u0, hu0⟩ : ∃ u0, (itemCells l)[0]? = some u0 := by
        have : 0 < (itemCells l).length := by rw [hRl]; omega
        exact ⟨_, List.getElem?_eq_getElem this⟩
      have hc0 := hc 0 u0 hu0
      have hspot : spot = none := by simpa [Addr.add] using World.cell?_spot hc0
      subst hspot
      refine ⟨b, off, rfl, by omega, fun W hW => ?_⟩
      have key : ∀ i x, (itemCells l)[i]? = some x → W.cell? ⟨b, off + i, none⟩ = some x := by
        intro i x hx
        have h1 := hc i x hx
        rw [add_plain2] at h1
        have hlt : b < w.heap.size := by
          rcases Nat.lt_or_ge b w.heap.size with h | h
          · exact h
          · simp [World.cell?, Array.getElem?_eq_none h] at h1
        rw [hW.cell hlt List.not_mem_nil]
        exact h1
      rw [show j * 4 = 4 * j by omega]
      exact ⟨key _ _ a0, key _ _ a1, key _ _ a2, key _ _ a3⟩
  have HRT := Lib.hid hright
  have HTL := Lib.hid htail
  have HIT := Lib.hid hitem
  have hc1 : ∀ W, Fr [] w W → W.cell? ⟨h, 1, none⟩ = some (.int .i64 (A.left : Int)) ∧ W.frozen? ⟨h, 1, none⟩ = false := fun W hW => ⟨(H.fr hW).hp.c1, blk_free (H.fr hW).hp 1⟩
  have HC1 := Lib.hid hc1
  have hleft := F.left
  have hHA : ∀ W, Fr [] w W → Step h A (allBlocks h sv gs) w W := fun W hW => Step.same ⟨sv, gs, H, rfl⟩ hW
  have HHA := Lib.hid hHA
  have HRR := Lib.hid hRR
  have hS0 : ArrRel A.objs.length l w 0 w := ⟨Nat.zero_le _, rfl, Fr.refl _ _⟩
  have HS0 := Lib.hid hS0
  have hst := store_float
  generalize allBlocks h sv gs = O at *
  have HN := Lib.hid hn
  have hn1 : n ≤ 10000 := by omega
  clear hS0 hright htail hitem hc1 hHA hRR hGL hsv hcells hpn hRl hts hv H hn hl
  subst hvv
  go_enter Tryd.func28, Tryd.ntmps28
  go_wp2
  go_loopg [10] n (fun gk iv wr => ∃ j : Nat, iv = .int .i64 (j : Int) ∧ n - j = gk ∧ Hid (ArrRel A.objs.length l w j wr))
  case atStart => exact ⟨0, rfl, by omega, HS0⟩
  case round =>
    obtain ⟨j, rfl, hgk, hrl⟩ := hrel
    obtain ⟨hj, hall, hfr⟩ := hrl.out
    have hln := HN.out
    by_cases hlt : j < n
    · have hu : l[j]? = some l[j] := List.getElem?_eq_getElem (by omega)
      have hmem : l[j] ∈ l := List.getElem_mem _
      have hdrop : l.drop j = l[j] :: l.drop (j + 1) := List.drop_eq_getElem_cons (by omega)
      generalize l[j] = u at hu hmem hdrop
      have hrt := HRT.out u hmem
      obtain ⟨b, off, rfl, _, hcl⟩ := HIT.out j u hu
      have hcl := hcl wr hfr
      have HFR := Lib.hid hfr
      have HALL := Lib.hid hall
      have HDR := Lib.hid hdrop
      have HRTU := Lib.hid (fun O => hrt (wr.alloc O) (hfr.trans (Fr.alloc wr O) (fun _ h => by cases h)))
      obtain ⟨c0, c1, c2, c3⟩ := hcl
      clear hrl hj hall hfr hdrop hrt hu hmem hcl hln
      cases hru : rightV A.objs.length u with
      | true =>
        have hrel' : ∀ W, Fr [] wr W → ArrRel A.objs.length l w (j + 1) W := by
          intro W hW
          refine ⟨by have := HN.out; omega, ?_, HFR.out.trans hW (fun _ h => by cases h)⟩
          rw [HALL.out, HDR.out, List.all_cons, hru, Bool.true_and]
        have HREL := Lib.hid hrel'
        rw [hru] at HRTU
        clear hrel' hru HALL HDR
        generalize u.k = vk at *
        generalize u.n = vn at *
        generalize bs u.t = vT at *
        generalize u.r = vr at *
        go_wp2_with (first
          | (go_at_call 46; ((with_reducible refine (HRTU.out _).mono ?_); rintro e w2 ⟨rfl, hf2⟩; have HF2 := Lib.hid (HREL.out _ ((Fr.alloc wr (.cells #[.int .i64 vk, .float .f64 vn, .string vT, .int .i64 vr] 31 (0, 0))).trans hf2 (fun _ h => by cases h))); clear hf2))
          | fail)
        go_roundg (n - (j + 1))
        case measure => omega
        case rel => exact ⟨j + 1, by go_num, rfl, HF2⟩
      | false =>
        have hR1 : R = ((0, 1), A) := by
          rw [← HRR.out]
          unfold Hp.array
          rw [HALL.out, HDR.out, List.all_cons, hru, Bool.false_and, if_neg (by simp)]
        subst hR1
        rw [hru] at HRTU
        clear hru HALL HDR HRR
        generalize u.k = vk at *
        generalize u.n = vn at *
        generalize bs u.t = vT at *
        generalize u.r = vr at *
        go_wp2_with (first
          | (go_at_call 46; ((with_reducible refine (HRTU.out _).mono ?_); rintro e w2 ⟨rfl, hf2⟩; have HS := Lib.hid (HHA.out _ ((HFR.out.trans (Fr.alloc wr (.cells #[.int .i64 vk, .float .f64 vn, .string vT, .int .i64 vr] 31 (0, 0))) (fun _ h => by cases h)).trans hf2 (fun _ h => by cases h))); clear hf2))
          | fail)
        go_ret2
        exact ⟨rfl, HS.out⟩
    · have hje : j = n := by omega
      subst hje
      obtain ⟨c1, f1⟩ := HC1.out wr hfr
      have hallt : l.all (rightV A.objs.length) = true := by rw [hall, List.drop_eq_nil_of_le (by omega)]; rfl
      by_cases hge : A.left ≤ j
      · have hR1 : R = ((0, 112), A) := by
          rw [← HRR.out]
          unfold Hp.array
          rw [if_pos hallt, if_pos (by omega)]
        subst hR1
        have HS := Lib.hid (HHA.out wr hfr)
        clear hrl hj hall hfr hallt HRR hln
        go_wp2
        go_ret2
        exact ⟨rfl, HS.out⟩
      · have hR1 : R = (((A.objs.length : Int), 0), ⟨A.objs ++ [arrO l], A.left - l.length - 1⟩) := by
          rw [← HRR.out]
          unfold Hp.array
          rw [if_pos hallt, if_neg (by omega)]
        have hcp := HTL.out wr hfr (by omega) _ rfl
        have HCP := Lib.hid hcp
        have HFR := Lib.hid hfr
        have hz1 : IntKind.i64.wrap ((A.left : Int) - (j : Int)) = (A.left : Int) - (j : Int) := IntWalk.i64_in _ (by omega)
        clear hrl hj hall hfr hallt HRR hln hcp HHA HIT HTL HRT HC1 HS0
        subst hR1
        go_wp2_with (first
          | (go_at_call 57; ((with_reducible refine (HCP.out).mono ?_); rintro e w2 ⟨rfl, hadd⟩; have HADD := Lib.hid hadd; clear hadd))
          | (go_at_call 43; ((with_reducible refine (HADD.out).mono ?_); rintro e w3 ⟨rfl, hS⟩; have HS := Lib.hid (Step.pre HFR.out hS); clear hS))
          | fail)
        go_ret2
        exact ⟨rfl, HS.out⟩
end Go.Proofs.YtmndmnajgfabnaaDoor
