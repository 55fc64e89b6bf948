/- Layer 8: Array. Conditions: those that each theorem names. Layer 8: the calls of a heap, one behind the other, with blocks beside it that stay. Conditions: those that each theorem names. Layer 8: what the document's own words of layers 1, 4 and 8 answer: a text as a wide one, a number as a value, the same value. Conditions: those that each theorem names. Layer 8: awake. Conditions: none. -/
import Derived.Test.YtmhoebbdapjpeaaDoorY9
import Derived.Laws.IdiomStrings
namespace Go.Proofs.YtmhoebbdapjpeaaDoor
open Go.RowKit Go.Maps
set_option linter.all false

def arrO (l : List V) : Ob := ⟨2, -1, 0, 0, 0, [], l⟩
/-- An array is made. -/
def Hp.array (A : Hp) (l : List V) : (Int × Int) × Hp :=
  if l.all (rightV A.objs.length) = true then
    if A.left ≤ l.length then ((0, 112), A) else (((A.objs.length : Int), 0), ⟨A.objs ++ [arrO l], A.left - l.length - 1⟩)
  else ((0, 1), A)
def ArrPost (h : Nat) (R : (Int × Int) × Hp) (O : List Nat) (w : World) (e : Ending) (w' : World) : Prop :=
  e = .returned (.tuple #[.int .i64 R.1.1, .int .i64 R.1.2]) ∧ Step h R.2 O w w'
/-- What comes behind the look at the items. -/
theorem array_tail (h : Nat) (A : Hp) (sv : Value) (gs : List Gx) (l : List V) (v : Value) (n : Nat) (hnl : l.length = n) (w : World) (H : HeapG h A sv gs w) (F : A.Few) (hfit : l.length < A.left) (hR : RowAt w v n (itemCells l)) (hv : l ≠ [] → ∀ x ∈ v.ownBlock.toList, x ≠ h) :
    ∀ w1, w1 = w.setCell ⟨h, 1, none⟩ (.int .i64 ((A.left : Int) - (n : Int))) → Calls Tryd.prog 57 #[v] w1 fun e w2 => e = .returned (.slice (some ⟨w.heap.size, 0, none⟩) n n) ∧
      Calls Tryd.prog 43 #[.pointer (some ⟨h, 0, none⟩), .agg #[.int .i64 2, .int .i64 (-1), .map none, .pointer none, .slice (some ⟨w.heap.size, 0, none⟩) n n, .int .i64 0, .int .i64 0, .int .i64 0]] w2 fun e w' =>
        e = .returned (.tuple #[.int .i64 (A.objs.length : Int), .int .i64 0]) ∧ Step h ⟨A.objs ++ [arrO l], A.left - l.length - 1⟩ (allBlocks h sv gs) w w' := by
  intro w1 hw1
  have f1 : Fr [h] w w1 := by rw [hw1]; exact Fr.set w h 1 _
  have s1 : w1.heap.size = w.heap.size := by rw [hw1, heap_size_set]
  have hh1 : HpC h sv (((A.left - l.length : Nat) : Int)) w1 := by
    have := heap_set H.hp 1 (.int .i64 ((A.left : Int) - (n : Int)))
    rw [hw1]
    have e : (((A.left - l.length : Nat) : Int)) = (A.left : Int) - (n : Int) := by omega
    rw [e]
    exact this
  have hhl := H.lt_h
  have hne : ∀ x ∈ allBlocks h sv gs, x ≠ h → w1.heap[x]? = w.heap[x]? := fun x hx hn => f1.block x (H.lt x hx) (by simp [hn])
  have hap := H.apart
  have hnh : ∀ x, x ∈ sv.ownBlock.toList ∨ x ∈ gs.flatMap Gx.blocks → x ≠ h := by
    intro x hx e
    subst e
    unfold allBlocks at hap
    rw [List.cons_append, List.nodup_cons] at hap
    exact hap.1 (List.mem_append.2 hx)
  have hG1 : HeapG h ⟨A.objs, A.left - l.length⟩ sv gs w1 := by
    refine { hp := hh1, row := row_keep H.row (fun x hx => hne x ?_ (hnh x (Or.inl hx))), len := H.len, obs := fun i o g ho hg => (H.obs i o g ho hg).keep (fun x hx => hne x ?_ (hnh x (Or.inr ?_))), apart := H.apart, lt := fun b hb => by rw [s1]; exact H.lt b hb }
    · unfold allBlocks; exact List.mem_append_left _ (List.mem_cons_of_mem _ hx)
    · unfold allBlocks; exact List.mem_append_right _ (List.mem_flatMap.2 ⟨g, List.mem_of_getElem? hg, hx⟩)
    · exact List.mem_flatMap.2 ⟨g, List.mem_of_getElem? hg, hx⟩
  have hR1 : RowAt w1 v n (itemCells l) := by
    obtain ⟨h1, p, cap, hv', hn, hc⟩ := hR
    refine ⟨h1, p, cap, hv', hn, fun a ha j u hj => ?_⟩
    have hc := hc a ha j u hj
    have hblk : (a.add j).block = a.block := by unfold Addr.add; split <;> rfl
    have hane : a.block ≠ h := hv (by rintro rfl; simp [itemCells] at hj) a.block (by rw [hv', ha]; simp [Value.ownBlock])
    have hlt : (a.add j).block < w.heap.size := by
      rcases Nat.lt_or_ge (a.add j).block w.heap.size with h | h
      · exact h
      · simp [World.cell?, Array.getElem?_eq_none h] at hc
    rw [← hc]
    exact World.cell?_of_block (f1.block _ hlt (by simp [hblk, hane]))
  refine (copied_any v n l (by have := F.left; omega) w1 hR1).mono ?_
  rintro e w2 ⟨rfl, ho2, f2⟩
  rw [s1] at ho2 ⊢
  refine ⟨rfl, ?_⟩
  have hadd := add_ok h ⟨A.objs, A.left - l.length⟩ sv gs (A.left - l.length - 1) (arrO l) (.slice (some ⟨w.heap.size, 0, none⟩) n n) w2 (hG1.fr f2) (by show A.left - l.length = _; omega) (by have := F.left; omega) F.objs rfl
    (by
      obtain ⟨q1, q2⟩ := ho2
      refine ⟨by show (itemCells l).length = l.length * 4; rw [q1, hnl], ?_⟩
      rcases q2 with ⟨q, _⟩ | ⟨g, cap, cur, q3, q4, q5, q6, q7, q8, q9⟩
      · cases q
      · refine Or.inr ⟨g, cap, cur, ?_, Nat.zero_le _, q5, ?_, q7, q8, ?_⟩
        · rw [q3]; show _ = Value.slice _ l.length _; rw [hnl]
        · show l.length ≤ _; omega
        · show List.take (l.length * 4) _ = _; rw [hnl]; exact q9)
    (by
      intro x hx hm
      simp [Value.ownBlock] at hx
      have := H.lt x hm
      omega)
  refine hadd.mono ?_
  rintro e w' ⟨rfl, hA⟩
  refine ⟨rfl, ?_⟩
  obtain ⟨⟨O', hO', hsub⟩, hfr⟩ := hA
  have f12 : Fr [h] w w2 := f1.trans f2 (fun _ h => by cases h)
  refine ⟨⟨O', hO', fun b hb => ?_⟩, (f12.mono (fun z hz => Or.inl (by simp at hz; rw [hz]; simp [allBlocks]))).trans hfr (fun z hz => Or.inl hz)⟩
  have := f12.size
  rcases hsub b hb with h1 | h1 | h1
  · exact Or.inl h1
  · exact Or.inr (by omega)
  · simp [Value.ownBlock] at h1
    exact Or.inr (by omega)
def ArrRel (m : Nat) (l : List V) (w : World) (j : Nat) (wr : World) : Prop := j ≤ l.length ∧ l.all (rightV m) = (l.drop j).all (rightV m) ∧ Fr [] w wr
theorem add_plain2 (b off j : Nat) : (⟨b, off, none⟩ : Addr).add j = ⟨b, off + j, none⟩ := by unfold Addr.add; split <;> simp_all
set_option maxRecDepth 100000 in
set_option maxHeartbeats 4000000 in
theorem array_any (h : Nat) (A : Hp) (sv : Value) (gs : List Gx) (l : List V) (v : Value) (w : World) (H : HeapG h A sv gs w) (F : A.Few) (hl : l.length ≤ 10000) (hR : RowAt w v l.length (itemCells l)) (hv : l ≠ [] → ∀ x ∈ v.ownBlock.toList, x ≠ h) (hts : ∀ u ∈ l, u.t.length ≤ maxLen) :
    Calls Tryd.prog 28 #[.pointer (some ⟨h, 0, none⟩), v] w (ArrPost h (A.array l) (allBlocks h sv gs) w) := by
  obtain ⟨sp, scap, hsv⟩ := row_slice H.row
  have hGL := H.len
  have hright : ∀ (u : V), u ∈ l → ∀ W, Fr [] w W → Calls Tryd.prog 46 #[.pointer (some ⟨h, 0, none⟩), .agg #[.int .i64 u.k, .float .f64 u.n, .string (bs u.t), .int .i64 u.r]] W fun e w' => e = .returned (.bool (rightV A.objs.length u)) ∧ Fr [] W w' := by
    intro u hu W hW
    have := (H.fr hW).hp
    rw [hsv] at this
    refine (isRight_any h sp gs.length scap A.left u.k u.n u.t (hts u hu) u.r W this).mono ?_
    rintro e w' ⟨rfl, hb⟩
    exact ⟨by rw [hGL], .of_below hb⟩
  obtain ⟨R, hRR⟩ : ∃ R, A.array l = R := ⟨_, rfl⟩
  rw [hRR]
  obtain ⟨n, hn⟩ : ∃ n, l.length = n := ⟨_, rfl⟩
  have htail : ∀ W, Fr [] w W → l.length < A.left → ∀ w1, w1 = W.setCell ⟨h, 1, none⟩ (.int .i64 ((A.left : Int) - (n : Int))) → Calls Tryd.prog 57 #[v] w1 fun e w2 => e = .returned (.slice (some ⟨W.heap.size, 0, none⟩) n n) ∧
      Calls Tryd.prog 43 #[.pointer (some ⟨h, 0, none⟩), .agg #[.int .i64 2, .int .i64 (-1), .map none, .pointer none, .slice (some ⟨W.heap.size, 0, none⟩) n n, .int .i64 0, .int .i64 0, .int .i64 0]] w2 fun e w' =>
        e = .returned (.tuple #[.int .i64 (A.objs.length : Int), .int .i64 0]) ∧ Step h ⟨A.objs ++ [arrO l], A.left - l.length - 1⟩ (allBlocks h sv gs) W w' :=
    fun W hW hf => array_tail h A sv gs l v n hn W (H.fr hW) F hf (by rw [← hn]; exact hR.fr hW) hv
  rw [hn] at hR
  obtain ⟨hRl, p, cap, hvv, hpn, hcells⟩ := hR
  have hitem : ∀ (j : Nat) (u : V), l[j]? = some u → ∃ b off, p = some ⟨b, off, none⟩ ∧ j < n ∧ ∀ W, Fr [] w W → W.cell? ⟨b, off + j * 4, none⟩ = some (.int .i64 u.k) ∧ W.cell? ⟨b, off + j * 4 + 1, none⟩ = some (.float .f64 u.n) ∧ W.cell? ⟨b, off + j * 4 + 2, none⟩ = some (.string (bs u.t)) ∧ W.cell? ⟨b, off + j * 4 + 3, none⟩ = some (.int .i64 u.r) := by
    intro j u hu
    have hj : j < l.length := by
      rcases Nat.lt_or_ge j l.length with h' | h'
      · exact h'
      · rw [List.getElem?_eq_none h'] at hu; cases hu
    obtain ⟨a0, a1, a2, a3⟩ := item_at l j u hu
    cases hp : p with
    | none => have := hpn hp; omega
    | some a =>
      have hc := hcells a hp
      obtain ⟨b, off, spot⟩ := a
      obtain ⟨u0, hu0⟩ : ∃ u0, (itemCells l)[0]? = some u0 := by
        have : 0 < (itemCells l).length := by rw [hRl]; omega
        exact ⟨_, List.getElem?_eq_getElem this⟩
      have hc0 := hc 0 u0 hu0
      have hspot : spot = none := by simpa [Addr.add] using World.cell?_spot hc0
      subst hspot
      refine ⟨b, off, rfl, by omega, fun W hW => ?_⟩
      have key : ∀ i x, (itemCells l)[i]? = some x → W.cell? ⟨b, off + i, none⟩ = some x := by
        intro i x hx
        have h1 := hc i x hx
        rw [add_plain2] at h1
        have hlt : b < w.heap.size := by
          rcases Nat.lt_or_ge b w.heap.size with h | h
          · exact h
          · simp [World.cell?, Array.getElem?_eq_none h] at h1
        rw [hW.cell hlt List.not_mem_nil]
        exact h1
      rw [show j * 4 = 4 * j by omega]
      exact ⟨key _ _ a0, key _ _ a1, key _ _ a2, key _ _ a3⟩
  have HRT := Lib.hid hright
  have HTL := Lib.hid htail
  have HIT := Lib.hid hitem
  have hc1 : ∀ W, Fr [] w W → W.cell? ⟨h, 1, none⟩ = some (.int .i64 (A.left : Int)) ∧ W.frozen? ⟨h, 1, none⟩ = false := fun W hW => ⟨(H.fr hW).hp.c1, blk_free (H.fr hW).hp 1⟩
  have HC1 := Lib.hid hc1
  have hleft := F.left
  have hHA : ∀ W, Fr [] w W → Step h A (allBlocks h sv gs) w W := fun W hW => Step.same ⟨sv, gs, H, rfl⟩ hW
  have HHA := Lib.hid hHA
  have HRR := Lib.hid hRR
  have hS0 : ArrRel A.objs.length l w 0 w := ⟨Nat.zero_le _, rfl, Fr.refl _ _⟩
  have HS0 := Lib.hid hS0
  have hst := store_float
  generalize allBlocks h sv gs = O at *
  have HN := Lib.hid hn
  have hn1 : n ≤ 10000 := by omega
  clear hS0 hright htail hitem hc1 hHA hRR hGL hsv hcells hpn hRl hts hv H hn hl
  subst hvv
  go_enter Tryd.func28, Tryd.ntmps28
  go_wp2
  go_loopg [10] n (fun gk iv wr => ∃ j : Nat, iv = .int .i64 (j : Int) ∧ n - j = gk ∧ Hid (ArrRel A.objs.length l w j wr))
  case atStart => exact ⟨0, rfl, by omega, HS0⟩
  case round =>
    obtain ⟨j, rfl, hgk, hrl⟩ := hrel
    obtain ⟨hj, hall, hfr⟩ := hrl.out
    have hln := HN.out
    by_cases hlt : j < n
    · have hu : l[j]? = some l[j] := List.getElem?_eq_getElem (by omega)
      have hmem : l[j] ∈ l := List.getElem_mem _
      have hdrop : l.drop j = l[j] :: l.drop (j + 1) := List.drop_eq_getElem_cons (by omega)
      generalize l[j] = u at hu hmem hdrop
      have hrt := HRT.out u hmem
      obtain ⟨b, off, rfl, _, hcl⟩ := HIT.out j u hu
      have hcl := hcl wr hfr
      have HFR := Lib.hid hfr
      have HALL := Lib.hid hall
      have HDR := Lib.hid hdrop
      have HRTU := Lib.hid (fun O => hrt (wr.alloc O) (hfr.trans (Fr.alloc wr O) (fun _ h => by cases h)))
      obtain ⟨c0, c1, c2, c3⟩ := hcl
      clear hrl hj hall hfr hdrop hrt hu hmem hcl hln
      cases hru : rightV A.objs.length u with
      | true =>
        have hrel' : ∀ W, Fr [] wr W → ArrRel A.objs.length l w (j + 1) W := by
          intro W hW
          refine ⟨by have := HN.out; omega, ?_, HFR.out.trans hW (fun _ h => by cases h)⟩
          rw [HALL.out, HDR.out, List.all_cons, hru, Bool.true_and]
        have HREL := Lib.hid hrel'
        rw [hru] at HRTU
        clear hrel' hru HALL HDR
        generalize u.k = vk at *
        generalize u.n = vn at *
        generalize bs u.t = vT at *
        generalize u.r = vr at *
        go_wp2_with (first
          | (go_at_call 46; ((with_reducible refine (HRTU.out _).mono ?_); rintro e w2 ⟨rfl, hf2⟩; have HF2 := Lib.hid (HREL.out _ ((Fr.alloc wr (.cells #[.int .i64 vk, .float .f64 vn, .string vT, .int .i64 vr] 31 (0, 0))).trans hf2 (fun _ h => by cases h))); clear hf2))
          | fail)
        go_roundg (n - (j + 1))
        case measure => omega
        case rel => exact ⟨j + 1, by go_num, rfl, HF2⟩
      | false =>
        have hR1 : R = ((0, 1), A) := by
          rw [← HRR.out]
          unfold Hp.array
          rw [HALL.out, HDR.out, List.all_cons, hru, Bool.false_and, if_neg (by simp)]
        subst hR1
        rw [hru] at HRTU
        clear hru HALL HDR HRR
        generalize u.k = vk at *
        generalize u.n = vn at *
        generalize bs u.t = vT at *
        generalize u.r = vr at *
        go_wp2_with (first
          | (go_at_call 46; ((with_reducible refine (HRTU.out _).mono ?_); rintro e w2 ⟨rfl, hf2⟩; have HS := Lib.hid (HHA.out _ ((HFR.out.trans (Fr.alloc wr (.cells #[.int .i64 vk, .float .f64 vn, .string vT, .int .i64 vr] 31 (0, 0))) (fun _ h => by cases h)).trans hf2 (fun _ h => by cases h))); clear hf2))
          | fail)
        go_ret2
        exact ⟨rfl, HS.out⟩
    · have hje : j = n := by omega
      subst hje
      obtain ⟨c1, f1⟩ := HC1.out wr hfr
      have hallt : l.all (rightV A.objs.length) = true := by rw [hall, List.drop_eq_nil_of_le (by omega)]; rfl
      by_cases hge : A.left ≤ j
      · have hR1 : R = ((0, 112), A) := by
          rw [← HRR.out]
          unfold Hp.array
          rw [if_pos hallt, if_pos (by omega)]
        subst hR1
        have HS := Lib.hid (HHA.out wr hfr)
        clear hrl hj hall hfr hallt HRR hln
        go_wp2
        go_ret2
        exact ⟨rfl, HS.out⟩
      · have hR1 : R = (((A.objs.length : Int), 0), ⟨A.objs ++ [arrO l], A.left - l.length - 1⟩) := by
          rw [← HRR.out]
          unfold Hp.array
          rw [if_pos hallt, if_neg (by omega)]
        have hcp := HTL.out wr hfr (by omega) _ rfl
        have HCP := Lib.hid hcp
        have HFR := Lib.hid hfr
        have hz1 : IntKind.i64.wrap ((A.left : Int) - (j : Int)) = (A.left : Int) - (j : Int) := IntWalk.i64_in _ (by omega)
        clear hrl hj hall hfr hallt HRR hln hcp HHA HIT HTL HRT HC1 HS0
        subst hR1
        go_wp2_with (first
          | (go_at_call 57; ((with_reducible refine (HCP.out).mono ?_); rintro e w2 ⟨rfl, hadd⟩; have HADD := Lib.hid hadd; clear hadd))
          | (go_at_call 43; ((with_reducible refine (HADD.out).mono ?_); rintro e w3 ⟨rfl, hS⟩; have HS := Lib.hid (Step.pre HFR.out hS); clear hS))
          | fail)
        go_ret2
        exact ⟨rfl, HS.out⟩
end Go.Proofs.YtmhoebbdapjpeaaDoor
namespace Go.Proofs.YtmhoebbdapjpeaaDoor
open Go.RowKit Go.Maps
set_option linter.all false

/-- A heap lies at h, in blocks from N on; the blocks L are none of its; below N all is as it was in w0. -/
def Hv (N h : Nat) (A : Hp) (L : List Nat) (w0 w : World) : Prop := ∃ sv gs, HeapG h A sv gs w ∧ A.Few ∧ (∀ b ∈ allBlocks h sv gs, N ≤ b) ∧ (∀ M ∈ L, M < w.heap.size ∧ M ∉ allBlocks h sv gs) ∧ Below N w0 w ∧ N ≤ w.heap.size
structure Nx (N h : Nat) (A : Hp) (L : List Nat) (w0 w w' : World) : Prop where
  hv : Hv N h A L w0 w'
  keep : ∀ M ∈ L, w'.heap[M]? = w.heap[M]?
  size : w.heap.size ≤ w'.heap.size
theorem Hv.fr {N h : Nat} {A : Hp} {L : List Nat} {w0 w w' : World} (H : Hv N h A L w0 w) (hf : Fr [] w w') : Nx N h A L w0 w w' := by
  obtain ⟨sv, gs, hG, hF, h1, h2, h3, h4⟩ := H
  have hs := hf.size
  exact ⟨⟨sv, gs, hG.fr hf, hF, h1, fun M hM => ⟨Nat.lt_of_lt_of_le (h2 M hM).1 hs, (h2 M hM).2⟩, h3.trans (hf.below h4 (fun b hb => by cases hb)), Nat.le_trans h4 hs⟩, fun M hM => hf.block M (h2 M hM).1 List.not_mem_nil, hs⟩
theorem Hv.alloc {N h : Nat} {A : Hp} {L : List Nat} {w0 w : World} (H : Hv N h A L w0 w) (o : Obj) : Hv N h A (w.heap.size :: L) w0 (w.alloc o) := by
  obtain ⟨sv, gs, hG, hF, h1, h2, h3, h4⟩ := H
  refine ⟨sv, gs, hG.fr (Fr.alloc w o), hF, h1, ?_, h3.alloc h4 o, by rw [heap_size]; omega⟩
  intro M hM
  rw [heap_size]
  rcases List.mem_cons.1 hM with rfl | hM
  · exact ⟨by omega, fun hm => Nat.lt_irrefl _ (hG.lt _ hm)⟩
  · exact ⟨by have := (h2 M hM).1; omega, (h2 M hM).2⟩
theorem Hv.step {N h : Nat} {A' : Hp} {L : List Nat} {w0 w w' : World} {sv : Value} {gs : List Gx} (hF : A'.Few) (h1 : ∀ b ∈ allBlocks h sv gs, N ≤ b) (h2 : ∀ M ∈ L, M < w.heap.size ∧ M ∉ allBlocks h sv gs) (h3 : Below N w0 w) (h4 : N ≤ w.heap.size)
    (S : Step h A' (allBlocks h sv gs) w w') : Nx N h A' L w0 w w' := by
  obtain ⟨⟨O', ⟨sv', gs', hG', rfl⟩, hsub⟩, hfr⟩ := S
  have hs := hfr.size
  refine ⟨⟨sv', gs', hG', hF, ?_, ?_, h3.trans (hfr.below h4 h1), Nat.le_trans h4 hs⟩, fun M hM => hfr.block M (h2 M hM).1 (h2 M hM).2, hs⟩
  · intro b hb
    rcases hsub b hb with h | h
    · exact h1 b h
    · omega
  · intro M hM
    refine ⟨Nat.lt_of_lt_of_le (h2 M hM).1 hs, fun hm => ?_⟩
    rcases hsub M hm with h | h
    · exact (h2 M hM).2 h
    · have := (h2 M hM).1; omega
theorem new_h (c : Int) (w0 w : World) (N : Nat) (h3 : Below N w0 w) (h4 : N ≤ w.heap.size) (L : List Nat) (hL : ∀ M ∈ L, M < w.heap.size) : Calls Tryd.prog 14 #[.int .i64 c] w fun e w' => e = .returned (.pointer (some ⟨w.heap.size, 0, none⟩)) ∧ Nx N w.heap.size ⟨[], clampC c⟩ L w0 w w' := by
  refine (new_heap c w).mono ?_
  rintro e w' ⟨rfl, hG, hf⟩
  have hs := hf.size
  have hcl : clampC c ≤ 10000 := by unfold clampC; omega
  refine ⟨rfl, ⟨_, _, hG, ⟨hcl, Nat.zero_le _, fun i o ho => by simp at ho, fun i o ho => by simp at ho, fun i o ho => by simp at ho⟩, ?_, ?_, h3.trans (hf.below h4 (fun b hb => by cases hb)), by omega⟩, fun M hM => hf.block M (hL M hM) List.not_mem_nil, hs⟩
  · intro b hb
    simp [allBlocks, Value.ownBlock] at hb
    omega
  · intro M hM
    have := hL M hM
    refine ⟨by omega, ?_⟩
    simp [allBlocks, Value.ownBlock]
    omega
theorem plain_h {N h : Nat} {A : Hp} {L : List Nat} {w0 w : World} (H : Hv N h A L w0 w) (p : Int) (hF' : (A.make p (plainO p)).2.Few) :
    Calls Tryd.prog 16 #[.pointer (some ⟨h, 0, none⟩), .int .i64 p] w fun e w' => e = .returned (.tuple #[.int .i64 (A.make p (plainO p)).1.1, .int .i64 (A.make p (plainO p)).1.2]) ∧ Nx N h (A.make p (plainO p)).2 L w0 w w' := by
  obtain ⟨sv, gs, hG, hF, h1, h2, h3, h4⟩ := H
  refine (plain_any h A sv gs p w hG hF.left hF.objs).mono ?_
  rintro e w' ⟨rfl, hS⟩
  exact ⟨rfl, Hv.step hF' h1 h2 h3 h4 hS⟩
theorem array_h {N h : Nat} {A : Hp} {L : List Nat} {w0 w : World} (H : Hv N h A L w0 w) (l : List V) (v : Value) (hl : l.length ≤ 10000) (hR : RowAt w v l.length (itemCells l)) (hv : l ≠ [] → ∀ x ∈ v.ownBlock.toList, x ∈ L ∨ x < N) (hts : ∀ u ∈ l, u.t.length ≤ maxLen) (hF' : (A.array l).2.Few) :
    Calls Tryd.prog 28 #[.pointer (some ⟨h, 0, none⟩), v] w fun e w' => e = .returned (.tuple #[.int .i64 (A.array l).1.1, .int .i64 (A.array l).1.2]) ∧ Nx N h (A.array l).2 L w0 w w' := by
  obtain ⟨sv, gs, hG, hF, h1, h2, h3, h4⟩ := H
  have hhm : h ∈ allBlocks h sv gs := by simp [allBlocks]
  refine (array_any h A sv gs l v w hG hF hl hR ?_ hts).mono ?_
  · intro hne x hx e
    subst e
    rcases hv hne x hx with h | h
    · exact (h2 x h).2 hhm
    · have := h1 x hhm; omega
  · rintro e w' ⟨rfl, hS⟩
    exact ⟨rfl, Hv.step hF' h1 h2 h3 h4 hS⟩
theorem lt_of_getElem {α : Type} {l : List α} {i : Nat} {x : α} (h : l[i]? = some x) : i < l.length := by
  rcases Nat.lt_or_ge i l.length with h' | h'
  · exact h'
  · rw [List.getElem?_eq_none h'] at h; cases h
theorem put_h {N h : Nat} {A : Hp} {L : List Nat} {w0 w : World} (H : Hv N h A L w0 w) (i : Nat) (o : Ob) (ho : A.objs[i]? = some o) (k : List UInt8) (hk : k.length ≤ 140737488355328) (vk : Int) (vn : Nat) (vt : List UInt8) (ht : vt.length ≤ maxLen) (vr : Int) (hkind : o.kind ≠ 2) (hv : rightV A.objs.length ⟨vk, vn, vt, vr⟩ = true) (hF' : (A.putOwn i o k ⟨vk, vn, vt, vr⟩).2.Few) :
    Calls Tryd.prog 18 #[.pointer (some ⟨h, 0, none⟩), .int .i64 (i : Int), .string (bs k), .agg #[.int .i64 vk, .float .f64 vn, .string (bs vt), .int .i64 vr]] w fun e w' =>
      e = .returned (.int .i64 (A.putOwn i o k ⟨vk, vn, vt, vr⟩).1) ∧ Nx N h (A.putOwn i o k ⟨vk, vn, vt, vr⟩).2 L w0 w w' := by
  obtain ⟨sv, gs, hG, hF, h1, h2, h3, h4⟩ := H
  have hg : gs[i]? = some (gs[i]'(by rw [← hG.len]; exact lt_of_getElem ho)) := List.getElem?_eq_getElem _
  refine (put_plain h A sv gs i o _ k hk vk vn vt ht vr w hG ho hg hF.left hF.objs (Nat.lt_of_le_of_lt (hF.props i o ho) (by decide)) hkind hv).mono ?_
  rintro e w' ⟨rfl, hS⟩
  exact ⟨rfl, Hv.step hF' h1 h2 h3 h4 hS⟩
theorem get_h {N h : Nat} {A : Hp} {L : List Nat} {w0 w : World} (H : Hv N h A L w0 w) (i : Int) (k : List UInt8) (hk : k.length ≤ 140737488355328) :
    Calls Tryd.prog 24 #[.pointer (some ⟨h, 0, none⟩), .int .i64 i, .string (bs k)] w fun e w' => e = .returned (ansV ((A.find k i).map (·.2))) ∧ Nx N h A L w0 w w' := by
  have H' := H
  obtain ⟨sv, gs, hG, hF, h1, h2, h3, h4⟩ := H
  refine (get_any h A sv gs i k hk w hG hF).mono ?_
  rintro e w' ⟨rfl, hf⟩
  exact ⟨rfl, H'.fr hf⟩
theorem own_h {N h : Nat} {A : Hp} {L : List Nat} {w0 w : World} (H : Hv N h A L w0 w) (i : Nat) (o : Ob) (ho : A.objs[i]? = some o) (k : List UInt8) (hk : k.length ≤ 140737488355328) :
    Calls Tryd.prog 23 #[.pointer (some ⟨h, 0, none⟩), .int .i64 (i : Int), .string (bs k)] w fun e w' => e = .returned (ansV (o.own k)) ∧ Nx N h A L w0 w w' := by
  have H' := H
  obtain ⟨sv, gs, hG, hF, h1, h2, h3, h4⟩ := H
  refine (own_any h A sv gs i o k hk w hG ho hF.objs (hF.items i o ho)).mono ?_
  rintro e w' ⟨rfl, hf⟩
  exact ⟨rfl, H'.fr hf⟩
theorem drop_h {N h : Nat} {A : Hp} {L : List Nat} {w0 w : World} (H : Hv N h A L w0 w) (i : Nat) (o : Ob) (ho : A.objs[i]? = some o) (k : List UInt8) (hk : k.length ≤ 140737488355328) (hkind : o.kind ≠ 2) (v : V) (hv : lookP o.props k = some v) (hF' : Hp.Few ⟨A.objs.set i { o with props := dropP o.props k }, A.left + 1⟩) :
    Calls Tryd.prog 26 #[.pointer (some ⟨h, 0, none⟩), .int .i64 (i : Int), .string (bs k)] w fun e w' => e = .returned (.bool true) ∧ Nx N h ⟨A.objs.set i { o with props := dropP o.props k }, A.left + 1⟩ L w0 w w' := by
  obtain ⟨sv, gs, hG, hF, h1, h2, h3, h4⟩ := H
  refine (drop_props h A sv gs i o k hk w hG hF ho (fun e => hkind e.1) (by unfold oIdx; rw [if_neg hkind]) v hv).mono ?_
  rintro e w' ⟨rfl, hS⟩
  exact ⟨rfl, Hv.step hF' h1 h2 h3 h4 hS⟩
theorem keys_h {N h : Nat} {A : Hp} {L : List Nat} {w0 w : World} (H : Hv N h A L w0 w) (N' : Nat) (hT : Tb N' w) (i : Nat) (o : Ob) (ho : A.objs[i]? = some o) :
    Calls Tryd.prog 17 #[.pointer (some ⟨h, 0, none⟩), .int .i64 (i : Int)] w fun e w' => ∃ p cap, e = .returned (.slice p (o.items.length + o.props.length) cap) ∧ w'.ownsRow w.heap.size 9 1 (.slice p (o.items.length + o.props.length) cap) (o.items.length + o.props.length) o.keyVs ∧ Nx N h A L w0 w w' ∧ Fr [] w w' := by
  have H' := H
  obtain ⟨sv, gs, hG, hF, h1, h2, h3, h4⟩ := H
  refine (keys_any N' h A sv gs i o w hG hF ho hT).mono ?_
  rintro e w' ⟨v', rfl, ho', hf⟩
  obtain ⟨p, cap, hv⟩ := row_slice ho'
  subst hv
  exact ⟨p, cap, rfl, ho', H'.fr hf, hf⟩
end Go.Proofs.YtmhoebbdapjpeaaDoor
namespace Go.Proofs.YtmhoebbdapjpeaaDoor
open Go.RowKit Go.Maps Go.Shelf
set_option linter.all false

theorem conv_list (w : World) (l : List UInt8) (C : Array Value) (hc : C.toList = l.map fun b => Value.int .u8 (b.toNat : Int)) :
    (convert 105 9 (.slice (some ⟨w.heap.size, 0, none⟩) l.length l.length)).run Tryd.prog (w.alloc (.cells C 5)) = .ok (.string ⟨l.toArray⟩) (w.alloc (.cells C 5)) := by
  refine run_convert_bytes_back (P := Tryd.prog) (w.alloc (.cells C 5)) 105 9 5 ⟨w.heap.size, 0, none⟩ l.length l Tryd.underlying105 Tryd.underlying5 Tryd.underlying9 (fun j hj => ?_)
  have e : (⟨w.heap.size, 0, none⟩ : Addr).add j = ⟨w.heap.size, j, none⟩ := by unfold Addr.add; split <;> simp_all
  rw [e]
  have h := World.cell?_alloc_mark w C 5 (0, 0) j
  have h2 : C[j]? = some (.int .u8 (l[j].toNat : Int)) := by
    rw [← Array.getElem?_toList, hc, List.getElem?_map, List.getElem?_eq_getElem hj]
    rfl
  rw [h2] at h
  exact h
set_option maxHeartbeats 1000000 in
theorem unitS (z : Int) (h0 : 0 ≤ z) (h1 : z < 65536) (w : World) :
    Calls Tryd.prog 58 #[.int .i64 z] w fun e w' => e = .returned (.string (bs (U.be z.toNat))) ∧ Fr [] w w' := by
  have hb := conv_list w (U.be z.toNat) #[.int .u8 (z / 256), .int .u8 (z % 256)] (byteCells_be z h0 h1).symm
  rw [show (U.be z.toNat).length = 2 from rfl] at hb
  obtain ⟨R, hR⟩ : ∃ R : ByteArray, (⟨(U.be z.toNat).toArray⟩ : ByteArray) = R := ⟨_, rfl⟩
  rw [hR] at hb
  have hR' : bs (U.be z.toNat) = R := hR
  rw [hR']
  clear hR hR'
  go_enter Tryd.func58, Tryd.ntmps58
  go_wp2
  go_ret
  exact ⟨rfl, Fr.alloc _ _⟩
/-- A text's bytes as units. -/
def ofB (l : List UInt8) : List UInt8 := l.flatMap fun b => U.be b.toNat
theorem ofB_len (l : List UInt8) : (ofB l).length = 2 * l.length := by
  unfold ofB
  induction l with
  | nil => rfl
  | cons a l ih => rw [List.flatMap_cons, List.length_append, ih, be_length, List.length_cons]; omega
theorem ofB_snoc (l : List UInt8) (b : UInt8) : ofB (l ++ [b]) = ofB l ++ U.be b.toNat := by unfold ofB; rw [List.flatMap_append]; simp
theorem bs_append (a b : List UInt8) : bs a ++ bs b = bs (a ++ b) := by
  apply str_ext
  show (bs a ++ bs b).data.toList = a ++ b
  rw [ByteArray.data_append]
  simp [bs]
def OfRel (l : List UInt8) (w : World) (j : Nat) (S : ByteArray) (wr : World) : Prop := j ≤ l.length ∧ S = bs (ofB (l.take j)) ∧ Fr [] w wr
set_option maxHeartbeats 1000000 in
theorem of_any (l : List UInt8) (hl : l.length ≤ 100000) (w : World) :
    Calls Tryd.prog 30 #[.string (bs l)] w fun e w' => e = .returned (.string (bs (ofB l))) ∧ Fr [] w w' := by
  have hsz := bs_size l
  have hget : ∀ (j : Nat) (h : j < (bs l).size) (h2 : j < l.length), ((bs l)[j]).toNat = (l[j]).toNat := fun j h h2 => by rw [bs_get l j h h2]
  have hS0 : OfRel l w 0 ⟨#[]⟩ w := ⟨Nat.zero_le _, rfl, Fr.refl _ _⟩
  obtain ⟨RR, hRR⟩ : ∃ RR, bs (ofB l) = RR := ⟨_, rfl⟩
  rw [hRR]
  have HRR := Lib.hid hRR
  clear hRR
  have HS0 := Lib.hid hS0
  have HG := Lib.hid hget
  obtain ⟨S, hS⟩ : ∃ S, S = bs l := ⟨_, rfl⟩
  have HSS := Lib.hid hS
  rw [← hS] at hsz ⊢
  have hs1 : S.size ≤ 100000 := by omega
  have HSZ := Lib.hid hsz
  clear hS0 hget hS hsz hl
  go_enter Tryd.func30, Tryd.ntmps30
  go_wp2
  go_loopg [3, 4] S.size (fun gk sv iv wr => ∃ (j : Nat) (T : ByteArray), iv = .int .i64 (j : Int) ∧ sv = .string T ∧ S.size - j = gk ∧ Hid (OfRel l w j T wr))
  case atStart => exact ⟨0, ⟨#[]⟩, rfl, rfl, by omega, HS0⟩
  case round =>
    obtain ⟨j, T, rfl, rfl, hgk, hrl⟩ := hrel
    obtain ⟨hj, hT, hfr⟩ := hrl.out
    have hsz := HSZ.out
    by_cases hlt : j < S.size
    · have hb : S[j].toNat = (l[j]'(by omega)).toNat := by
        have := HSS.out
        subst this
        exact HG.out j hlt (by omega)
      have hwr : wrap64 (S[j].toNat : Int) = (S[j].toNat : Int) := IntWalk.wrap64_in _ ⟨by omega, by have := UInt8.toNat_lt S[j]; omega⟩
      have hu : ∀ W, Calls Tryd.prog 58 #[.int .i64 (wrap64 (S[j].toNat : Int))] W fun e w' => e = .returned (.string (bs (U.be ((S[j].toNat : Int)).toNat))) ∧ Fr [] W w' := by
        intro W; rw [hwr]; exact unitS ((S[j].toNat : Int)) (by omega) (by have := UInt8.toNat_lt S[j]; omega) W
      have htl : T.size = 2 * j := by rw [hT, bs_size, ofB_len, List.length_take]; omega
      have hrel' : ∀ W, Fr [] wr W → OfRel l w (j + 1) (T ++ bs (U.be ((S[j].toNat : Int)).toNat)) W := by
        intro W hW
        refine ⟨by omega, ?_, hfr.trans hW (fun _ h => by cases h)⟩
        have e : l.take (j + 1) = l.take j ++ [l[j]'(by omega)] := by rw [List.take_succ_eq_append_getElem (by omega)]
        rw [e, ofB_snoc, hT, ← bs_append]
        congr 2
        rw [show ((S[j].toNat : Int)).toNat = S[j].toNat by omega, hb]
      have HREL := Lib.hid hrel'
      have hsz2 : (bs (U.be ((S[j].toNat : Int)).toNat)).size = 2 := by rw [bs_size]; rfl
      clear hrel' hrl hj hT hfr hb hsz hwr
      generalize bs (U.be ((S[j].toNat : Int)).toNat) = B at *
      have hsum : ¬ (T.size + B.size > 9223372036854775807) := by omega
      go_wp2_with (go_at_call 58; ((with_reducible refine (hu _).mono ?_); rintro e w2 ⟨rfl, hf2⟩; have HR := Lib.hid (HREL.out _ hf2); clear hf2))
      go_roundg (S.size - (j + 1))
      case measure => omega
      case rel => exact ⟨j + 1, _, by go_num, rfl, rfl, HR⟩
    · have hje : j = S.size := by omega
      have hTT : T = RR := by rw [hT, ← HRR.out, List.take_of_length_le (by omega)]
      have HF := Lib.hid hfr
      subst hje
      subst hTT
      clear hrl hj hT hfr hsz HSZ HSS HG HRR
      go_wp2
      go_ret
      exact ⟨rfl, HF.out⟩
theorem num_any (n : Nat) (w : World) : Calls Tryd.prog 22 #[.float .f64 n] w fun e w' => e = .returned (.agg #[.int .i64 3, .float .f64 n, .string ⟨#[]⟩, .int .i64 0]) ∧ Fr [] w w' := by
  have hst := store_float
  go_enter Tryd.func22, Tryd.ntmps22
  go_wp2
  exact bodyPost_ret (v := .agg #[.int .i64 3, .float .f64 n, .string ⟨#[]⟩, .int .i64 0]) (by simp [results, Tryd.results22, go_sem]) rfl ⟨rfl, Fr.alloc _ _⟩
theorem same4_self (n : Nat) (w : World) : Calls Tryd.prog 52 #[.float .f64 n, .float .f64 n] w fun e w' => e = .returned (.bool true) ∧ w = w' := by
  have x1 := x_bits
  cases hq : (FloatKind.f64.format.order n n != some Ordering.eq)
  · go_enter Tryd.func52, Tryd.ntmps52
    go_wp2
    go_ret
    exact ⟨rfl, rfl⟩
  · go_enter Tryd.func52, Tryd.ntmps52
    go_wp2
    go_ret
    exact ⟨rfl, rfl⟩
set_option maxHeartbeats 1000000 in
theorem same8_self (k : Int) (n : Nat) (T : ByteArray) (r : Int) (w : World) : Calls Tryd.prog 25 #[.agg #[.int .i64 k, .float .f64 n, .string T, .int .i64 r], .agg #[.int .i64 k, .float .f64 n, .string T, .int .i64 r]] w fun e w' => e = .returned (.bool true) ∧ Fr [] w w' := by
  have hs := same4_self
  have hst := store_float
  go_enter Tryd.func25, Tryd.ntmps25
  go_wp2_with (go_at_call 52; ((with_reducible refine (hs _ _).mono ?_); rintro e w2 ⟨rfl, rfl⟩))
  go_ret
  exact ⟨rfl, (Fr.alloc _ _).trans (Fr.alloc _ _) (fun _ h => by cases h)⟩
end Go.Proofs.YtmhoebbdapjpeaaDoor
namespace Go.Proofs.YtmhoebbdapjpeaaDoor
open Go.RowKit Go.Maps
set_option linter.all false

def protoB : Nat → List Ob → Bool
  | _, [] => true
  | i, o :: l => decide (o.items.length ≤ 10000) && decide (o.props.length ≤ 10000) && (decide (o.proto = -1) || (decide (0 ≤ o.proto) && decide (o.proto < (i : Int)))) && protoB (i + 1) l
def Hp.fewB (A : Hp) : Bool := decide (A.left ≤ 10000) && decide (A.objs.length ≤ 10000) && protoB 0 A.objs
theorem protoB_at : ∀ (l : List Ob) (s : Nat), protoB s l = true → ∀ (i : Nat) (o : Ob), l[i]? = some o → o.items.length ≤ 10000 ∧ o.props.length ≤ 10000 ∧ (o.proto = -1 ∨ (0 ≤ o.proto ∧ o.proto < ((s + i : Nat) : Int)))
  | [], s, _, i, o, h => by cases h
  | q :: l, s, hb, i, o, h => by
    unfold protoB at hb
    simp only [Bool.and_eq_true, Bool.or_eq_true, decide_eq_true_eq] at hb
    cases i with
    | zero =>
      simp only [List.getElem?_cons_zero, Option.some.injEq] at h
      subst h
      exact ⟨hb.1.1.1, hb.1.1.2, hb.1.2⟩
    | succ i =>
      rw [List.getElem?_cons_succ] at h
      have := protoB_at l (s + 1) hb.2 i o h
      rw [show s + 1 + i = s + (i + 1) by omega] at this
      exact this
theorem few_of {A : Hp} (h : A.fewB = true) : A.Few := by
  unfold Hp.fewB at h
  simp only [Bool.and_eq_true, decide_eq_true_eq] at h
  refine ⟨h.1.1, h.1.2, fun i o ho => (protoB_at _ _ h.2 i o ho).1, fun i o ho => (protoB_at _ _ h.2 i o ho).2.1, fun i o ho => ?_⟩
  have := (protoB_at _ _ h.2 i o ho).2.2
  simpa using this
def nv (n : Nat) : V := ⟨3, n, [], 0⟩
def kB : List UInt8 := [0, 107]
theorem ofB_k : ofB [107] = kB := by decide
theorem ofB_len8 : ofB [108, 101, 110, 103, 116, 104] = lenB := by decide
abbrev b1 : Nat := 4607182418800017408
abbrev b2 : Nat := 4611686018427387904
abbrev b5 : Nat := 4617315517961601024
def H0 : Hp := ⟨[], 7⟩
def H1 : Hp := ⟨[plainO (-1)], 6⟩
def H2 : Hp := ⟨[plainO (-1), plainO 0], 5⟩
def H3 : Hp := ⟨[plainO (-1), plainO 0, arrO [nv 4607182418800017408, nv 4611686018427387904]], 2⟩
def H4 : Hp := ⟨[⟨1, -1, 0, 0, 0, [(kB, nv 4617315517961601024)], []⟩, plainO 0, arrO [nv 4607182418800017408, nv 4611686018427387904]], 1⟩
theorem m1 : H0.make (-1) (plainO (-1)) = ((0, 0), H1) := rfl
theorem m2 : H1.make 0 (plainO 0) = ((1, 0), H2) := rfl
theorem rightV_num (m n : Nat) : rightV m (nv n) = true := by
  unfold rightV rightNum rightText rightRef nv
  simp
theorem m3 : H2.array [nv 4607182418800017408, nv 4611686018427387904] = ((2, 0), H3) := by
  unfold Hp.array
  rw [if_pos (by simp [rightV_num]), if_neg (by decide)]
  rfl
theorem m4 : H3.putOwn 0 (plainO (-1)) kB (nv 4617315517961601024) = (0, H4) := rfl
theorem m5 : (H4.find kB 1).map (·.2) = some (nv 4617315517961601024) := rfl
theorem m6 : (arrO [nv 4607182418800017408, nv 4611686018427387904]).own lenB = some (nv 4611686018427387904) := by
  unfold Ob.own
  rw [if_pos ⟨rfl, rfl⟩]
  show some (lenV 2) = _
  unfold lenV nv
  have : FloatKind.f64.nearest ((2 : Nat) : Int) = 4611686018427387904 := by kernel_rfl
  rw [this]
theorem m7 : H4.array [nv 4607182418800017408] = ((0, 112), H4) := by
  unfold Hp.array
  rw [if_pos (by simp [rightV_num]), if_pos (by decide)]
end Go.Proofs.YtmhoebbdapjpeaaDoor
