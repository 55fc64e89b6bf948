/- Layer 8: the statement HeapCells. Conditions: those that each theorem names. -/
import Derived.Test.YtmhoebbdapjpeaaDoorKe
namespace Go.Proofs.YtmhoebbdapjpeaaDoor
open Go.RowKit Go.Maps
set_option linter.all false

theorem ScriptAt.bel {N : Nat} {p : Option Addr} {Q : List Cl} {w w' : World} (H : ScriptAt N p Q w) (hb : Below N w w') : ScriptAt N p Q w' :=
  ⟨fun hne => by
    obtain ⟨g, o, hp, h⟩ := H.row hne
    exact ⟨g, o, hp, fun W hW => h W (hb.trans hW)⟩, H.kd, H.key, H.vt, H.len, fun q hq W hW => H.items q hq W (hb.trans hW), H.own, H.texts⟩
theorem size_h {N h : Nat} {A : Hp} {L : List Nat} {w0 w : World} (H : Hv N h A L w0 w) :
    Calls Tryd.prog 19 #[.pointer (some ⟨h, 0, none⟩)] w fun e w' => e = .returned (.tuple #[.int .i64 (A.objs.length : Int), .int .i64 (A.left : Int)]) ∧ Nx N h A L w0 w w' := by
  have H' := H
  obtain ⟨sv, gs, hG, hF, h1, h2, h3, h4⟩ := H
  obtain ⟨p, cap, hsv⟩ := row_slice hG.row
  have hp := hG.hp
  rw [hsv] at hp
  refine (size_any h p gs.length cap (A.left : Int) w hp).mono ?_
  rintro e w' ⟨rfl, m, rfl⟩
  exact ⟨by rw [hG.len], H'.fr (Fr.drewN w m)⟩
/-- What is counted ahead of the object i. -/
def tk (A : Hp) (i : Nat) : Nat := A.objs.length + ((A.objs.take i).map fun o => o.items.length + o.props.length).sum
theorem tk_zero (A : Hp) : tk A 0 = A.objs.length := rfl
theorem tk_succ (A : Hp) (i : Nat) (o : Ob) (ho : A.objs[i]? = some o) : tk A (i + 1) = tk A i + (o.items.length + o.props.length) := by
  unfold tk
  rw [List.take_add_one, ho]
  simp only [Option.toList_some, List.map_append, List.map_cons, List.map_nil, List.sum_append, List.sum_cons, List.sum_nil]
  omega
theorem sum_cells : ∀ l : List Ob, (l.map Ob.cells).sum = l.length + (l.map fun o => o.items.length + o.props.length).sum
  | [] => rfl
  | o :: l => by
    rw [List.map_cons, List.sum_cons, sum_cells l, List.map_cons, List.sum_cons, List.length_cons]
    unfold Ob.cells
    omega
theorem tk_all (A : Hp) : tk A A.objs.length = A.taken := by
  unfold tk Hp.taken
  rw [List.take_length, sum_cells]
theorem tk_le (A : Hp) (i : Nat) : tk A i ≤ A.taken := by
  rw [← tk_all]
  unfold tk
  rw [List.take_length]
  have h : ((A.objs.take i).map fun o => o.items.length + o.props.length).sum + ((A.objs.drop i).map fun o => o.items.length + o.props.length).sum = (A.objs.map fun o => o.items.length + o.props.length).sum := by
    rw [← List.sum_append, ← List.map_append, List.take_append_drop]
  omega
set_option maxRecDepth 100000 in
set_option maxHeartbeats 8000000 in
theorem law_cells (N' : Nat) (cc : Int) (p : Option Addr) (Q : List Cl) (cap : Nat) (w : World) (hS : ScriptAt w.heap.size p Q w) (hT : Tb N' w) (hQ : Q.length ≤ 9223372036854775807) :
    Calls Tryd.prog 5 #[.int .i64 cc, .slice p Q.length cap] w fun e w' => e = .returned (.bool true) ∧ Below w.heap.size w w' := by
  have hst := store_float
  have haw := fun W => awake_any W
  obtain ⟨N, hN⟩ : ∃ N, N = w.heap.size := ⟨_, rfl⟩
  rw [← hN] at hS ⊢
  obtain ⟨n, hn⟩ : ∃ n, n = Q.length := ⟨_, rfl⟩
  have HQ := Lib.hid hQ
  rw [← hn] at hQ ⊢
  have HN := Lib.hid hN
  have HT := Lib.hid hT
  have HS := Lib.hid hS
  have HL := Lib.hid hn
  have hcl : ((clampC cc : Nat) : Int) = min (max cc 0) 10000 := by unfold clampC; omega
  have HCL := Lib.hid hcl
  clear hN hS hT hn hcl
  go_enter Tryd.func5, Tryd.ntmps5
  go_wp2_with fail
  refine (haw _).mono ?_
  rintro e w1 ⟨rfl, f1⟩
  have hN1 : N ≤ w1.heap.size := by rw [HN.out]; exact f1.size
  have hb1 : Below N w w1 := f1.below (by rw [HN.out]; exact Nat.le_refl _) (fun _ h => by cases h)
  have F1 := Lib.hid hb1
  have S1 := Lib.hid hN1
  clear f1 haw hb1 hN1
  go_wp2_with fail
  have hlong := long_any N p Q cap w1 (HS.out.bel F1.out) S1.out HQ.out
  rw [← HL.out] at hlong
  refine hlong.mono ?_
  rintro e w2 ⟨⟨b, rfl, hbr⟩, hb2⟩
  have F2 := Lib.hid (F1.out.trans (hb2.mono S1.out))
  have S2 := Lib.hid (Nat.le_trans S1.out hb2.size)
  have HBR := Lib.hid hbr
  clear hb2 hlong hbr
  cases b with
  | true =>
    go_wp2
    go_ret
    exact ⟨rfl, F2.out⟩
  | false =>
    go_wp2_with fail
    refine (new_h _ w w2 N F2.out S2.out [] (fun _ h => by cases h)).mono ?_
    obtain ⟨h, hh⟩ : ∃ h, h = w2.heap.size := ⟨_, rfl⟩
    rw [← hh]
    rintro e w3 ⟨rfl, n3⟩
    have H3 := Lib.hid n3.hv
    clear n3 hh
    have hK0 : Hp.Ok ⟨[], clampC cc⟩ (clampC cc) := ⟨by show 0 + clampC cc = clampC cc; omega, by unfold clampC; omega, fun i o ho => by simp at ho⟩
    have K0 := Lib.hid hK0
    clear hK0
    go_wp2_with fail
    go_loopg [8, 9, 10, 11, 12, 26] n (fun g v8 v9 v10 v11 v12 v26 wr => ∃ (j : Nat) (A : Hp), j + g = n ∧ v26 = .int .i64 j ∧ A.Ok (clampC cc) ∧ Hv N h A [] w wr)
    case atStart => exact ⟨0, _, by omega, rfl, K0.out, H3.out⟩
    case round =>
      obtain ⟨j, A, hj, rfl, hK, hv⟩ := hrel
      have HV := Lib.hid hv
      have HK := Lib.hid hK
      have BR := Lib.hid (HBR.out trivial)
      clear hv hK
      by_cases hjn : j < n
      · obtain ⟨q, hq⟩ : ∃ q, Q[j]? = some q := ⟨Q[j]'(by rw [← HL.out]; exact hjn), List.getElem?_eq_getElem _⟩
        have hmem : q ∈ Q := List.mem_of_getElem? hq
        have hne : Q ≠ [] := by
          intro e
          rw [e] at hq
          simp at hq
        obtain ⟨g, o, rfl, hc⟩ := HS.out.row hne
        obtain ⟨a0, a1, a2, a3, a4, a5, a6, a7, a8⟩ := hc wr HV.out.loc.1 j q hq
        have k1 : (j : Int) < (n : Int) := by omega
        have k2 : IntKind.i64.wrap ((j : Int) + 1) = (j : Int) + 1 := IntWalk.i64_in _ (by omega)
        have HM := Lib.hid hmem
        clear hc hne hmem hq
        go_wp2_with fail
        refine (play_any (HV.out.alloc _) HK.out q.kd q.i q.n q.k (BR.out.2 q HM.out).1 q.vk q.vn q.vt (Nat.le_trans (HS.out.vt q HM.out) (by decide)) q.vr q.l (.slice q.ip q.l.length q.ic) (BR.out.2 q HM.out).2.1 (HS.out.items q HM.out) (HS.out.own q HM.out) (HS.out.texts q HM.out)
          (fun W hW => HT.out.fr0 (Fr.of_below (by rw [← HN.out]; exact hW))) (HS.out.kd q HM.out)).mono ?_
        rintro e w4 ⟨⟨r, rfl⟩, A', hK', hn'⟩
        have HV4 := Lib.hid hn'.hv
        have HK4 := Lib.hid hK'
        clear hn' hK' HV HK a0 a1 a2 a3 a4 a5 a6 a7 a8
        go_wp2_with fail
        refine (size_h HV4.out).mono ?_
        rintro e w5 ⟨rfl, n5⟩
        have HV5 := Lib.hid n5.hv
        clear n5 HV4
        have hm10 : A'.objs.length ≤ 10000 := HK4.out.toFew.objs
        obtain ⟨m, hm⟩ : ∃ m, m = A'.objs.length := ⟨_, rfl⟩
        rw [← hm]
        have HMM := Lib.hid hm
        rw [← hm] at hm10
        clear hm
        go_wp2_with fail
        go_loopg [11, 12, 40] m (fun g v11 v12 v40 wz => ∃ i : Nat, i + g = m ∧ v40 = .int .i64 i ∧ v11 = .int .i64 (tk A' i) ∧ Hv N h A' [] w wz)
        case atStart => exact ⟨0, by omega, rfl, by rw [tk_zero, ← HMM.out], HV5.out⟩
        case round =>
          obtain ⟨i, hi, rfl, rfl, hvz⟩ := hrel
          have HVZ := Lib.hid hvz
          clear hvz
          by_cases him : i < m
          · obtain ⟨ob, hob⟩ : ∃ ob, A'.objs[i]? = some ob := ⟨A'.objs[i]'(by rw [← HMM.out]; exact him), List.getElem?_eq_getElem _⟩
            have ht := tk_succ A' i ob hob
            have hle := tk_le A' (i + 1)
            have hsum := HK4.out.sum
            have hfew := HK4.out.few
            have i1 : (i : Int) < (m : Int) := by omega
            have i2 : IntKind.i64.wrap ((i : Int) + 1) = (i : Int) + 1 := IntWalk.i64_in _ (by omega)
            have i3 : IntKind.i64.wrap ((tk A' i : Int) + ((ob.items.length + ob.props.length : Nat) : Int)) = (tk A' i : Int) + ((ob.items.length + ob.props.length : Nat) : Int) := IntWalk.i64_in _ (by omega)
            have HTT := Lib.hid ht
            have HOB := Lib.hid hob
            have hz : (ob.items.length + ob.props.length : Nat) ≤ 10000 := by omega
            clear hle hsum hfew ht hob
            go_wp2_with fail
            refine (keys_h HVZ.out N' (HT.out.fr0 (Fr.of_below (by rw [← HN.out]; exact HVZ.out.loc.1))) i ob HOB.out).mono ?_
            rintro e w6 ⟨kp, kc, rfl, -, n6, -⟩
            have HV6 := Lib.hid n6.hv
            clear n6
            obtain ⟨z, hzz⟩ : ∃ z, z = ob.items.length + ob.props.length := ⟨_, rfl⟩
            rw [← hzz] at hz i3 ⊢
            have HZ := Lib.hid hzz
            clear hzz
            generalize hti : tk A' i = ti at *
            go_wp2
            go_roundg (m - (i + 1))
            case measure => omega
            case rel => exact ⟨i + 1, by omega, by go_num, by rw [HTT.out, HZ.out.symm]; go_num, HV6.out⟩
          · obtain rfl : i = m := by omega
            have hii : ¬ (i : Int) < (i : Int) := by omega
            have hsum := HK4.out.sum
            have hfew := HK4.out.few
            have hall : tk A' i = A'.taken := by rw [HMM.out, tk_all]
            rw [hall]
            have j1 : IntKind.i64.wrap ((A'.taken : Int) + (A'.left : Int)) = ((clampC cc : Nat) : Int) := by rw [IntWalk.i64_in _ (by omega)]; omega
            have j2 : ¬ ((A'.left : Int) < 0) := by omega
            rw [HCL.out] at j1
            clear hsum hfew hall
            go_wp2
            go_roundg (n - (j + 1))
            case measure => omega
            case rel => exact ⟨j + 1, A', by omega, by go_num, HK4.out, HVZ.out⟩
      · have hjj : ¬ (j : Int) < (n : Int) := by omega
        go_wp2
        go_ret
        exact ⟨rfl, HV.out.loc.1⟩
end Go.Proofs.YtmhoebbdapjpeaaDoor
