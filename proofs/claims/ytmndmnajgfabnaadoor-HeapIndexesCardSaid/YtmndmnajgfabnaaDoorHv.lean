/- Layer 8: Keys. Conditions: those that each theorem names. -/
import Derived.Test.YtmndmnajgfabnaaDoorHu
import Derived.Lib.ItoaLen
import Derived.OwnWalk
namespace Go.Proofs.YtmndmnajgfabnaaDoor
open Go.RowKit Go.Maps
set_option linter.all false

theorem PropsR.len {op : Option (Nat × Nat)} {L : List Pr} {w : World} (H : PropsR op L w) (ty : TypeId) : (Builtin.len_ #[81] ty #[mapV op]).run Tryd.prog w = .ok (.int .i64 (L.length : Int)) w := by
  rcases op with _ | ⟨m, r⟩
  · have : L = [] := H
    subst this
    exact Maps.len_nil (P := Tryd.prog) (k := 9) Tryd.underlying81 ty
  · obtain ⟨D, ho, _, hsz, _⟩ := H.1
    have := ho.len Tryd.underlying81 ty
    rw [hsz] at this
    unfold keysB at this
    rw [List.length_map] at this
    exact this
def itemKs (n : Nat) : List Value := (List.range n).map fun (i : Nat) => .string (bs (keyB (i : Int)))
def Ob.keyVs (o : Ob) : List Value := itemKs o.items.length ++ o.props.map fun q => .string (bs q.1)
theorem itemKs_succ (n : Nat) : itemKs (n + 1) = itemKs n ++ [.string (bs (keyB (n : Int)))] := by
  unfold itemKs; rw [List.range_succ, List.map_append]; rfl
def HKeysPost (o : Ob) (w : World) (e : Ending) (w' : World) : Prop := ∃ v', e = .returned v' ∧ w'.ownsRow w.heap.size 9 1 v' (o.items.length + o.props.length) o.keyVs ∧ Fr [] w w'
def HKeysRel (N : Nat) (w : World) (n : Nat) (j : Nat) (lv : Value) (wr : World) : Prop := j ≤ n ∧ wr.ownsRow w.heap.size 9 1 lv j (itemKs j) ∧ Fr [] w wr ∧ Tb N wr
set_option maxRecDepth 100000 in
set_option maxHeartbeats 2000000 in
theorem keys_any (N h : Nat) (A : Hp) (sv : Value) (gs : List Gx) (i : Nat) (o : Ob) (w : World) (H : HeapG h A sv gs w) (F : A.Few) (ho : A.objs[i]? = some o) (hT : Tb N w) :
    Calls Tryd.prog 17 #[.pointer (some ⟨h, 0, none⟩), .int .i64 (i : Int)] w (HKeysPost o w) := by
  have hi : i < gs.length := by
    rw [← H.len]
    rcases Nat.lt_or_ge i A.objs.length with h' | h'
    · exact h'
    · rw [List.getElem?_eq_none h'] at ho; cases ho
  have hg : gs[i]? = some gs[i] := List.getElem?_eq_getElem hi
  generalize gs[i] = g at hg
  obtain ⟨gb, cap, hsv, hcell, hgbm, _⟩ := H.obj hg
  have hlen' := H.len
  have hin : gs.length ≤ 10000 := by have := F.objs; omega
  have hni := F.items i o ho
  have hnp := F.props i o ho
  have hob := H.obs i o g ho hg
  have hlt := H.lt_g hg
  have hLp : o.props.length = g.L.length := by rw [hob.eq, List.length_map]
  have hhas : Calls Tryd.prog 44 #[.pointer (some ⟨h, 0, none⟩), .int .i64 (i : Int)] w fun e w' => e = .returned (.bool true) ∧ w = w' := by
    have := H.hp
    rw [hsv] at this
    refine (has_any h _ gs.length cap A.left (i : Int) w this).mono ?_
    rintro e w' ⟨rfl, rfl⟩
    exact ⟨ret_bool (by simp; omega), rfl⟩
  have hc0 : w.cell? ⟨h, 0, none⟩ = some (.slice (some ⟨gb, 0, none⟩) gs.length cap) := by rw [← hsv]; exact H.hp.c0
  obtain ⟨ip, icap, hit⟩ := row_slice hob.items
  have hc4 : ∀ W, Fr [] w W → W.cell? ⟨g.blk, 4, none⟩ = some (.slice ip o.items.length icap) := fun W hW => by rw [← hit]; exact blk_cell ((H.fr hW).obs i o g ho hg).blk 4 _ rfl
  have hc2 : w.cell? ⟨g.blk, 2, none⟩ = some (mapV g.op) := blk_cell hob.blk 2 _ rfl
  have hml : (Builtin.len_ #[81] 3 #[mapV g.op]).run Tryd.prog w.drew = .ok (.int .i64 (o.props.length : Int)) w.drew := by rw [hLp]; exact PropsR.len (PropsR.keep (w := w) (w' := w.drew) (fun _ _ => rfl) hob.props) _
  have hkey : ∀ (n : Nat), n ≤ 10000 → ∀ W, Tb N W → Calls Tryd.prog 11 #[.int .i64 (n : Int)] W fun e w' => e = .returned (.string (bs (keyB (n : Int)))) ∧ Fr [] W w' := fun n hn W hW => key_any N (n : Int) (by omega) (by omega) (Nat.le_trans (Lib.itoa_length_le (n : Int) (by omega) (by omega)) (by omega)) W hW
  have hkeys : ∀ (W : World) (lv : Value), Fr [] w W → W.ownsRow w.heap.size 9 1 lv o.items.length (itemKs o.items.length) → Calls Tryd.prog 45 #[.pointer (some ⟨g.blk, 2, none⟩), lv] W fun e w' => HKeysPost o w e w' := by
    intro W lv hW hr
    have hobW := (H.fr hW).obs i o g ho hg
    refine (pKeys_any w.heap.size g.blk g.op g.L lv o.items.length _ W (blk_cell hobW.blk 3 _ rfl) hobW.props (fun m r e => ?_) (hlt _ (Gx.blk_mem g)) (fun b hb => hlt b (Gx.r_mem g hb)) hW.size hr (by omega)).mono ?_
    · have := hobW.apart
      obtain ⟨b, op, L, it⟩ := g
      subst e
      exact (apart_R this).1
    · rintro e w' ⟨v', rfl, hr', hb⟩
      refine ⟨v', rfl, ?_, ?_⟩
      · unfold Ob.keyVs
        have e2 : o.props.map (fun q => Value.string (bs q.1)) = keyVs g.L := by rw [hob.eq]; unfold keyVs; rw [List.map_map]; rfl
        rw [e2, hLp]
        exact hr'
      · exact ⟨hb.os.trans hW.os, hb.tape.trans hW.tape, hb.output.trans hW.output, Nat.le_trans hW.size hb.size, fun k hk hn => (hb.block k hk).trans (hW.block k hk hn)⟩
  have HKEY := Lib.hid hkey
  have HKEYS := Lib.hid hkeys
  have HC4 := Lib.hid hc4
  have HT := Lib.hid hT
  have hc4w := hc4 w (Fr.refl _ _)
  obtain ⟨i0, hi0, hz0, hz1, hz2⟩ := info_parts infoStr
  have hmk : ∃ w1, (Instr.makeSlice 38 (.int .i64 0) (.int .i64 ((o.items.length : Int) + (o.props.length : Int)))).run Tryd.prog w.drew = .ok (.slice (some ⟨w.heap.size, 0, none⟩) 0 (o.items.length + o.props.length)) w1 ∧ HKeysRel N w o.items.length 0 (.slice (some ⟨w.heap.size, 0, none⟩) 0 (o.items.length + o.props.length)) w1 := by
    obtain ⟨w1, hr, ho1, hg1⟩ := run_make_own (P := Tryd.prog) w.drew w.heap.size 38 9 i0 (.string ⟨#[]⟩) 1 Tryd.underlying38 hi0 hz0 hz1 .i64 .i64 (o.items.length + o.props.length) (by rw [hz2]; omega) (by unfold maxLen; omega) (Nat.le_refl _)
    have hfr : Fr [] w w1 := (Fr.refl [] w).drew.trans (Fr.grown hg1) (fun _ h => by cases h)
    exact ⟨w1, hr, Nat.zero_le _, ho1, hfr, hT.fr0 hfr⟩
  obtain ⟨w1, hmkrun, hrel0⟩ := hmk
  have HREL0 := Lib.hid hrel0
  clear hkey hkeys hc4 hT hrel0 hit hob hlt hLp hlen' H F ho hg hgbm
  generalize g.blk = b at *
  generalize hIL : o.items.length = IL at *
  generalize hPL : o.props.length = PL at *
  clear hIL hPL
  have hs1 : IntKind.i64.wrap ((IL : Int) + (PL : Int)) = (IL : Int) + (PL : Int) := IntWalk.i64_in _ (by omega)
  subst hsv
  go_enter Tryd.func17, Tryd.ntmps17
  go_wp2_with (first
    | (go_at_call 44; ((with_reducible refine hhas.mono ?_); rintro e w1 ⟨rfl, rfl⟩))
    | fail)
  go_region
  have k4 := HC4.out w1 HREL0.out.2.2.1
  obtain ⟨W, hW⟩ : ∃ W, W = w := ⟨_, rfl⟩
  clear hml hmkrun hc0 hc2 hc4w hcell hs1 hhas
  go_wp2
  go_loopg [6, 37] IL (fun gk lv iv wr => ∃ j : Nat, iv = .int .i64 (j : Int) ∧ IL - j = gk ∧ Hid (HKeysRel N w IL j lv wr))
  case atStart => exact ⟨0, rfl, by omega, HREL0⟩
  case round =>
    obtain ⟨j, rfl, hgk, hrl⟩ := hrel
    obtain ⟨hj, hown, hfr, htb⟩ := hrl.out
    obtain ⟨lp, lcap, hlv⟩ := row_slice hown
    clear hrl
    subst hlv
    by_cases hlt : j < IL
    · have hkey := HKEY.out j (by omega) wr htb
      obtain ⟨S, hS⟩ : ∃ S, S = bs (keyB (j : Int)) := ⟨_, rfl⟩
      rw [← hS] at hkey
      have HS := Lib.hid hS
      have HO := Lib.hid hown
      have HFR := Lib.hid hfr
      have HTB := Lib.hid htb
      clear hS hown hfr htb k4
      have hstep : ∀ w2, Fr [] wr w2 → Fr [] w w2 ∧ w2.ownsRow w.heap.size 9 1 (.slice lp j lcap) j (itemKs j) ∧ w.heap.size ≤ w2.heap.size := by
        intro w2 hf2
        have f2 : Fr [] w w2 := HFR.out.trans hf2 (fun _ h => by cases h)
        exact ⟨f2, row_keep HO.out (fun x hx => hf2.block x (HO.out.lt x (by rwa [Option.mem_toList] at hx)).2 List.not_mem_nil), f2.size⟩
      have HST := Lib.hid hstep
      clear hstep
      go_wp2_with (first
        | (go_at_call 11; ((with_reducible refine hkey.mono ?_); rintro e w2 ⟨rfl, hf2⟩; have HF := Lib.hid (HST.out w2 hf2).1; have HO2 := Lib.hid (HST.out w2 hf2).2.1; have hw2 := (HST.out w2 hf2).2.2; clear hf2))
        | (at_builtin; refine wpList_append_own _ rfl _ _ 38 rfl w.heap.size 9 i0 (.string ⟨#[]⟩) 1 16 Tryd.underlying38 hi0 hz0 hz1 hz2 rfl (by decide) _ _ _ rfl (HO2.out.alloc _) ⟨w2.heap.size, 0, none⟩ 1 1 [.string S] rfl rfl ?c1 ?c2 ?c3 ?c4 ?c5 ?_)
        | fail)
      case c1 =>
        intro j u hj
        match j, hj with
        | 0, hj => simp at hj; subst hj; simp [Addr.add]
      case c2 => intro u hu; simp at hu; subst hu; rfl
      case c3 => unfold maxLen; omega
      case c4 => omega
      case c5 => simp; omega
      intro v' w3 hown' hgrow _
      have f3 : Fr [] w w3 := by
        have hb : Below w.heap.size w w3 := (HF.out.below0.trans ((Below.refl w.heap.size w2).alloc hw2 _)).grown hgrow (by simp; omega) (fun k hk => (HO2.out.lt k hk).1)
        exact .of_below hb
      have hrel' : HKeysRel N w IL (j + 1) v' w3 := by
        refine ⟨by omega, ?_, f3, HT.out.fr0 f3⟩
        rw [itemKs_succ, ← HS.out]
        exact hown'
      have HR := Lib.hid hrel'
      clear hrel' f3 hown' hgrow
      go_wp2
      go_roundg (IL - (j + 1))
      case measure => omega
      case rel => exact ⟨j + 1, by go_num, rfl, HR⟩
    · have hje : j = IL := by omega
      subst hje
      have hks := HKEYS.out wr _ hfr hown
      clear hown htb hfr k4 HREL0 hW
      go_wp2_with (first
        | (go_at_call 45; ((with_reducible refine hks.mono ?_); rintro e w2 ⟨v', rfl, ho2, hf2⟩; have HO2 := Lib.hid ho2; have HF2 := Lib.hid hf2; clear ho2 hf2))
        | fail)
      go_ret
      exact ⟨v', rfl, HO2.out, HF2.out⟩
end Go.Proofs.YtmndmnajgfabnaaDoor
