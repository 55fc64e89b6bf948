/- Layer 8: an object's properties: keys. Conditions: those that each theorem names. -/
import Derived.Test.YtmndmnajgfabnaaDoorHa
import Derived.Deep.LoopGhost
import Derived.LaidEql
import Derived.LaidEqlPtr
namespace Go.Proofs.YtmndmnajgfabnaaDoor
open Go.RowKit Go.Maps
set_option linter.all false

theorem infoStr : (Tryd.prog.info? 9).map (fun i => (i.zero, i.size, i.bytes)) = some (some (.string ⟨#[]⟩), 1, 16) := by kernel_rfl
theorem cell_below {B : Nat} {w w' : World} (h : Below B w w') {b : Nat} (hb : b < B) (o : Nat) : w'.cell? ⟨b, o, none⟩ = w.cell? ⟨b, o, none⟩ := cell_keep (h.block b hb) o
theorem neq_other {P : Program} (w : World) {tp te : TypeId} {j : TypeInfo} {a b : Addr} {ca cb : Array Value} {ta tb : TypeId} (hp : P.underlying tp = some (.pointer te)) (hte : P.info? te = some j) (hsz : j.size ≠ 0)
    (hne : a ≠ b) (ha : w.heap[a.block]? = some (.cells ca ta (0, 0))) (hb : w.heap[b.block]? = some (.cells cb tb (0, 0))) :
    (binOp .neq tp (.pointer (some a)) (.pointer (some b))).run P w = .ok (.bool true) w := by
  have h : ∀ d : Nat, (Op.equalIn (d + 1) tp (.pointer (some a)) (.pointer (some b))).run P w = .ok false w := fun d => by
    simp [Op.equalIn, run_underlying hp, sizeOf, typeInfo, hte, hsz, run_sameAddr_other w hne ha hb]
  simp only [binOp]
  simp [Op.equal, Op.maxDepth, h 9999]
theorem infoProp : (Tryd.prog.info? 114).map (fun i => i.size) = some 7 := by kernel_rfl
theorem nd_neq {x y : Nat} {w : World} (hx : Nd x w) (hy : Nd y w) (h : x ≠ y) : (binOp .neq 82 (.pointer (some ⟨x, 0, none⟩)) (.pointer (some ⟨y, 0, none⟩))).run Tryd.prog w = .ok (.bool true) w := by
  obtain ⟨cx, hx, _⟩ := hx
  obtain ⟨cy, hy, _⟩ := hy
  cases hj : Tryd.prog.info? 114 with
  | none => have := infoProp; rw [hj] at this; cases this
  | some j =>
    have h7 := infoProp
    rw [hj] at h7
    have h7 : j.size = 7 := by simpa using h7
    exact neq_other w Tryd.underlying82 hj (by omega) (fun e => h (by cases e; rfl)) hx hy
theorem nd_neq_self {x : Nat} (w : World) : (binOp .neq 82 (.pointer (some ⟨x, 0, none⟩)) (.pointer (some ⟨x, 0, none⟩))).run Tryd.prog w = .ok (.bool false) w := by
  cases hj : Tryd.prog.info? 114 with
  | none => have := infoProp; rw [hj] at this; cases this
  | some j => exact Lib.run_neq_ptr_same w _ Tryd.underlying82 hj
def keyVs (L : List Pr) : List Value := L.map fun q => .string (bs q.2.1)
def KeysRel (B r n : Nat) (xs : List Value) (L : List Pr) (w : World) (lv xv : Value) (wr : World) (d R : List Pr) : Prop :=
  L = d ++ R ∧ (∃ y, y = headN r (R.map (·.1)) ∧ xv = .pointer (some ⟨y, 0, none⟩)) ∧ wr.ownsRow B 9 1 lv (n + d.length) (xs ++ keyVs d) ∧ Below B w wr
def KeysPost (B n : Nat) (xs : List Value) (L : List Pr) (w : World) (e : Ending) (w' : World) : Prop :=
  ∃ v', e = .returned v' ∧ w'.ownsRow B 9 1 v' (n + L.length) (xs ++ keyVs L) ∧ Below B w w'
set_option maxRecDepth 100000 in
set_option maxHeartbeats 2000000 in
theorem pKeys_any (B b : Nat) (op : Option (Nat × Nat)) (L : List Pr) (lv : Value) (n : Nat) (xs : List Value) (w : World)
    (hc3 : w.cell? ⟨b, 3, none⟩ = some (ringV op)) (H : PropsR op L w) (hA : ∀ m r, op = some (m, r) → ApartR m r L) (hbB : b < B) (hb : ∀ b ∈ blocksR op L, b < B) (hB : B ≤ w.heap.size)
    (ho : w.ownsRow B 9 1 lv n xs) (hn : n + L.length ≤ 30000) :
    Calls Tryd.prog 45 #[.pointer (some ⟨b, 2, none⟩), lv] w (KeysPost B n xs L w) := by
  rcases op with _ | ⟨m, r⟩
  · have hL : L = [] := H
    subst hL
    have hc3' : w.cell? ⟨b, 3, none⟩ = some (.pointer none) := hc3
    have hP : KeysPost B n xs [] w (.returned lv) w := ⟨lv, rfl, by simpa [keyVs] using ho, Below.refl _ _⟩
    have HP := Lib.hid hP
    clear hP ho H hA hc3
    go_enter Tryd.func45, Tryd.ntmps45
    go_wp2
    go_ret
    exact HP.out
  · have hc3' : w.cell? ⟨b, 3, none⟩ = some (.pointer (some ⟨r, 0, none⟩)) := hc3
    have hA' := hA m r rfl
    have hr6 : w.cell? ⟨r, 6, none⟩ = some (.pointer (some ⟨headN r (L.map (·.1)), 0, none⟩)) := H.2.2.2.head.1
    have hst : KeysRel B r n xs L w lv (.pointer (some ⟨headN r (L.map (·.1)), 0, none⟩)) w [] L := ⟨rfl, ⟨_, rfl, rfl⟩, by simpa [keyVs] using ho, Below.refl _ _⟩
    obtain ⟨hd, hhd⟩ : ∃ hd, headN r (L.map (·.1)) = hd := ⟨_, rfl⟩
    rw [hhd] at hr6 hst
    clear hhd
    have HST := Lib.hid hst
    have HH := Lib.hid H
    have HA := Lib.hid hA'
    have HB := Lib.hid hb
    clear hc3 hst H hA hA' hb ho
    go_enter Tryd.func45, Tryd.ntmps45
    go_wp2
    go_loopg [1, 5] L.length (fun g lv xv wr => ∃ d R : List Pr, R.length = g ∧ Hid (KeysRel B r n xs L w lv xv wr d R))
    case atStart => exact ⟨[], L, rfl, HST⟩
    case round =>
      obtain ⟨d, R, hg, hrl⟩ := hrel
      have hk := hrl.out
      obtain ⟨hL, ⟨y, hy, rfl⟩, hown, hbel⟩ := hk
      have k3 : wr.cell? ⟨b, 3, none⟩ = some (.pointer (some ⟨r, 0, none⟩)) := (cell_below hbel hbB 3).trans hc3'
      cases R with
      | nil =>
        have hP : KeysPost B n xs L w (.returned u1) wr := ⟨u1, rfl, by rw [hL, List.append_nil]; exact hown, hbel⟩
        have HP := Lib.hid hP
        replace hy : y = r := hy
        subst hy
        have hne := nd_neq_self (x := y) wr
        clear hP hL hown hbel hrl
        go_wp2
        go_ret
        exact HP.out
      | cons q R =>
        replace hy : y = q.1 := hy
        have hql : q ∈ L := by rw [hL]; simp
        have hq : q.1 ∈ r :: L.map (·.1) := List.mem_cons_of_mem _ (List.mem_map_of_mem (f := fun q : Pr => q.1) hql)
        have hA1 := List.nodup_cons.1 (List.nodup_cons.1 HA.out).2
        have hyr : y ≠ r := by
          rw [hy]
          intro e
          exact hA1.1 (by rw [← e]; exact List.mem_map_of_mem (f := fun q : Pr => q.1) hql)
        have hyB : y < B := by rw [hy]; exact HB.out _ (List.mem_cons_of_mem _ hq)
        have hrB : r < B := HB.out _ (by simp [blocksR])
        have y0 : wr.cell? ⟨y, 0, none⟩ = some (.string (bs q.2.1)) := by
          rw [cell_below hbel hyB 0, hy]; exact (HH.out.2.2.1 q hql).2.c0
        obtain ⟨z, hz⟩ : ∃ z, z = headN r (R.map (·.1)) := ⟨_, rfl⟩
        have y6 : wr.cell? ⟨y, 6, none⟩ = some (.pointer (some ⟨z, 0, none⟩)) := by
          rw [cell_below hbel hyB 6, hy, hz]
          have := HH.out.2.2.2
          rw [hL, List.map_append, List.map_cons] at this
          exact this.split.2.head.1
        have hne := nd_neq (w := wr) (Nd.keep (hbel.block y hyB) (by rw [hy]; exact (HH.out.2.2.1 q hql).1)) (Nd.keep (hbel.block r hrB) HH.out.2.1) hyr
        have hlen : n + d.length + 1 ≤ 30000 := by rw [hL] at hn; simp at hn; omega
        have HL := Lib.hid hL
        have HZ := Lib.hid hz
        have HG := Lib.hid hg
        have HO := Lib.hid hown
        have HBL := Lib.hid hbel
        have hwB : B ≤ wr.heap.size := Nat.le_trans hB hbel.size
        obtain ⟨i0, hi, hz0, hz1, hz2⟩ := info_parts infoStr
        obtain ⟨S, hS⟩ : ∃ S, S = bs q.2.1 := ⟨_, rfl⟩
        rw [← hS] at y0
        have HS := Lib.hid hS
        clear hrl hql hq hA1 hy hL hz hg hown hbel hS hr6
        go_wp2_with (at_builtin; refine wpList_append_own _ rfl _ _ 38 rfl B 9 i0 (.string ⟨#[]⟩) 1 16 Tryd.underlying38 hi hz0 hz1 hz2 rfl (by decide) _ _ _ rfl (HO.out.alloc _) ⟨wr.heap.size, 0, none⟩ 1 1 [.string S] rfl rfl ?c1 ?c2 ?c3 ?c4 ?c5 ?_)
        case c1 =>
          intro j u hj
          match j, hj with
          | 0, hj => simp at hj; subst hj; simp [Addr.add]
        case c2 => intro u hu; simp at hu; subst hu; rfl
        case c3 => unfold maxLen; omega
        case c4 => omega
        case c5 => simp; omega
        intro v' w2 hown' hgrow _
        have hb2 : Below B w w2 := HBL.out.trans (((Below.refl B wr).alloc hwB _).grown hgrow (by simp; omega) (fun k hk => (HO.out.lt k hk).1))
        have hrel' : KeysRel B r n xs L w v' (.pointer (some ⟨z, 0, none⟩)) w2 (d ++ [q]) R := by
          refine ⟨by rw [HL.out]; simp, ⟨z, HZ.out, rfl⟩, ?_, hb2⟩
          have : xs ++ keyVs (d ++ [q]) = xs ++ keyVs d ++ [.string S] := by rw [HS.out]; unfold keyVs; simp
          rw [this, List.length_append, List.append_assoc]
          exact hown'
        have y6' : w2.cell? ⟨y, 6, none⟩ = some (.pointer (some ⟨z, 0, none⟩)) := by
          rw [cell_below hb2 hyB 6, ← cell_below HBL.out hyB 6]; exact y6
        have HR := Lib.hid hrel'
        clear hrel' hb2 hown' hgrow hi hz0 hz1 hz2 y0 y6 k3 hne
        go_wp2
        go_roundg R.length
        case measure => have := HG.out; simp only [List.length_cons] at this; omega
        case rel => exact ⟨d ++ [q], R, rfl, HR⟩
end Go.Proofs.YtmndmnajgfabnaaDoor
