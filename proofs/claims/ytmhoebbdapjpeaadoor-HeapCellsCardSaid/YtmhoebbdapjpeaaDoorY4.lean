/- Layer 8: an object's properties: drop. Conditions: those that each theorem names. Layer 8: an object's properties: keys. Conditions: those that each theorem names. Layer 8: a heap and its objects in memory. Conditions: those that each theorem names. -/
import Derived.Test.YtmhoebbdapjpeaaDoorY3
import Derived.Maps.OwnSet
import Derived.Deep.LoopGhost
import Derived.LaidEql
import Derived.LaidEqlPtr
namespace Go.Proofs.YtmhoebbdapjpeaaDoor
open Go.RowKit Go.Maps
set_option linter.all false

/-- Without a key. -/
def dropL (L : List Pr) (k : List UInt8) : List Pr := L.filter fun q => decide (q.2.1 ≠ k)
theorem filter_split {k : List UInt8} {x : Nat} {v : V} {L1 L2 : List Pr} (hK : ((L1 ++ (x, k, v) :: L2).map (·.2.1)).Nodup) : dropL (L1 ++ (x, k, v) :: L2) k = L1 ++ L2 := by
  unfold dropL
  rw [List.map_append, List.map_cons, List.nodup_append] at hK
  obtain ⟨_, h2, h3⟩ := hK
  rw [List.nodup_cons] at h2
  rw [List.filter_append, List.filter_cons, if_neg (by simp)]
  congr 1
  · rw [List.filter_eq_self]
    intro q hq
    rw [decide_eq_true_eq]
    intro e
    exact h3 _ (List.mem_map_of_mem (f := fun q : Pr => q.2.1) hq) k (by simp) e
  · rw [List.filter_eq_self]
    intro q hq
    rw [decide_eq_true_eq]
    intro e
    apply h2.1
    show k ∈ L2.map (fun q : Pr => q.2.1)
    rw [← e]; exact List.mem_map_of_mem (f := fun q : Pr => q.2.1) hq
theorem drop_keysB (L : List Pr) (k : List UInt8) : (keysB L).filter (fun q => decide (q.1 ≠ k)) = keysB (dropL L k) := by
  unfold keysB dropL; rw [List.filter_map]; rfl
theorem PropsR.cut {m r x p n : Nat} {L1 L2 : List Pr} {w w' : World} {k : List UInt8} {v : V} (H : PropsR (some (m, r)) (L1 ++ (x, k, v) :: L2) w) (hA : ApartR m r (L1 ++ (x, k, v) :: L2))
    (hp : lastN r (L1.map (·.1)) = p) (hn : headN r (L2.map (·.1)) = n)
    (hM : MapP Tryd.prog 9 m (keysB (L1 ++ L2)) w') (ht : ((w.setCell ⟨p, 6, none⟩ (ptr n)).setCell ⟨n, 5, none⟩ (ptr p)).mapTurned w' m) : PropsR (some (m, r)) (L1 ++ L2) w' := by
  obtain ⟨_, hr, hL, hl⟩ := H
  unfold ApartR at hA
  rw [List.map_append, List.map_cons] at hA hl
  have hd1 := List.nodup_cons.1 hA
  have hd2 := List.nodup_cons.1 hd1.2
  have hpm : p ∈ r :: (L1.map (·.1) ++ x :: L2.map (·.1)) := by
    have := lastN_mem r (L1.map (·.1))
    rw [hp, List.mem_cons] at this
    rcases this with h | h
    · exact h ▸ List.mem_cons_self
    · exact List.mem_cons_of_mem _ (List.mem_append_left _ h)
  have hnm : n ∈ r :: (L1.map (·.1) ++ x :: L2.map (·.1)) := by
    have := headN_mem r (L2.map (·.1))
    rw [hn, List.mem_append, List.mem_singleton] at this
    rcases this with h | h
    · exact List.mem_cons_of_mem _ (List.mem_append_right _ (List.mem_cons_of_mem _ h))
    · exact h ▸ List.mem_cons_self
  have hne : ∀ y ∈ r :: (L1.map (·.1) ++ x :: L2.map (·.1)), y ≠ m := fun y hy e => hd1.1 (e ▸ hy)
  have hNd : ∀ y ∈ r :: (L1.map (·.1) ++ x :: L2.map (·.1)), Nd y w := by
    intro y hy
    rw [List.mem_cons] at hy
    rcases hy with rfl | hy
    · exact hr
    · have : (L1.map (·.1) ++ x :: L2.map (·.1)) = (L1 ++ (x, k, v) :: L2).map (·.1) := by rw [List.map_append, List.map_cons]
      rw [this, List.mem_map] at hy
      obtain ⟨q, hq, rfl⟩ := hy
      exact (hL q hq).1
  have keepN : ∀ b, b ≠ m → Nd b w → Nd b w' := fun b hb h => Nd.keep (turned_heap ht hb) ((h.set p 6 _).set n 5 _)
  have keepP : ∀ b k v, b ≠ m → Pay b k v w → Pay b k v w' := fun b k v hb h => Pay.keep (turned_heap ht hb) ((h.set p 6 (by omega) _).set n 5 (by omega) _)
  have k6 : ∀ y, y ≠ m → y ≠ p → w'.cell? ⟨y, 6, none⟩ = w.cell? ⟨y, 6, none⟩ := fun y hy hyq => (cell_keep (turned_heap ht hy) 6).trans ((cell_set_off _ n 5 y 6 _ (by omega)).trans (cell_set_blk w p 6 y 6 _ hyq))
  have k5 : ∀ y, y ≠ m → y ≠ n → w'.cell? ⟨y, 5, none⟩ = w.cell? ⟨y, 5, none⟩ := fun y hy hyr => (cell_keep (turned_heap ht hy) 5).trans ((cell_set_blk _ n 5 y 5 _ hyr).trans (cell_set_off w p 6 y 5 _ (by omega)))
  have sub : ∀ y, y ∈ L1.map (·.1) ++ L2.map (·.1) → y ∈ r :: (L1.map (·.1) ++ x :: L2.map (·.1)) := by
    intro y hy
    rw [List.mem_append] at hy
    rcases hy with h | h
    · exact List.mem_cons_of_mem _ (List.mem_append_left _ h)
    · exact List.mem_cons_of_mem _ (List.mem_append_right _ (List.mem_cons_of_mem _ h))
  refine ⟨hM, keepN r (hne r List.mem_cons_self) hr, ?_, ?_⟩
  · intro q hq
    have hq' : q ∈ L1 ++ (x, k, v) :: L2 := by
      rw [List.mem_append] at hq ⊢
      exact hq.imp id (List.mem_cons_of_mem _)
    have hm : q.1 ≠ m := hne _ (sub _ (by rw [← List.map_append]; exact List.mem_map_of_mem (f := fun q : Pr => q.1) hq))
    exact ⟨keepN _ hm (hL q hq').1, keepP _ _ _ hm (hL q hq').2⟩
  · rw [List.map_append]
    refine Links.cut (w := w) (x := x) (n := n) (p := p) hn ?_ ?_ hp hd1.2 hd2.1 ?_ ?_ hl
    · exact (cell_keep (turned_heap ht (hne p hpm)) 6).trans ((cell_set_off _ n 5 p 6 _ (by omega)).trans ((hNd p hpm).same 6 (by omega) _))
    · exact (cell_keep (turned_heap ht (hne n hnm)) 5).trans (((hNd n hnm).set p 6 _).same 5 (by omega) _)
    · intro y hy hyp
      refine k6 y (hne y ?_) hyp
      rw [List.mem_cons] at hy
      rcases hy with rfl | hy
      · exact List.mem_cons_self
      · exact sub y hy
    · intro y hy hyn
      refine k5 y (hne y ?_) hyn
      rw [List.mem_append, List.mem_singleton] at hy
      rcases hy with hy | rfl
      · exact sub y hy
      · exact List.mem_cons_self
structure Dropped (m r : Nat) (L : List Pr) (k : List UInt8) (w w' : World) : Prop where
  props : PropsR (some (m, r)) (dropL L k) w'
  fr : Fr (m :: r :: L.map (·.1)) w w'
  size : w'.heap.size = w.heap.size
set_option maxRecDepth 100000 in
set_option maxHeartbeats 2000000 in
theorem pDrop_any (b m r : Nat) (L : List Pr) (k : List UInt8) (hk : k.length ≤ maxLen) (w : World)
    (hc2 : w.cell? ⟨b, 2, none⟩ = some (.map (some m))) (H : PropsR (some (m, r)) L w) (hA : ApartR m r L) (hKn : (L.map (·.2.1)).Nodup) (hbb : b ∉ m :: r :: L.map (·.1)) (hb : ∀ b ∈ blocksR (some (m, r)) L, b < w.heap.size)
    (x : Nat) (k' : List UInt8) (v0 : V) (hf : L.find? (fun q => decide (q.2.1 = k)) = some (x, k', v0)) :
    Calls Tryd.prog 56 #[.pointer (some ⟨b, 2, none⟩), .string (bs k)] w fun e w' => e = .returned (.tuple #[]) ∧ Dropped m r L k w w' := by
  have hl := H.look k hk
  rw [hf] at hl
  have hm := List.mem_of_find?_eq_some hf
  have hkk : k' = k := by have := List.find?_some hf; simpa using this
  subst hkk
  have hany : L.any (fun q => decide (q.2.1 = k')) = true := by rw [find_any, hf]; rfl
  clear hf
  obtain ⟨L1, L2, rfl⟩ := List.append_of_mem hm
  have hl' : (Instr.lookup 81 (.map (some m)) (.string (bs k')) false).run Tryd.prog w = .ok (.pointer (some ⟨x, 0, none⟩)) w := hl
  have hsp := H.2.2.2
  rw [List.map_append, List.map_cons] at hsp
  obtain ⟨hs1, hs2⟩ := hsp.split
  have hpx := hs1.last
  have hxn := hs2.head
  obtain ⟨p, hp⟩ : ∃ p, lastN r (L1.map (·.1)) = p := ⟨_, rfl⟩
  obtain ⟨n, hn⟩ : ∃ n, headN r (L2.map (·.1)) = n := ⟨_, rfl⟩
  rw [hp] at hpx
  rw [hn] at hxn
  have x5 : w.cell? ⟨x, 5, none⟩ = some (.pointer (some ⟨p, 0, none⟩)) := hpx.2
  have p6 : w.cell? ⟨p, 6, none⟩ = some (.pointer (some ⟨x, 0, none⟩)) := hpx.1
  have x6 : w.cell? ⟨x, 6, none⟩ = some (.pointer (some ⟨n, 0, none⟩)) := hxn.1
  have n5 : w.cell? ⟨n, 5, none⟩ = some (.pointer (some ⟨x, 0, none⟩)) := hxn.2
  have hA' := hA
  unfold ApartR at hA'
  rw [List.map_append, List.map_cons] at hA' hbb
  have hd1 := List.nodup_cons.1 hA'
  have hd2 := List.nodup_cons.1 hd1.2
  have hd3 := List.nodup_append.1 hd2.2
  have hpm : p ∈ r :: (L1.map (·.1)) := by have := lastN_mem r (L1.map (·.1)); rw [hp] at this; exact this
  have hnm : n ∈ (L2.map (·.1)) ++ [r] := by have := headN_mem r (L2.map (·.1)); rw [hn] at this; exact this
  have hxr : x ≠ r := fun e => hd2.1 (by rw [← e]; simp)
  have hxp : x ≠ p := by
    rintro rfl
    rw [List.mem_cons] at hpm
    rcases hpm with h | h
    · exact hxr h
    · exact hd3.2.2 _ h _ List.mem_cons_self rfl
  have hxn' : x ≠ n := by
    rintro rfl
    rw [List.mem_append, List.mem_singleton] at hnm
    rcases hnm with h | h
    · exact (List.nodup_cons.1 hd3.2.1).1 h
    · exact hxr h
  have hpA : p ∈ r :: (L1.map (·.1) ++ x :: L2.map (·.1)) := by
    rw [List.mem_cons] at hpm
    rcases hpm with h | h
    · rw [h]; exact List.mem_cons_self
    · exact List.mem_cons_of_mem _ (List.mem_append_left _ h)
  have hnA : n ∈ r :: (L1.map (·.1) ++ x :: L2.map (·.1)) := by
    rw [List.mem_append, List.mem_singleton] at hnm
    rcases hnm with h | h
    · exact List.mem_cons_of_mem _ (List.mem_append_right _ (List.mem_cons_of_mem _ h))
    · rw [h]; exact List.mem_cons_self
  have hbp : b ≠ p := fun e => hbb (by rw [e]; exact List.mem_cons_of_mem _ hpA)
  have hbn : b ≠ n := fun e => hbb (by rw [e]; exact List.mem_cons_of_mem _ hnA)
  have hNd : ∀ y ∈ r :: (L1.map (·.1) ++ x :: L2.map (·.1)), Nd y w := by
    intro y hy
    rw [List.mem_cons] at hy
    rcases hy with rfl | hy
    · exact H.2.1
    · have e : (L1.map (·.1) ++ x :: L2.map (·.1)) = (L1 ++ (x, k', v0) :: L2).map (·.1) := by rw [List.map_append, List.map_cons]
      rw [e, List.mem_map] at hy
      obtain ⟨q, hq, rfl⟩ := hy
      exact (H.2.2.1 q hq).1
  have pf := (hNd p hpA).free 6
  have nf := (hNd n hnA).free 5
  have hmp : m ≠ p := fun e => hd1.1 (by rw [e]; exact hpA)
  have hmn : m ≠ n := fun e => hd1.1 (by rw [e]; exact hnA)
  have hdr : ∀ ty, ∃ w', (Builtin.delete_ #[81, 9] ty #[.map (some m), .string (bs k')]).run Tryd.prog ((w.setCell ⟨p, 6, none⟩ (ptr n)).setCell ⟨n, 5, none⟩ (ptr p)).drew.drew = .ok (.tuple #[]) w' ∧ Dropped m r (L1 ++ (x, k', v0) :: L2) k' w w' := by
    intro ty
    have hM3 : MapP Tryd.prog 9 m (keysB (L1 ++ (x, k', v0) :: L2)) ((w.setCell ⟨p, 6, none⟩ (ptr n)).setCell ⟨n, 5, none⟩ (ptr p)).drew.drew := H.1.keep ((heap_set_other hmn 5 _).trans (heap_set_other hmp 6 _))
    have hkl : ((keysB (L1 ++ (x, k', v0) :: L2)).filter (fun q => decide (q.1 ≠ k'))).length + (if (keysB (L1 ++ (x, k', v0) :: L2)).any (fun q => decide (q.1 = k')) then 1 else 0) = (keysB (L1 ++ (x, k', v0) :: L2)).length := by
      rw [drop_keysB, filter_split hKn, keysB_any, hany, if_pos rfl]
      unfold keysB
      simp only [List.length_map, List.length_append, List.length_cons]
      omega
    obtain ⟨w', hrun, hM4, ht4⟩ := hM3.del (T := 81) (E := 82) Tryd.underlying9 Tryd.underlying81 k' hk (bs k') rfl ty hkl
    refine ⟨w', hrun, ?_, ?_, ?_⟩
    · rw [drop_keysB, filter_split hKn] at hM4
      rw [filter_split hKn]
      have H' : PropsR (some (m, r)) (L1 ++ (x, k', v0) :: L2) w.drew.drew := PropsR.keep (w := w) (w' := w.drew.drew) (fun _ _ => rfl) H
      exact H'.cut hA hp hn hM4 ht4
    · have hsub : ∀ z, z ∈ r :: (L1.map (·.1) ++ x :: L2.map (·.1)) → z ∈ m :: r :: (L1 ++ (x, k', v0) :: L2).map (·.1) := by
        intro z hz; rw [List.map_append, List.map_cons]; exact List.mem_cons_of_mem _ hz
      have g1 : Fr (m :: r :: (L1 ++ (x, k', v0) :: L2).map (·.1)) w (w.setCell ⟨p, 6, none⟩ (ptr n)) := (Fr.set w p 6 _).mono (fun z hz => Or.inl (by simp only [List.mem_singleton] at hz; rw [hz]; exact hsub p hpA))
      exact ((g1.trans (Fr.set _ n 5 (ptr p)) (fun z hz => Or.inl (by simp only [List.mem_singleton] at hz; rw [hz]; exact hsub n hnA))).drew.drew).trans (Fr.turned ht4) (fun z hz => Or.inl (by simp only [List.mem_singleton] at hz; rw [hz]; exact List.mem_cons_self))
    · rw [turned_size ht4]
      show ((w.setCell ⟨p, 6, none⟩ (ptr n)).setCell ⟨n, 5, none⟩ (ptr p)).heap.size = _
      rw [heap_size_set, heap_size_set]
  obtain ⟨w4, hrun, hfin⟩ := hdr 0
  have HFIN := Lib.hid hfin
  clear hfin hdr hmp hmn hNd hpA hnA hpm hnm hd3 hd2 hd1 hA' hbb hs1 hs2 hsp hl hany hm hpx hxn H hA hKn hb hk hxr hp hn
  obtain ⟨S, hS⟩ : ∃ S, S = bs k' := ⟨_, rfl⟩
  rw [← hS] at hl' hrun ⊢
  clear hS
  have hrun' : (Builtin.delete_ #[81, 9] 0 #[.map (some m), .string S]).run Tryd.prog ((w.setCell ⟨p, 6, none⟩ (.pointer (some ⟨n, 0, none⟩))).setCell ⟨n, 5, none⟩ (.pointer (some ⟨p, 0, none⟩))).drew.drew = .ok (.tuple #[]) w4 := hrun
  clear hrun
  have HRUN := Lib.hid hrun'
  clear hrun'
  go_enter Tryd.func56, Tryd.ntmps56
  go_wp2
  go_region
  go_wp2
  go_region
  have hrun := HRUN.out
  go_wp2
  go_end0
  exact ⟨rfl, HFIN.out⟩
end Go.Proofs.YtmhoebbdapjpeaaDoor
namespace Go.Proofs.YtmhoebbdapjpeaaDoor
open Go.RowKit Go.Maps
set_option linter.all false

theorem infoStr : (Tryd.prog.info? 9).map (fun i => (i.zero, i.size, i.bytes)) = some (some (.string ⟨#[]⟩), 1, 16) := by kernel_rfl
theorem cell_below {B : Nat} {w w' : World} (h : Below B w w') {b : Nat} (hb : b < B) (o : Nat) : w'.cell? ⟨b, o, none⟩ = w.cell? ⟨b, o, none⟩ := cell_keep (h.block b hb) o
theorem neq_other {P : Program} (w : World) {tp te : TypeId} {j : TypeInfo} {a b : Addr} {ca cb : Array Value} {ta tb : TypeId} (hp : P.underlying tp = some (.pointer te)) (hte : P.info? te = some j) (hsz : j.size ≠ 0)
    (hne : a ≠ b) (ha : w.heap[a.block]? = some (.cells ca ta (0, 0))) (hb : w.heap[b.block]? = some (.cells cb tb (0, 0))) :
    (binOp .neq tp (.pointer (some a)) (.pointer (some b))).run P w = .ok (.bool true) w := by
  have h : ∀ d : Nat, (Op.equalIn (d + 1) tp (.pointer (some a)) (.pointer (some b))).run P w = .ok false w := fun d => by
    simp [Op.equalIn, run_underlying hp, sizeOf, typeInfo, hte, hsz, run_sameAddr_other w hne ha hb]
  simp only [binOp]
  simp [Op.equal, Op.maxDepth, h 9999]
theorem infoProp : (Tryd.prog.info? 114).map (fun i => i.size) = some 7 := by kernel_rfl
theorem nd_neq {x y : Nat} {w : World} (hx : Nd x w) (hy : Nd y w) (h : x ≠ y) : (binOp .neq 82 (.pointer (some ⟨x, 0, none⟩)) (.pointer (some ⟨y, 0, none⟩))).run Tryd.prog w = .ok (.bool true) w := by
  obtain ⟨cx, hx, _⟩ := hx
  obtain ⟨cy, hy, _⟩ := hy
  cases hj : Tryd.prog.info? 114 with
  | none => have := infoProp; rw [hj] at this; cases this
  | some j =>
    have h7 := infoProp
    rw [hj] at h7
    have h7 : j.size = 7 := by simpa using h7
    exact neq_other w Tryd.underlying82 hj (by omega) (fun e => h (by cases e; rfl)) hx hy
theorem nd_neq_self {x : Nat} (w : World) : (binOp .neq 82 (.pointer (some ⟨x, 0, none⟩)) (.pointer (some ⟨x, 0, none⟩))).run Tryd.prog w = .ok (.bool false) w := by
  cases hj : Tryd.prog.info? 114 with
  | none => have := infoProp; rw [hj] at this; cases this
  | some j => exact Lib.run_neq_ptr_same w _ Tryd.underlying82 hj
def keyVs (L : List Pr) : List Value := L.map fun q => .string (bs q.2.1)
def KeysRel (B r n : Nat) (xs : List Value) (L : List Pr) (w : World) (lv xv : Value) (wr : World) (d R : List Pr) : Prop :=
  L = d ++ R ∧ (∃ y, y = headN r (R.map (·.1)) ∧ xv = .pointer (some ⟨y, 0, none⟩)) ∧ wr.ownsRow B 9 1 lv (n + d.length) (xs ++ keyVs d) ∧ Below B w wr
def KeysPost (B n : Nat) (xs : List Value) (L : List Pr) (w : World) (e : Ending) (w' : World) : Prop :=
  ∃ v', e = .returned v' ∧ w'.ownsRow B 9 1 v' (n + L.length) (xs ++ keyVs L) ∧ Below B w w'
set_option maxRecDepth 100000 in
set_option maxHeartbeats 2000000 in
theorem pKeys_any (B b : Nat) (op : Option (Nat × Nat)) (L : List Pr) (lv : Value) (n : Nat) (xs : List Value) (w : World)
    (hc3 : w.cell? ⟨b, 3, none⟩ = some (ringV op)) (H : PropsR op L w) (hA : ∀ m r, op = some (m, r) → ApartR m r L) (hbB : b < B) (hb : ∀ b ∈ blocksR op L, b < B) (hB : B ≤ w.heap.size)
    (ho : w.ownsRow B 9 1 lv n xs) (hn : n + L.length ≤ 30000) :
    Calls Tryd.prog 45 #[.pointer (some ⟨b, 2, none⟩), lv] w (KeysPost B n xs L w) := by
  rcases op with _ | ⟨m, r⟩
  · have hL : L = [] := H
    subst hL
    have hc3' : w.cell? ⟨b, 3, none⟩ = some (.pointer none) := hc3
    have hP : KeysPost B n xs [] w (.returned lv) w := ⟨lv, rfl, by simpa [keyVs] using ho, Below.refl _ _⟩
    have HP := Lib.hid hP
    clear hP ho H hA hc3
    go_enter Tryd.func45, Tryd.ntmps45
    go_wp2
    go_ret
    exact HP.out
  · have hc3' : w.cell? ⟨b, 3, none⟩ = some (.pointer (some ⟨r, 0, none⟩)) := hc3
    have hA' := hA m r rfl
    have hr6 : w.cell? ⟨r, 6, none⟩ = some (.pointer (some ⟨headN r (L.map (·.1)), 0, none⟩)) := H.2.2.2.head.1
    have hst : KeysRel B r n xs L w lv (.pointer (some ⟨headN r (L.map (·.1)), 0, none⟩)) w [] L := ⟨rfl, ⟨_, rfl, rfl⟩, by simpa [keyVs] using ho, Below.refl _ _⟩
    obtain ⟨hd, hhd⟩ : ∃ hd, headN r (L.map (·.1)) = hd := ⟨_, rfl⟩
    rw [hhd] at hr6 hst
    clear hhd
    have HST := Lib.hid hst
    have HH := Lib.hid H
    have HA := Lib.hid hA'
    have HB := Lib.hid hb
    clear hc3 hst H hA hA' hb ho
    go_enter Tryd.func45, Tryd.ntmps45
    go_wp2
    go_loopg [1, 5] L.length (fun g lv xv wr => ∃ d R : List Pr, R.length = g ∧ Hid (KeysRel B r n xs L w lv xv wr d R))
    case atStart => exact ⟨[], L, rfl, HST⟩
    case round =>
      obtain ⟨d, R, hg, hrl⟩ := hrel
      have hk := hrl.out
      obtain ⟨hL, ⟨y, hy, rfl⟩, hown, hbel⟩ := hk
      have k3 : wr.cell? ⟨b, 3, none⟩ = some (.pointer (some ⟨r, 0, none⟩)) := (cell_below hbel hbB 3).trans hc3'
      cases R with
      | nil =>
        have hP : KeysPost B n xs L w (.returned u1) wr := ⟨u1, rfl, by rw [hL, List.append_nil]; exact hown, hbel⟩
        have HP := Lib.hid hP
        replace hy : y = r := hy
        subst hy
        have hne := nd_neq_self (x := y) wr
        clear hP hL hown hbel hrl
        go_wp2
        go_ret
        exact HP.out
      | cons q R =>
        replace hy : y = q.1 := hy
        have hql : q ∈ L := by rw [hL]; simp
        have hq : q.1 ∈ r :: L.map (·.1) := List.mem_cons_of_mem _ (List.mem_map_of_mem (f := fun q : Pr => q.1) hql)
        have hA1 := List.nodup_cons.1 (List.nodup_cons.1 HA.out).2
        have hyr : y ≠ r := by
          rw [hy]
          intro e
          exact hA1.1 (by rw [← e]; exact List.mem_map_of_mem (f := fun q : Pr => q.1) hql)
        have hyB : y < B := by rw [hy]; exact HB.out _ (List.mem_cons_of_mem _ hq)
        have hrB : r < B := HB.out _ (by simp [blocksR])
        have y0 : wr.cell? ⟨y, 0, none⟩ = some (.string (bs q.2.1)) := by
          rw [cell_below hbel hyB 0, hy]; exact (HH.out.2.2.1 q hql).2.c0
        obtain ⟨z, hz⟩ : ∃ z, z = headN r (R.map (·.1)) := ⟨_, rfl⟩
        have y6 : wr.cell? ⟨y, 6, none⟩ = some (.pointer (some ⟨z, 0, none⟩)) := by
          rw [cell_below hbel hyB 6, hy, hz]
          have := HH.out.2.2.2
          rw [hL, List.map_append, List.map_cons] at this
          exact this.split.2.head.1
        have hne := nd_neq (w := wr) (Nd.keep (hbel.block y hyB) (by rw [hy]; exact (HH.out.2.2.1 q hql).1)) (Nd.keep (hbel.block r hrB) HH.out.2.1) hyr
        have hlen : n + d.length + 1 ≤ 30000 := by rw [hL] at hn; simp at hn; omega
        have HL := Lib.hid hL
        have HZ := Lib.hid hz
        have HG := Lib.hid hg
        have HO := Lib.hid hown
        have HBL := Lib.hid hbel
        have hwB : B ≤ wr.heap.size := Nat.le_trans hB hbel.size
        obtain ⟨i0, hi, hz0, hz1, hz2⟩ := info_parts infoStr
        obtain ⟨S, hS⟩ : ∃ S, S = bs q.2.1 := ⟨_, rfl⟩
        rw [← hS] at y0
        have HS := Lib.hid hS
        clear hrl hql hq hA1 hy hL hz hg hown hbel hS hr6
        go_wp2_with (at_builtin; refine wpList_append_own _ rfl _ _ 38 rfl B 9 i0 (.string ⟨#[]⟩) 1 16 Tryd.underlying38 hi hz0 hz1 hz2 rfl (by decide) _ _ _ rfl (HO.out.alloc _) ⟨wr.heap.size, 0, none⟩ 1 1 [.string S] rfl rfl ?c1 ?c2 ?c3 ?c4 ?c5 ?_)
        case c1 =>
          intro j u hj
          match j, hj with
          | 0, hj => simp at hj; subst hj; simp [Addr.add]
        case c2 => intro u hu; simp at hu; subst hu; rfl
        case c3 => unfold maxLen; omega
        case c4 => omega
        case c5 => simp; omega
        intro v' w2 hown' hgrow _
        have hb2 : Below B w w2 := HBL.out.trans (((Below.refl B wr).alloc hwB _).grown hgrow (by simp; omega) (fun k hk => (HO.out.lt k hk).1))
        have hrel' : KeysRel B r n xs L w v' (.pointer (some ⟨z, 0, none⟩)) w2 (d ++ [q]) R := by
          refine ⟨by rw [HL.out]; simp, ⟨z, HZ.out, rfl⟩, ?_, hb2⟩
          have : xs ++ keyVs (d ++ [q]) = xs ++ keyVs d ++ [.string S] := by rw [HS.out]; unfold keyVs; simp
          rw [this, List.length_append, List.append_assoc]
          exact hown'
        have y6' : w2.cell? ⟨y, 6, none⟩ = some (.pointer (some ⟨z, 0, none⟩)) := by
          rw [cell_below hb2 hyB 6, ← cell_below HBL.out hyB 6]; exact y6
        have HR := Lib.hid hrel'
        clear hrel' hb2 hown' hgrow hi hz0 hz1 hz2 y0 y6 k3 hne
        go_wp2
        go_roundg R.length
        case measure => have := HG.out; simp only [List.length_cons] at this; omega
        case rel => exact ⟨d ++ [q], R, rfl, HR⟩
end Go.Proofs.YtmhoebbdapjpeaaDoor
namespace Go.Proofs.YtmhoebbdapjpeaaDoor
open Go.RowKit Go.Maps
set_option linter.all false

/-- Where an object lies: its block, its map and its ring (if it has been opened), its properties with their blocks, its row of items. -/
structure Gx where
  blk : Nat
  op : Option (Nat × Nat)
  L : List Pr
  it : Value
def Gx.blocks (g : Gx) : List Nat := g.blk :: (blocksR g.op g.L ++ g.it.ownBlock.toList)
def objC (o : Ob) (g : Gx) : Array Value := #[.int .i64 o.kind, .int .i64 o.proto, mapV g.op, ringV g.op, g.it, .int .i64 o.a, .int .i64 o.b, .int .i64 o.s]
def itemCells (l : List V) : List Value := l.flatMap V.cells
structure ObAt (o : Ob) (g : Gx) (w : World) : Prop where
  blk : w.heap[g.blk]? = some (.cells (objC o g) 88 (0, 0))
  props : PropsR g.op g.L w
  eq : o.props = g.L.map (·.2)
  apart : g.blocks.Nodup
  keys : (g.L.map (·.2.1)).Nodup
  items : w.ownsRow 0 31 4 g.it o.items.length (itemCells o.items)
theorem row_keep {w w' : World} {base : Nat} {e : TypeId} {size : Nat} {v : Value} {n : Nat} {xs : List Value} (h : w.ownsRow base e size v n xs) (hb : ∀ b ∈ v.ownBlock.toList, w'.heap[b]? = w.heap[b]?) : w'.ownsRow base e size v n xs := by
  obtain ⟨h1, h2⟩ := h
  refine ⟨h1, ?_⟩
  rcases h2 with h2 | ⟨g, cap, cur, hv, hg, hh, r⟩
  · exact Or.inl h2
  · subst hv
    exact Or.inr ⟨g, cap, cur, rfl, hg, by rw [hb g (by simp [Value.ownBlock])]; exact hh, r⟩
theorem ObAt.keep {o : Ob} {g : Gx} {w w' : World} (H : ObAt o g w) (h : ∀ b ∈ g.blocks, w'.heap[b]? = w.heap[b]?) : ObAt o g w' := by
  refine ⟨(h g.blk (by simp [Gx.blocks])).trans H.blk, H.props.keep (fun b hb => h b ?_), H.eq, H.apart, H.keys, row_keep H.items (fun b hb => h b ?_)⟩
  · unfold Gx.blocks; exact List.mem_cons_of_mem _ (List.mem_append_left _ hb)
  · unfold Gx.blocks; exact List.mem_cons_of_mem _ (List.mem_append_right _ hb)
/-- A heap: its objects, and the cells that are left. -/
structure Hp where
  objs : List Ob
  left : Nat
def Ob.cells (o : Ob) : Nat := 1 + o.props.length + o.items.length
def Hp.taken (A : Hp) : Nat := (A.objs.map Ob.cells).sum
structure Hp.Ok (A : Hp) (c : Nat) : Prop where
  sum : A.taken + A.left = c
  few : c ≤ 10000
  proto : ∀ (i : Nat) (o : Ob), A.objs[i]? = some o → o.proto = -1 ∨ (0 ≤ o.proto ∧ o.proto < (i : Int))
def allBlocks (h : Nat) (sv : Value) (gs : List Gx) : List Nat := (h :: sv.ownBlock.toList) ++ gs.flatMap Gx.blocks
structure HeapG (h : Nat) (A : Hp) (sv : Value) (gs : List Gx) (w : World) : Prop where
  hp : HpC h sv (A.left : Int) w
  row : w.ownsRow 0 89 1 sv gs.length (gs.map fun g => Value.pointer (some ⟨g.blk, 0, none⟩))
  len : A.objs.length = gs.length
  obs : ∀ (i : Nat) (o : Ob) (g : Gx), A.objs[i]? = some o → gs[i]? = some g → ObAt o g w
  apart : (allBlocks h sv gs).Nodup
  lt : ∀ b ∈ allBlocks h sv gs, b < w.heap.size
/-- A heap lies at h, in these blocks. -/
def HeapAt (h : Nat) (A : Hp) (O : List Nat) (w : World) : Prop := ∃ sv gs, HeapG h A sv gs w ∧ O = allBlocks h sv gs
theorem HeapG.keep {h : Nat} {A : Hp} {sv : Value} {gs : List Gx} {w w' : World} (H : HeapG h A sv gs w) (hs : w.heap.size ≤ w'.heap.size) (hk : ∀ b ∈ allBlocks h sv gs, w'.heap[b]? = w.heap[b]?) : HeapG h A sv gs w' := by
  refine ⟨(hk h (by simp [allBlocks])).trans H.hp, row_keep H.row (fun b hb => hk b ?_), H.len, fun i o g ho hg => (H.obs i o g ho hg).keep (fun b hb => hk b ?_), H.apart, fun b hb => Nat.lt_of_lt_of_le (H.lt b hb) hs⟩
  · unfold allBlocks; exact List.mem_append_left _ (List.mem_cons_of_mem _ hb)
  · unfold allBlocks; exact List.mem_append_right _ (List.mem_flatMap.2 ⟨g, List.mem_of_getElem? hg, hb⟩)
theorem HeapG.fr {h : Nat} {A : Hp} {sv : Value} {gs : List Gx} {w w' : World} (H : HeapG h A sv gs w) (hf : Fr [] w w') : HeapG h A sv gs w' := H.keep hf.size (fun b hb => hf.block b (H.lt b hb) List.not_mem_nil)
theorem HeapAt.fr {h : Nat} {A : Hp} {O : List Nat} {w w' : World} (H : HeapAt h A O w) (hf : Fr [] w w') : HeapAt h A O w' := by
  obtain ⟨sv, gs, H, rfl⟩ := H
  exact ⟨sv, gs, H.fr hf, rfl⟩
theorem row_slice {w : World} {base : Nat} {e : TypeId} {size : Nat} {v : Value} {n : Nat} {xs : List Value} (h : w.ownsRow base e size v n xs) : ∃ p cap, v = .slice p n cap := by
  obtain ⟨_, h2 | ⟨g, cap, cur, hv, _⟩⟩ := h
  · exact ⟨none, 0, by rw [h2.1, h2.2]⟩
  · exact ⟨_, cap, hv⟩
theorem nodup_swap {A B C D : List Nat} {N : Nat} (h : (A ++ (B ++ C)).Nodup) (hD : D.Nodup) (hsub : ∀ b ∈ D, b ∈ B ∨ N ≤ b) (hlt : ∀ b ∈ A ++ (B ++ C), b < N) : (A ++ (D ++ C)).Nodup := by
  rw [List.nodup_append, List.nodup_append] at h ⊢
  obtain ⟨hA, ⟨hB, hC, hBC⟩, hABC⟩ := h
  refine ⟨hA, ⟨hD, hC, ?_⟩, ?_⟩
  · intro a ha c hc e
    rcases hsub a ha with h1 | h1
    · exact hBC a h1 c hc e
    · have := hlt c (List.mem_append_right _ (List.mem_append_right _ hc)); omega
  · intro a ha c hc e
    rw [List.mem_append] at hc
    rcases hc with hc | hc
    · rcases hsub c hc with h1 | h1
      · exact hABC a ha c (List.mem_append_left _ h1) e
      · have := hlt a (List.mem_append_left _ ha); omega
    · exact hABC a ha c (List.mem_append_right _ hc) e
/-- What became of one object, and of the cells that are left. -/
structure Upd (h : Nat) (sv : Value) (g : Gx) (o' : Ob) (left' : Int) (w w' : World) : Prop where
  ex : ∃ g', g'.blk = g.blk ∧ ObAt o' g' w' ∧ (∀ b ∈ g'.blocks, (b ∈ g.blocks ∨ w.heap.size ≤ b) ∧ b < w'.heap.size)
  hp : HpC h sv left' w'
  fr : Fr (h :: g.blocks) w w'
theorem HeapG.upd {h : Nat} {A : Hp} {sv : Value} {g : Gx} {g1 g2 : List Gx} {o o' : Ob} {o1 o2 : List Ob} {left' : Nat} {w w' : World} (H : HeapG h A sv (g1 ++ g :: g2) w) (hA : A.objs = o1 ++ o :: o2) (hl : o1.length = g1.length) (U : Upd h sv g o' (left' : Int) w w') :
    ∃ gs', HeapG h ⟨o1 ++ o' :: o2, left'⟩ sv gs' w' ∧ ∀ b ∈ allBlocks h sv gs', b ∈ allBlocks h sv (g1 ++ g :: g2) ∨ w.heap.size ≤ b := by
  obtain ⟨⟨g', hblk, hob, hsub⟩, hp, hfr⟩ := U
  have hall : allBlocks h sv (g1 ++ g :: g2) = (h :: sv.ownBlock.toList ++ g1.flatMap Gx.blocks) ++ (g.blocks ++ g2.flatMap Gx.blocks) := by
    unfold allBlocks; rw [List.flatMap_append, List.flatMap_cons, List.append_assoc]
  have hall' : allBlocks h sv (g1 ++ g' :: g2) = (h :: sv.ownBlock.toList ++ g1.flatMap Gx.blocks) ++ (g'.blocks ++ g2.flatMap Gx.blocks) := by
    unfold allBlocks; rw [List.flatMap_append, List.flatMap_cons, List.append_assoc]
  have hap := H.apart
  have hlt := H.lt
  rw [hall] at hap hlt
  have hlen := H.len
  rw [hA] at hlen
  have hN := List.nodup_append.1 hap
  have hN2 := List.nodup_append.1 hN.2.1
  have hN1 : (h :: (sv.ownBlock.toList ++ g1.flatMap Gx.blocks)).Nodup := by have := hN.1; simpa using this
  -- blocks of others are not touched
  have hfree : ∀ b, b < w.heap.size → b ≠ h → b ∉ g.blocks → w'.heap[b]? = w.heap[b]? := fun b hb h1 h2 => hfr.block b hb (by simp only [List.mem_cons, not_or]; exact ⟨h1, h2⟩)
  have hrow : ∀ b ∈ sv.ownBlock.toList, w'.heap[b]? = w.heap[b]? := by
    intro b hb
    have hm : b ∈ h :: sv.ownBlock.toList ++ g1.flatMap Gx.blocks := List.mem_append_left _ (List.mem_cons_of_mem _ hb)
    refine hfree b (hlt b (List.mem_append_left _ hm)) ?_ ?_
    · rintro rfl
      exact (List.nodup_cons.1 hN1).1 (List.mem_append_left _ hb)
    · intro h2
      exact hN.2.2 b hm b (List.mem_append_left _ h2) rfl
  have hg1 : ∀ k ∈ g1, ∀ b ∈ k.blocks, w'.heap[b]? = w.heap[b]? := by
    intro k hk b hb
    have hm0 : b ∈ g1.flatMap Gx.blocks := List.mem_flatMap.2 ⟨k, hk, hb⟩
    have hm : b ∈ h :: sv.ownBlock.toList ++ g1.flatMap Gx.blocks := List.mem_append_right _ hm0
    refine hfree b (hlt b (List.mem_append_left _ hm)) ?_ ?_
    · rintro rfl
      exact (List.nodup_cons.1 hN1).1 (List.mem_append_right _ hm0)
    · intro h2
      exact hN.2.2 b hm b (List.mem_append_left _ h2) rfl
  have hg2 : ∀ k ∈ g2, ∀ b ∈ k.blocks, w'.heap[b]? = w.heap[b]? := by
    intro k hk b hb
    have hm0 : b ∈ g2.flatMap Gx.blocks := List.mem_flatMap.2 ⟨k, hk, hb⟩
    have hm : b ∈ g.blocks ++ g2.flatMap Gx.blocks := List.mem_append_right _ hm0
    refine hfree b (hlt b (List.mem_append_right _ hm)) ?_ ?_
    · rintro rfl
      exact hN.2.2 b (List.mem_append_left _ (List.mem_cons_self)) b hm rfl
    · intro h2
      exact hN2.2.2 b h2 b hm0 rfl
  refine ⟨g1 ++ g' :: g2, ⟨hp, ?_, ?_, ?_, ?_, ?_⟩, ?_⟩
  · have := row_keep H.row hrow
    have e1 : (g1 ++ g' :: g2).length = (g1 ++ g :: g2).length := by simp
    have e2 : (g1 ++ g' :: g2).map (fun g => Value.pointer (some ⟨g.blk, 0, none⟩)) = (g1 ++ g :: g2).map (fun g => Value.pointer (some ⟨g.blk, 0, none⟩)) := by
      rw [List.map_append, List.map_append, List.map_cons, List.map_cons, hblk]
    rw [e1, e2]
    exact this
  · simpa using hlen
  · intro i p q hp' hq
    have hl2 : o2.length = g2.length := by simp at hlen; omega
    by_cases h1 : i < g1.length
    · rw [List.getElem?_append_left (by omega)] at hp' hq
      refine (H.obs i p q (by rw [hA, List.getElem?_append_left (by omega)]; exact hp') (by rw [List.getElem?_append_left h1]; exact hq)).keep (hg1 q (List.mem_of_getElem? hq))
    · by_cases h2 : i = g1.length
      · subst h2
        rw [List.getElem?_append_right (Nat.le_refl _), Nat.sub_self] at hq
        rw [List.getElem?_append_right (by omega), hl, Nat.sub_self] at hp'
        simp only [List.getElem?_cons_zero, Option.some.injEq] at hp' hq
        subst hp'
        subst hq
        exact hob
      · obtain ⟨j, hj⟩ : ∃ j, i - g1.length = j + 1 := ⟨i - g1.length - 1, by omega⟩
        rw [List.getElem?_append_right (by omega), hj, List.getElem?_cons_succ] at hq
        rw [List.getElem?_append_right (by omega), hl, hj, List.getElem?_cons_succ] at hp'
        refine (H.obs i p q (by rw [hA, List.getElem?_append_right (by omega), hl, hj, List.getElem?_cons_succ]; exact hp') (by rw [List.getElem?_append_right (by omega), hj, List.getElem?_cons_succ]; exact hq)).keep (hg2 q (List.mem_of_getElem? hq))
  · rw [hall']
    exact nodup_swap hap hob.apart (fun b hb => (hsub b hb).1) hlt
  · intro b hb
    rw [hall'] at hb
    rcases List.mem_append.1 hb with hb | hb
    rotate_left
    rcases List.mem_append.1 hb with hb | hb
    rotate_left 2
    · exact Nat.lt_of_lt_of_le (hlt b (List.mem_append_left _ hb)) hfr.size
    · exact (hsub b hb).2
    · exact Nat.lt_of_lt_of_le (hlt b (List.mem_append_right _ (List.mem_append_right _ hb))) hfr.size
  · intro b hb
    rw [hall'] at hb
    rw [hall]
    rcases List.mem_append.1 hb with hb | hb
    rotate_left
    rcases List.mem_append.1 hb with hb | hb
    rotate_left 2
    · exact Or.inl (List.mem_append_left _ hb)
    · exact (hsub b hb).1.imp (fun h => List.mem_append_right _ (List.mem_append_left _ h)) id
    · exact Or.inl (List.mem_append_right _ (List.mem_append_right _ hb))
end Go.Proofs.YtmhoebbdapjpeaaDoor
