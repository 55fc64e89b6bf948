/- Layer 8: Drop at an array's item. Conditions: those that each theorem names. Layer 8: Drop, whatever is dropped. Conditions: those that each theorem names. Layer 8: Put: no such object; no right value; own properties of any object. Conditions: those that each theorem names. Layer 8: putItem where the item is there. Conditions: those that each theorem names. Layer 8: Code. Conditions: those that each theorem names. Layer 8: Set. Conditions: those that each theorem names. Layer 8: putItem where no cells are left. Conditions: those that each theorem names. -/
import Derived.Test.YtmhoebbdapjpeaaDoorY11
namespace Go.Proofs.YtmhoebbdapjpeaaDoor
open Go.RowKit Go.Maps
set_option linter.all false

theorem idx_len : idx lenB = none := by kernel_rfl
theorem items_at {w : World} {base x n cap : Nat} {l : List V} (h : w.ownsRow base 31 4 (.slice (some ⟨x, 0, none⟩) n cap) n (itemCells l)) (hl : l.length = n) (j : Nat) (v : V) (hv : l[j]? = some v) :
    (w.cell? ⟨x, j * 4, none⟩ = some (.int .i64 v.k) ∧ w.cell? ⟨x, j * 4 + 1, none⟩ = some (.float .f64 v.n) ∧ w.cell? ⟨x, j * 4 + 2, none⟩ = some (.string (bs v.t)) ∧ w.cell? ⟨x, j * 4 + 3, none⟩ = some (.int .i64 v.r)) ∧
    (w.frozen? ⟨x, j * 4, none⟩ = false ∧ w.frozen? ⟨x, j * 4 + 1, none⟩ = false ∧ w.frozen? ⟨x, j * 4 + 2, none⟩ = false ∧ w.frozen? ⟨x, j * 4 + 3, none⟩ = false) := by
  obtain ⟨e0, e1, e2, e3⟩ := item_at l j v hv
  have hj := lt_of_getElem hv
  rw [show 4 * j = j * 4 by omega] at e0 e1 e2 e3
  exact ⟨⟨(h.cellAt _ (by omega)).trans e0, (h.cellAt _ (by omega)).trans e1, (h.cellAt _ (by omega)).trans e2, (h.cellAt _ (by omega)).trans e3⟩, h.frozenAt _, h.frozenAt _, h.frozenAt _, h.frozenAt _⟩
set_option maxRecDepth 100000 in
set_option maxHeartbeats 2000000 in
theorem drop_item (h : Nat) (A : Hp) (sv : Value) (gs : List Gx) (i : Nat) (o : Ob) (k : List UInt8) (hk : k.length ≤ 140737488355328) (w : World) (H : HeapG h A sv gs w) (F : A.Few) (ho : A.objs[i]? = some o) (j : Nat) (hki : oIdx o.kind k = some j) (v : V) (hv : o.items[j]? = some v) :
    Calls Tryd.prog 26 #[.pointer (some ⟨h, 0, none⟩), .int .i64 (i : Int), .string (bs k)] w fun e w' => e = .returned (.bool true) ∧ Step h ⟨A.objs.set i { o with items := o.items.set j V.zero }, A.left⟩ (allBlocks h sv gs) w w' := by
  have hi0 := lt_of_getElem ho
  obtain ⟨g, hg⟩ : ∃ g, gs[i]? = some g := ⟨gs[i]'(by rw [← H.len]; exact hi0), List.getElem?_eq_getElem _⟩
  obtain ⟨gb, cap, hsv, hcell, hgbm, hi⟩ := H.obj hg
  have hlen' := H.len
  have hkl : ¬ (o.kind = 2 ∧ k = lenB) := by
    rintro ⟨h1, rfl⟩
    unfold oIdx at hki
    rw [if_pos h1, idx_len] at hki
    cases hki
  have hownv : o.own k = some v := by unfold Ob.own; rw [if_neg hkl, hki]; exact hv
  have hown : Calls Tryd.prog 23 #[.pointer (some ⟨h, 0, none⟩), .int .i64 (i : Int), .string (bs k)] w fun e w' => e = .returned (.tuple #[.agg #[.int .i64 v.k, .float .f64 v.n, .string (bs v.t), .int .i64 v.r], .bool true]) ∧ Fr [] w w' := by
    have := own_any h A sv gs i o k hk w H ho F.objs (F.items i o ho)
    rw [hownv] at this
    exact this
  have hblk : ∀ W, Fr [] w W → W.cell? ⟨g.blk, 0, none⟩ = some (.int .i64 o.kind) := fun W hW => blk_cell ((H.fr hW).obs i o g ho hg).blk 0 _ rfl
  have hisl : ∀ W, Fr [] w W → Calls Tryd.prog 47 #[.pointer (some ⟨g.blk, 0, none⟩), .string (bs k)] W fun e w' => e = .returned (.bool false) ∧ W = w' := by
    intro W hW
    refine (isLength_any g.blk o.kind k W (hblk W hW)).mono ?_
    rintro e w' ⟨rfl, rfl⟩
    refine ⟨ret_bool ?_, rfl⟩
    rw [Bool.and_eq_false_iff, decide_eq_false_iff_not, decide_eq_false_iff_not]
    by_cases h2 : o.kind = 2
    · exact Or.inr (fun e => hkl ⟨h2, e⟩)
    · exact Or.inl h2
  have hidx : ∀ W, Fr [] w W → Calls Tryd.prog 49 #[.pointer (some ⟨g.blk, 0, none⟩), .string (bs k)] W fun e w' => e = .returned (.tuple #[.int .i64 (j : Int), .bool true]) ∧ ∃ d, w' = W.drewN d := by
    intro W hW
    refine (oIndex_any g.blk o.kind k hk W (hblk W hW)).mono ?_
    rintro e w' ⟨rfl, hd⟩
    exact ⟨by rw [hki]; rfl, hd⟩
  have hob := H.obs i o g ho hg
  have hjn := lt_of_getElem hv
  obtain ⟨x, c, hit⟩ : ∃ x c, g.it = .slice (some ⟨x, 0, none⟩) o.items.length c := by
    obtain ⟨_, h2 | ⟨x, c, cur, hv', _⟩⟩ := hob.items
    · omega
    · exact ⟨x, c, hv'⟩
  have hni := F.items i o ho
  have hst4 : ∀ W, Fr [] w W → W.cell? ⟨g.blk, 4, none⟩ = some (.slice (some ⟨x, 0, none⟩) o.items.length c) ∧ ((W.cell? ⟨x, j * 4, none⟩ = some (.int .i64 v.k) ∧ W.cell? ⟨x, j * 4 + 1, none⟩ = some (.float .f64 v.n) ∧ W.cell? ⟨x, j * 4 + 2, none⟩ = some (.string (bs v.t)) ∧ W.cell? ⟨x, j * 4 + 3, none⟩ = some (.int .i64 v.r)) ∧
      (W.frozen? ⟨x, j * 4, none⟩ = false ∧ W.frozen? ⟨x, j * 4 + 1, none⟩ = false ∧ W.frozen? ⟨x, j * 4 + 2, none⟩ = false ∧ W.frozen? ⟨x, j * 4 + 3, none⟩ = false)) := by
    intro W hW
    have hobW := (H.fr hW).obs i o g ho hg
    have hit' := hobW.items
    rw [hit] at hit'
    exact ⟨by rw [← hit]; exact blk_cell hobW.blk 4 _ rfl, items_at hit' rfl j v hv⟩
  have hfin : ∀ W, Fr [] w W → Step h ⟨A.objs.set i { o with items := o.items.set j V.zero }, A.left⟩ (allBlocks h sv gs) w (setItem W x j V.zero) := by
    intro W hW
    have hHW := H.fr hW
    exact Step.pre hW (hHW.step ho hg (Upd.item (hHW.obs i o g ho hg) hHW.hp (H.apart_h hg) (hHW.lt_g hg) hit j hjn V.zero))
  subst hsv
  have hc0 : ∀ W, Fr [] w W → W.cell? ⟨h, 0, none⟩ = some (.slice (some ⟨gb, 0, none⟩) gs.length cap) := fun W hW => (H.fr hW).hp.c0
  have hcr : ∀ W, Fr [] w W → W.cell? ⟨gb, i, none⟩ = some (.pointer (some ⟨g.blk, 0, none⟩)) := fun W hW => (hW.cell (H.lt gb hgbm) List.not_mem_nil i).trans hcell
  have hin : gs.length ≤ 10000 := by have := F.objs; omega
  have HISL := Lib.hid hisl
  have HIDX := Lib.hid hidx
  have HST4 := Lib.hid hst4
  have HFIN := Lib.hid hfin
  have HC0 := Lib.hid hc0
  have HCR := Lib.hid hcr
  have hst := store_float
  generalize hO : allBlocks h (.slice (some ⟨gb, 0, none⟩) gs.length cap) gs = O at *
  generalize (⟨A.objs.set i { o with items := o.items.set j V.zero }, A.left⟩ : Hp) = A2 at *
  obtain ⟨G, hG⟩ : ∃ G, G = gs.length := ⟨_, rfl⟩
  rw [← hG] at hin hi HC0
  generalize g.blk = b at *
  generalize o.items.length = M at *
  clear hG hO hisl hidx hst4 hfin hc0 hcr hblk hownv hki hkl hv F ho hg H hcell hgbm hlen' hk hob hit hi0
  generalize bs k = S at *
  generalize v.k = vk at *
  generalize v.n = vn at *
  generalize bs v.t = vT at *
  generalize v.r = vr at *
  go_enter Tryd.func26, Tryd.ntmps26
  go_wp2_with (first
    | (go_at_call 23; ((with_reducible refine hown.mono ?_); rintro e w1 ⟨rfl, hf1⟩; have R1 := Lib.hid (hf1.trans (Fr.alloc w1 (.cells #[.int .i64 vk, .float .f64 vn, .string vT, .int .i64 vr] 31 (0, 0))) (fun _ h => by cases h)); clear hf1; have k0 := HC0.out _ R1.out; have k1 := HCR.out _ R1.out))
    | (go_at_call 47; ((with_reducible refine (HISL.out _ R1.out).mono ?_); rintro e w2 ⟨rfl, rfl⟩))
    | (go_at_call 49; ((with_reducible refine (HIDX.out _ R1.out).mono ?_); rintro e w3 ⟨rfl, d, rfl⟩; have R2 := Lib.hid (R1.out.trans (Fr.drewN _ d) (fun _ h => by cases h)); obtain ⟨t0, ⟨t1, t2, t3, t4⟩, t5, t6, t7, t8⟩ := HST4.out _ R1.out))
    | fail)
  go_ret
  exact ⟨rfl, HFIN.out _ R2.out⟩
end Go.Proofs.YtmhoebbdapjpeaaDoor
namespace Go.Proofs.YtmhoebbdapjpeaaDoor
open Go.RowKit Go.Maps
set_option linter.all false

/-- What becomes of a heap, and whether anything was dropped. -/
def Hp.drop (A : Hp) (i : Int) (k : List UInt8) : Bool × Hp :=
  if 0 ≤ i then match A.objs[i.toNat]? with
    | none => (false, A)
    | some o => match o.own k with
      | none => (false, A)
      | some _ => if o.kind = 2 ∧ k = lenB then (false, A) else match oIdx o.kind k with
        | some j => (true, ⟨A.objs.set i.toNat { o with items := o.items.set j V.zero }, A.left⟩)
        | none => (true, ⟨A.objs.set i.toNat { o with props := dropP o.props k }, A.left + 1⟩)
  else (false, A)
theorem step_fr {h : Nat} {A : Hp} {sv : Value} {gs : List Gx} {w w' : World} (H : HeapG h A sv gs w) (hf : Fr [] w w') : Step h A (allBlocks h sv gs) w w' :=
  ⟨⟨allBlocks h sv gs, ⟨sv, gs, H.fr hf, rfl⟩, fun b hb => Or.inl hb⟩, hf.mono (fun _ h => by cases h)⟩
theorem drop_all (h : Nat) (A : Hp) (sv : Value) (gs : List Gx) (i : Int) (k : List UInt8) (hk : k.length ≤ 140737488355328) (w : World) (H : HeapG h A sv gs w) (F : A.Few) :
    Calls Tryd.prog 26 #[.pointer (some ⟨h, 0, none⟩), .int .i64 i, .string (bs k)] w fun e w' => e = .returned (.bool (A.drop i k).1) ∧ Step h (A.drop i k).2 (allBlocks h sv gs) w w' := by
  by_cases hi : 0 ≤ i ∧ i < (A.objs.length : Int)
  · obtain ⟨n, rfl⟩ : ∃ n : Nat, i = n := ⟨i.toNat, by omega⟩
    have hn : n < A.objs.length := by omega
    obtain ⟨o, ho⟩ : ∃ o, A.objs[n]? = some o := ⟨A.objs[n], List.getElem?_eq_getElem hn⟩
    have hown : A.own (n : Int) k = o.own k := by unfold Hp.own; rw [if_pos (by omega), Int.toNat_natCast, ho]
    have hd : A.drop (n : Int) k = match o.own k with
      | none => (false, A)
      | some _ => if o.kind = 2 ∧ k = lenB then (false, A) else match oIdx o.kind k with
        | some j => (true, ⟨A.objs.set n { o with items := o.items.set j V.zero }, A.left⟩)
        | none => (true, ⟨A.objs.set n { o with props := dropP o.props k }, A.left + 1⟩) := by
      unfold Hp.drop; rw [if_pos (by omega), Int.toNat_natCast, ho]
    cases hv : o.own k with
    | none =>
      rw [hd, hv]
      refine (drop_none h A sv gs (n : Int) k hk w H F (hown.trans hv)).mono ?_
      rintro e w' ⟨rfl, hf⟩
      exact ⟨rfl, step_fr H hf⟩
    | some v =>
      by_cases hl : o.kind = 2 ∧ k = lenB
      · rw [hd, hv]
        show Calls _ _ _ w fun e w' => e = .returned (.bool (if o.kind = 2 ∧ k = lenB then (false, A) else _).1) ∧ Step h (if o.kind = 2 ∧ k = lenB then (false, A) else _).2 _ w w'
        rw [if_pos hl]
        obtain ⟨h2, rfl⟩ := hl
        refine (drop_length h A sv gs n o w H F ho h2).mono ?_
        rintro e w' ⟨rfl, hf⟩
        exact ⟨rfl, step_fr H hf⟩
      · have hv' := hv
        unfold Ob.own at hv'
        rw [if_neg hl] at hv'
        rw [hd, hv]
        show Calls _ _ _ w fun e w' => e = .returned (.bool (if o.kind = 2 ∧ k = lenB then (false, A) else _).1) ∧ Step h (if o.kind = 2 ∧ k = lenB then (false, A) else _).2 _ w w'
        rw [if_neg hl]
        cases hx : oIdx o.kind k with
        | some j =>
          rw [hx] at hv'
          exact drop_item h A sv gs n o k hk w H F ho j hx v hv'
        | none =>
          rw [hx] at hv'
          exact drop_props h A sv gs n o k hk w H F ho hl hx v hv'
  · have hown : A.own i k = none := by
      unfold Hp.own
      split
      · rw [List.getElem?_eq_none (by omega)]
      · rfl
    have hd : A.drop i k = (false, A) := by
      unfold Hp.drop
      split
      · rw [List.getElem?_eq_none (by omega)]
      · rfl
    rw [hd]
    refine (drop_none h A sv gs i k hk w H F hown).mono ?_
    rintro e w' ⟨rfl, hf⟩
    exact ⟨rfl, step_fr H hf⟩
theorem drop_all_h {N h : Nat} {A : Hp} {L : List Nat} {w0 w : World} (H : Hv N h A L w0 w) (i : Int) (k : List UInt8) (hk : k.length ≤ 140737488355328) (hF' : (A.drop i k).2.Few) :
    Calls Tryd.prog 26 #[.pointer (some ⟨h, 0, none⟩), .int .i64 i, .string (bs k)] w fun e w' => e = .returned (.bool (A.drop i k).1) ∧ Nx N h (A.drop i k).2 L w0 w w' := by
  obtain ⟨sv, gs, hG, hF, h1, h2, h3, h4⟩ := H
  refine (drop_all h A sv gs i k hk w hG hF).mono ?_
  rintro e w' ⟨rfl, hS⟩
  exact ⟨rfl, Hv.step hF' h1 h2 h3 h4 hS⟩
end Go.Proofs.YtmhoebbdapjpeaaDoor
namespace Go.Proofs.YtmhoebbdapjpeaaDoor
open Go.RowKit Go.Maps
set_option linter.all false

set_option maxRecDepth 100000 in
set_option maxHeartbeats 1000000 in
theorem put_own (h : Nat) (A : Hp) (sv : Value) (gs : List Gx) (i : Nat) (o : Ob) (g : Gx) (k : List UInt8) (hk : k.length ≤ 140737488355328) (vk : Int) (vn : Nat) (vt : List UInt8) (ht : vt.length ≤ maxLen) (vr : Int) (w : World)
    (H : HeapG h A sv gs w) (ho : A.objs[i]? = some o) (hg : gs[i]? = some g) (hleft : A.left ≤ 10000) (hlen : A.objs.length ≤ 10000) (hn : o.props.length < maxLen) (hkl : ¬ (o.kind = 2 ∧ k = lenB)) (hki : oIdx o.kind k = none) (hv : rightV A.objs.length ⟨vk, vn, vt, vr⟩ = true) :
    Calls Tryd.prog 18 #[.pointer (some ⟨h, 0, none⟩), .int .i64 (i : Int), .string (bs k), .agg #[.int .i64 vk, .float .f64 vn, .string (bs vt), .int .i64 vr]] w fun e w' =>
      e = .returned (.int .i64 (A.putOwn i o k ⟨vk, vn, vt, vr⟩).1) ∧ Step h (A.putOwn i o k ⟨vk, vn, vt, vr⟩).2 (allBlocks h sv gs) w w' := by
  obtain ⟨gb, cap, hsv, hcell, hgbm, hi⟩ := H.obj hg
  have hlen' := H.len
  have hmx : k.length ≤ maxLen := Nat.le_trans hk (by decide)
  subst hsv
  -- the calls, at any world that only grew
  have hhas : ∀ W, Fr [] w W → Calls Tryd.prog 44 #[.pointer (some ⟨h, 0, none⟩), .int .i64 (i : Int)] W fun e w' => e = .returned (.bool true) ∧ W = w' := by
    intro W hW
    refine (has_any h _ gs.length cap A.left (i : Int) W (H.fr hW).hp).mono ?_
    rintro e w' ⟨rfl, rfl⟩
    exact ⟨ret_bool (by simp; omega), rfl⟩
  have hright : ∀ W, Fr [] w W → Calls Tryd.prog 46 #[.pointer (some ⟨h, 0, none⟩), .agg #[.int .i64 vk, .float .f64 vn, .string (bs vt), .int .i64 vr]] W fun e w' => e = .returned (.bool true) ∧ Below W.heap.size W w' := by
    intro W hW
    refine (isRight_any h _ gs.length cap A.left vk vn vt ht vr W (H.fr hW).hp).mono ?_
    rintro e w' ⟨rfl, hb⟩
    exact ⟨by rw [← hlen', hv], hb⟩
  have hblk : ∀ W, Fr [] w W → W.cell? ⟨g.blk, 0, none⟩ = some (.int .i64 o.kind) := fun W hW => blk_cell ((H.fr hW).obs i o g ho hg).blk 0 _ rfl
  have hisl : ∀ W, Fr [] w W → Calls Tryd.prog 47 #[.pointer (some ⟨g.blk, 0, none⟩), .string (bs k)] W fun e w' => e = .returned (.bool false) ∧ W = w' := by
    intro W hW
    refine (isLength_any g.blk o.kind k W (hblk W hW)).mono ?_
    rintro e w' ⟨rfl, rfl⟩
    refine ⟨ret_bool ?_, rfl⟩
    rw [Bool.and_eq_false_iff, decide_eq_false_iff_not, decide_eq_false_iff_not]
    by_cases h2 : o.kind = 2
    · exact Or.inr (fun e => hkl ⟨h2, e⟩)
    · exact Or.inl h2
  have hidx : ∀ W, Fr [] w W → Calls Tryd.prog 49 #[.pointer (some ⟨g.blk, 0, none⟩), .string (bs k)] W fun e w' => e = .returned (.tuple #[.int .i64 0, .bool false]) ∧ ∃ d, w' = W.drewN d := by
    intro W hW
    refine (oIndex_any g.blk o.kind k hk W (hblk W hW)).mono ?_
    rintro e w' ⟨rfl, hd⟩
    exact ⟨by rw [hki]; rfl, hd⟩
  obtain ⟨er, A', hA'⟩ : ∃ er A', A.putOwn i o k ⟨vk, vn, vt, vr⟩ = (er, A') := ⟨_, _, rfl⟩
  have hput : ∀ W, Fr [] w W → Calls Tryd.prog 51 #[.pointer (some ⟨h, 0, none⟩), .pointer (some ⟨g.blk, 0, none⟩), .string (bs k), .agg #[.int .i64 vk, .float .f64 vn, .string (bs vt), .int .i64 vr]] W fun e w' =>
      e = .returned (.int .i64 er) ∧ Step h A' (allBlocks h (.slice (some ⟨gb, 0, none⟩) gs.length cap) gs) w w' := by
    intro W hW
    refine (putOwn_any h A _ gs i o g k hmx vk vn vt vr W (H.fr hW) ho hg hleft hn).mono ?_
    rintro e w' ⟨rfl, hS⟩
    rw [hA'] at hS
    exact ⟨by rw [hA'], Step.pre hW hS⟩
  rw [hA']
  have hc0 : ∀ W, Fr [] w W → W.cell? ⟨h, 0, none⟩ = some (.slice (some ⟨gb, 0, none⟩) gs.length cap) := fun W hW => (H.fr hW).hp.c0
  have hcr : ∀ W, Fr [] w W → W.cell? ⟨gb, i, none⟩ = some (.pointer (some ⟨g.blk, 0, none⟩)) := fun W hW => (hW.cell (H.lt gb hgbm) List.not_mem_nil i).trans hcell
  have hin : gs.length ≤ 10000 := by omega
  have HHAS := Lib.hid hhas
  have HR := Lib.hid hright
  have HISL := Lib.hid hisl
  have HIDX := Lib.hid hidx
  have HPUT := Lib.hid hput
  have HC0 := Lib.hid hc0
  have HCR := Lib.hid hcr
  have hst := store_float
  obtain ⟨G, hG⟩ : ∃ G, G = gs.length := ⟨_, rfl⟩
  rw [← hG] at hin hi
  generalize hO : allBlocks h (.slice (some ⟨gb, 0, none⟩) gs.length cap) gs = O at *
  rw [← hG] at HC0
  generalize g.blk = b at *
  clear hG hO hhas hright hisl hidx hput hc0 hcr hblk hA' hv hkl hki hn hlen hleft ho hg H hcell hgbm hlen' hmx hk ht
  generalize bs k = S at *
  generalize bs vt = T at *
  have r0 : Fr [] w (w.alloc (.cells #[.int .i64 vk, .float .f64 vn, .string T, .int .i64 vr] 31)) := Fr.alloc _ _
  have x0 := Bx.new vk vn T vr w
  have X0 := Lib.hid x0
  have R0 := Lib.hid r0
  clear x0 r0
  go_enter Tryd.func18, Tryd.ntmps18
  go_wp2_with (first
    | (go_at_call 44; ((with_reducible refine (HHAS.out _ R0.out).mono ?_); rintro e w1 ⟨rfl, rfl⟩))
    | (go_at_call 46; ((with_reducible refine (HR.out _ R0.out).mono ?_); rintro e w1 ⟨rfl, hb1⟩; have R1 := Lib.hid (R0.out.trans (Fr.of_below hb1) (fun _ h => by cases h)); have X1 := Lib.hid (X0.out.below hb1); obtain ⟨y0, y1, y2, y3⟩ := X1.out.cells; have k0 := HC0.out _ R1.out; have k1 := HCR.out _ R1.out))
    | (go_at_call 47; ((with_reducible refine (HISL.out _ R1.out).mono ?_); rintro e w2 ⟨rfl, rfl⟩))
    | (go_at_call 49; ((with_reducible refine (HIDX.out _ R1.out).mono ?_); rintro e w2 ⟨rfl, d, rfl⟩; have R2 := Lib.hid (R1.out.trans (Fr.drewN _ d) (fun _ h => by cases h))))
    | (go_at_call 51; ((with_reducible refine (HPUT.out _ R2.out).mono ?_); rintro e w3 ⟨rfl, hS⟩; have HS := Lib.hid hS; clear hS))
    | fail)
  go_ret
  exact ⟨rfl, HS.out⟩
set_option maxRecDepth 100000 in
set_option maxHeartbeats 1000000 in
theorem put_lost (h : Nat) (A : Hp) (sv : Value) (gs : List Gx) (i : Int) (S : ByteArray) (vk : Int) (vn : Nat) (T : ByteArray) (vr : Int) (w : World)
    (H : HeapG h A sv gs w) (hlen : A.objs.length ≤ 10000) (hi : ¬ (0 ≤ i ∧ i < (A.objs.length : Int))) :
    Calls Tryd.prog 18 #[.pointer (some ⟨h, 0, none⟩), .int .i64 i, .string S, .agg #[.int .i64 vk, .float .f64 vn, .string T, .int .i64 vr]] w fun e w' => e = .returned (.int .i64 3) ∧ Fr [] w w' := by
  have hhas := has_obj H hlen i
  have e : (decide (0 ≤ i) && decide (i < (A.objs.length : Int))) = false := by
    rw [Bool.and_eq_false_iff, decide_eq_false_iff_not, decide_eq_false_iff_not]; omega
  rw [e] at hhas
  have HHAS := Lib.hid hhas
  have hst := store_float
  clear e hi hlen H hhas
  have r0 : Fr [] w (w.alloc (.cells #[.int .i64 vk, .float .f64 vn, .string T, .int .i64 vr] 31)) := Fr.alloc _ _
  have R0 := Lib.hid r0
  clear r0
  go_enter Tryd.func18, Tryd.ntmps18
  go_wp2_with (first
    | (go_at_call 44; ((with_reducible refine (HHAS.out _ R0.out).mono ?_); rintro e w1 ⟨rfl, rfl⟩))
    | fail)
  go_ret
  exact ⟨rfl, R0.out⟩
set_option maxRecDepth 100000 in
set_option maxHeartbeats 1000000 in
theorem put_bad (h : Nat) (A : Hp) (sv : Value) (gs : List Gx) (i : Int) (S : ByteArray) (vk : Int) (vn : Nat) (vt : List UInt8) (ht : vt.length ≤ maxLen) (vr : Int) (w : World)
    (H : HeapG h A sv gs w) (hlen : A.objs.length ≤ 10000) (hi : 0 ≤ i ∧ i < (A.objs.length : Int)) (hv : rightV A.objs.length ⟨vk, vn, vt, vr⟩ = false) :
    Calls Tryd.prog 18 #[.pointer (some ⟨h, 0, none⟩), .int .i64 i, .string S, .agg #[.int .i64 vk, .float .f64 vn, .string (bs vt), .int .i64 vr]] w fun e w' => e = .returned (.int .i64 1) ∧ Fr [] w w' := by
  have hhas := has_obj H hlen i
  have e : (decide (0 ≤ i) && decide (i < (A.objs.length : Int))) = true := by simp; omega
  rw [e] at hhas
  have hlen' := H.len
  have hright : ∀ W, Fr [] w W → Calls Tryd.prog 46 #[.pointer (some ⟨h, 0, none⟩), .agg #[.int .i64 vk, .float .f64 vn, .string (bs vt), .int .i64 vr]] W fun e w' => e = .returned (.bool false) ∧ Fr [] W w' := by
    intro W hW
    obtain ⟨p, cap, hsv⟩ := row_slice H.row
    subst hsv
    refine (isRight_any h _ gs.length cap A.left vk vn vt ht vr W (H.fr hW).hp).mono ?_
    rintro e w' ⟨rfl, hb⟩
    exact ⟨by rw [← hlen', hv], Fr.of_below hb⟩
  have HHAS := Lib.hid hhas
  have HR := Lib.hid hright
  have hst := store_float
  clear e hi hlen H hhas hright hv hlen' ht
  generalize bs vt = T at *
  have r0 : Fr [] w (w.alloc (.cells #[.int .i64 vk, .float .f64 vn, .string T, .int .i64 vr] 31)) := Fr.alloc _ _
  have R0 := Lib.hid r0
  clear r0
  go_enter Tryd.func18, Tryd.ntmps18
  go_wp2_with (first
    | (go_at_call 44; ((with_reducible refine (HHAS.out _ R0.out).mono ?_); rintro e w1 ⟨rfl, rfl⟩))
    | (go_at_call 46; ((with_reducible refine (HR.out _ R0.out).mono ?_); rintro e w1 ⟨rfl, hb1⟩; have R1 := Lib.hid (R0.out.trans hb1 (fun _ h => by cases h))))
    | fail)
  go_ret
  exact ⟨rfl, R1.out⟩
end Go.Proofs.YtmhoebbdapjpeaaDoor
namespace Go.Proofs.YtmhoebbdapjpeaaDoor
open Go.RowKit Go.Maps
set_option linter.all false

theorem Upd.pre {h : Nat} {sv : Value} {g : Gx} {o' : Ob} {left' : Int} {w W w' : World} (hW : Fr [] w W) (U : Upd h sv g o' left' W w') : Upd h sv g o' left' w w' := by
  obtain ⟨⟨g', h1, h2, h3⟩, hp, hf⟩ := U
  have hs := hW.size
  refine ⟨⟨g', h1, h2, fun b hb => ⟨(h3 b hb).1.imp id (fun h => by omega), (h3 b hb).2⟩⟩, hp, ?_⟩
  exact (hW.mono (fun _ h => by cases h)).trans hf (fun b hb => Or.inl hb)
theorem Upd.drew {h : Nat} {sv : Value} {g : Gx} {o' : Ob} {left' : Int} {w w' : World} (U : Upd h sv g o' left' w w') : Upd h sv g o' left' w w'.drew := by
  obtain ⟨⟨g', h1, h2, h3⟩, hp, hf⟩ := U
  exact ⟨⟨g', h1, h2.keep (fun b hb => rfl), fun b hb => h3 b hb⟩, hp, hf.drew⟩
set_option maxRecDepth 100000 in
set_option maxHeartbeats 2000000 in
theorem putItem_old (h : Nat) (sv : Value) (left : Int) (o : Ob) (g : Gx) (j : Nat) (hj : j < o.items.length) (hn : o.items.length ≤ 10000) (vk : Int) (vn : Nat) (vt : List UInt8) (vr : Int) (w : World)
    (hh : HpC h sv left w) (hgh : h ∉ g.blocks) (H : ObAt o g w) (hlt : ∀ x ∈ g.blocks, x < w.heap.size) (hhl : h < w.heap.size) :
    Calls Tryd.prog 50 #[.pointer (some ⟨h, 0, none⟩), .pointer (some ⟨g.blk, 0, none⟩), .int .i64 (j : Int), .agg #[.int .i64 vk, .float .f64 vn, .string (bs vt), .int .i64 vr]] w fun e w' => e = .returned (.int .i64 0) ∧ Upd h sv g { o with items := o.items.set j ⟨vk, vn, vt, vr⟩ } left w w' := by
  obtain ⟨x, c, hit⟩ : ∃ x c, g.it = .slice (some ⟨x, 0, none⟩) o.items.length c := by
    obtain ⟨_, h2 | ⟨x, c, cur, hv', _⟩⟩ := H.items
    · omega
    · exact ⟨x, c, hv'⟩
  obtain ⟨v, hv⟩ : ∃ v, o.items[j]? = some v := ⟨o.items[j], List.getElem?_eq_getElem hj⟩
  have hkeep : ∀ W, Fr [] w W → ObAt o g W := fun W hW => H.keep (fun b hb => hW.block b (hlt b hb) List.not_mem_nil)
  have hst4 : ∀ W, Fr [] w W → W.cell? ⟨g.blk, 4, none⟩ = some (.slice (some ⟨x, 0, none⟩) o.items.length c) ∧ ((W.cell? ⟨x, j * 4, none⟩ = some (.int .i64 v.k) ∧ W.cell? ⟨x, j * 4 + 1, none⟩ = some (.float .f64 v.n) ∧ W.cell? ⟨x, j * 4 + 2, none⟩ = some (.string (bs v.t)) ∧ W.cell? ⟨x, j * 4 + 3, none⟩ = some (.int .i64 v.r)) ∧
      (W.frozen? ⟨x, j * 4, none⟩ = false ∧ W.frozen? ⟨x, j * 4 + 1, none⟩ = false ∧ W.frozen? ⟨x, j * 4 + 2, none⟩ = false ∧ W.frozen? ⟨x, j * 4 + 3, none⟩ = false)) := by
    intro W hW
    have hobW := hkeep W hW
    have hit' := hobW.items
    rw [hit] at hit'
    exact ⟨by rw [← hit]; exact blk_cell hobW.blk 4 _ rfl, items_at hit' rfl j v hv⟩
  have hfin : ∀ W, Fr [] w W → Upd h sv g { o with items := o.items.set j ⟨vk, vn, vt, vr⟩ } left w (setItem W x j ⟨vk, vn, vt, vr⟩) := by
    intro W hW
    exact Upd.pre hW (Upd.item (hkeep W hW) ((hW.block h hhl List.not_mem_nil).trans hh) hgh (fun y hy => Nat.lt_of_lt_of_le (hlt y hy) hW.size) hit j hj _)
  have HST4 := Lib.hid hst4
  have HFIN := Lib.hid hfin
  have hst := store_float
  generalize ({ o with items := o.items.set j ⟨vk, vn, vt, vr⟩ } : Ob) = o2 at *
  generalize hb : g.blk = b at *
  generalize o.items.length = M at *
  clear hst4 hfin hkeep H hlt hhl hh hgh hit hv hb
  unfold setItem at HFIN
  dsimp only at HFIN
  generalize bs vt = T at *
  generalize v.k = k0 at *
  generalize v.n = n0 at *
  generalize bs v.t = T0 at *
  generalize v.r = r0 at *
  have r0' : Fr [] w (w.alloc (.cells #[.int .i64 vk, .float .f64 vn, .string T, .int .i64 vr] 31)) := Fr.alloc _ _
  have x0 := Bx.new vk vn T vr w
  obtain ⟨y0, y1, y2, y3⟩ := x0.cells
  obtain ⟨t0, ⟨t1, t2, t3, t4⟩, t5, t6, t7, t8⟩ := HST4.out _ r0'
  have R0 := Lib.hid r0'
  have hji : (j : Int) < (M : Int) := by omega
  clear r0' x0
  go_enter Tryd.func50, Tryd.ntmps50
  go_wp2
  go_region
  go_wp2
  go_ret
  exact ⟨rfl, (HFIN.out _ R0.out).drew⟩
end Go.Proofs.YtmhoebbdapjpeaaDoor
namespace Go.Proofs.YtmhoebbdapjpeaaDoor
open Go.RowKit Go.Maps
set_option linter.all false

set_option maxRecDepth 100000 in
theorem code_none (h : Nat) (A : Hp) (sv : Value) (gs : List Gx) (i : Int) (w : World) (H : HeapG h A sv gs w) (hlen : A.objs.length ≤ 10000) (hk : A.kind i ≠ 3) :
    Calls Tryd.prog 41 #[.pointer (some ⟨h, 0, none⟩), .int .i64 i] w fun e w' => e = .returned (.tuple #[.int .i64 0, .int .i64 0, .int .i64 0, .bool false]) ∧ Fr [] w w' := by
  have hkd := kind_any h A sv gs i w H hlen
  generalize A.kind i = z at *
  have hz : (z != 3) = true := by rw [bne_iff_ne]; exact hk
  clear H hlen hk
  have R0 : Hid (Fr [] w w) := Lib.hid (Fr.refl _ _)
  go_enter Tryd.func41, Tryd.ntmps41
  go_wp2_with (first
    | (go_at_call 39; ((with_reducible refine hkd.mono ?_); rintro e w1 ⟨rfl, rfl⟩))
    | fail)
  exact bodyPost_ret (v := .tuple #[.int .i64 0, .int .i64 0, .int .i64 0, .bool false]) (by simp [results, Tryd.results41, go_sem]) rfl ⟨rfl, R0.out⟩
set_option maxRecDepth 100000 in
theorem code_at (h : Nat) (A : Hp) (sv : Value) (gs : List Gx) (i : Nat) (o : Ob) (w : World) (H : HeapG h A sv gs w) (ho : A.objs[i]? = some o) (hlen : A.objs.length ≤ 10000) (hk : o.kind = 3) :
    Calls Tryd.prog 41 #[.pointer (some ⟨h, 0, none⟩), .int .i64 (i : Int)] w fun e w' => e = .returned (.tuple #[.int .i64 o.a, .int .i64 o.b, .int .i64 o.s, .bool true]) ∧ Fr [] w w' := by
  have hkd := kind_at h A sv gs i o w H ho hlen
  rw [hk] at hkd
  have hi0 := lt_of_getElem ho
  obtain ⟨g, hg⟩ : ∃ g, gs[i]? = some g := ⟨gs[i]'(by rw [← H.len]; exact hi0), List.getElem?_eq_getElem _⟩
  obtain ⟨gb, cap, hsv, hcell, hgbm, hi⟩ := H.obj hg
  have hob := H.obs i o g ho hg
  have b5 : w.cell? ⟨g.blk, 5, none⟩ = some (.int .i64 o.a) := blk_cell hob.blk 5 _ rfl
  have b6 : w.cell? ⟨g.blk, 6, none⟩ = some (.int .i64 o.b) := blk_cell hob.blk 6 _ rfl
  have b7 : w.cell? ⟨g.blk, 7, none⟩ = some (.int .i64 o.s) := blk_cell hob.blk 7 _ rfl
  subst hsv
  have hc0 := H.hp.c0
  have hl := H.len
  have hin : gs.length ≤ 10000 := by omega
  clear hlen H ho hg hi0 hob hk hgbm
  generalize g.blk = b at *
  generalize o.a = oa at *
  generalize o.b = ob at *
  generalize o.s = os at *
  generalize gs.length = G at *
  go_enter Tryd.func41, Tryd.ntmps41
  go_wp2_with (first
    | (go_at_call 39; ((with_reducible refine hkd.mono ?_); rintro e w1 ⟨rfl, rfl⟩))
    | fail)
  go_region
  go_wp2
  exact bodyPost_ret (v := .tuple #[.int .i64 oa, .int .i64 ob, .int .i64 os, .bool true]) (by simp [results, Tryd.results41, go_sem]) rfl ⟨rfl, (Fr.alloc _ _).drew⟩
/-! The same at a heap with blocks beside it. -/
theorem code_none_h {N h : Nat} {A : Hp} {L : List Nat} {w0 w : World} (H : Hv N h A L w0 w) (i : Int) (hk : A.kind i ≠ 3) :
    Calls Tryd.prog 41 #[.pointer (some ⟨h, 0, none⟩), .int .i64 i] w fun e w' => e = .returned (.tuple #[.int .i64 0, .int .i64 0, .int .i64 0, .bool false]) ∧ Nx N h A L w0 w w' := by
  have H' := H
  obtain ⟨sv, gs, hG, hF, h1, h2, h3, h4⟩ := H
  refine (code_none h A sv gs i w hG hF.objs hk).mono ?_
  rintro e w' ⟨rfl, hf⟩
  exact ⟨rfl, H'.fr hf⟩
theorem code_h {N h : Nat} {A : Hp} {L : List Nat} {w0 w : World} (H : Hv N h A L w0 w) (i : Nat) (o : Ob) (ho : A.objs[i]? = some o) (hk : o.kind = 3) :
    Calls Tryd.prog 41 #[.pointer (some ⟨h, 0, none⟩), .int .i64 (i : Int)] w fun e w' => e = .returned (.tuple #[.int .i64 o.a, .int .i64 o.b, .int .i64 o.s, .bool true]) ∧ Nx N h A L w0 w w' := by
  have H' := H
  obtain ⟨sv, gs, hG, hF, h1, h2, h3, h4⟩ := H
  refine (code_at h A sv gs i o w hG ho hF.objs hk).mono ?_
  rintro e w' ⟨rfl, hf⟩
  exact ⟨rfl, H'.fr hf⟩
end Go.Proofs.YtmhoebbdapjpeaaDoor
namespace Go.Proofs.YtmhoebbdapjpeaaDoor
open Go.RowKit Go.Maps
set_option linter.all false

set_option maxRecDepth 100000 in
theorem set_lost (h : Nat) (A : Hp) (sv : Value) (gs : List Gx) (i : Int) (S : ByteArray) (vk : Int) (vn : Nat) (T : ByteArray) (vr : Int) (w : World)
    (H : HeapG h A sv gs w) (hlen : A.objs.length ≤ 10000) (hi : ¬ (0 ≤ i ∧ i < (A.objs.length : Int))) :
    Calls Tryd.prog 38 #[.pointer (some ⟨h, 0, none⟩), .int .i64 i, .string S, .agg #[.int .i64 vk, .float .f64 vn, .string T, .int .i64 vr]] w fun e w' => e = .returned (.tuple #[.bool false, .int .i64 3]) ∧ Fr [] w w' := by
  have hhas := has_obj H hlen i
  have e : (decide (0 ≤ i) && decide (i < (A.objs.length : Int))) = false := by
    rw [Bool.and_eq_false_iff, decide_eq_false_iff_not, decide_eq_false_iff_not]; omega
  rw [e] at hhas
  have HHAS := Lib.hid hhas
  have hst := store_float
  clear e hi hlen H hhas
  have r0 : Fr [] w (w.alloc (.cells #[.int .i64 vk, .float .f64 vn, .string T, .int .i64 vr] 31)) := Fr.alloc _ _
  have R0 := Lib.hid r0
  clear r0
  go_enter Tryd.func38, Tryd.ntmps38
  go_wp2_with (first
    | (go_at_call 44; ((with_reducible refine (HHAS.out _ R0.out).mono ?_); rintro e w1 ⟨rfl, rfl⟩))
    | fail)
  go_ret2
  exact ⟨rfl, R0.out⟩
set_option maxRecDepth 100000 in
set_option maxHeartbeats 1000000 in
/-- Whatever Put does where it is found. -/
theorem set_put (h : Nat) (A : Hp) (sv : Value) (gs : List Gx) (i : Int) (k : List UInt8) (hk : k.length ≤ 140737488355328) (vk : Int) (vn : Nat) (T : ByteArray) (vr : Int) (w : World)
    (H : HeapG h A sv gs w) (F : A.Few) (hi : 0 ≤ i ∧ i < (A.objs.length : Int)) (a : Nat) (u : V) (hf : A.find k i = some (a, u)) (r : Int) (A' : Hp)
    (hput : ∀ W, Fr [] w W → Calls Tryd.prog 18 #[.pointer (some ⟨h, 0, none⟩), .int .i64 (a : Int), .string (bs k), .agg #[.int .i64 vk, .float .f64 vn, .string T, .int .i64 vr]] W fun e w' => e = .returned (.int .i64 r) ∧ Step h A' (allBlocks h sv gs) W w') :
    Calls Tryd.prog 38 #[.pointer (some ⟨h, 0, none⟩), .int .i64 i, .string (bs k), .agg #[.int .i64 vk, .float .f64 vn, .string T, .int .i64 vr]] w fun e w' => e = .returned (.tuple #[.bool true, .int .i64 r]) ∧ Step h A' (allBlocks h sv gs) w w' := by
  have hhas := has_obj H F.objs i
  have e : (decide (0 ≤ i) && decide (i < (A.objs.length : Int))) = true := by simp; omega
  rw [e] at hhas
  have hfind : ∀ W, Fr [] w W → Calls Tryd.prog 55 #[.pointer (some ⟨h, 0, none⟩), .int .i64 i, .string (bs k)] W fun e w' => e = .returned (.tuple #[.int .i64 (a : Int), .agg #[.int .i64 u.k, .float .f64 u.n, .string (bs u.t), .int .i64 u.r]]) ∧ Fr [] W w' := by
    intro W hW
    have := hFind_any h A sv gs i k hk W (H.fr hW) F
    rw [hf] at this
    exact this
  have HPUT := Lib.hid (show ∀ W, Fr [] w W → Calls Tryd.prog 18 #[.pointer (some ⟨h, 0, none⟩), .int .i64 (a : Int), .string (bs k), .agg #[.int .i64 vk, .float .f64 vn, .string T, .int .i64 vr]] W fun e w' => e = .returned (.int .i64 r) ∧ Step h A' (allBlocks h sv gs) w w' from fun W hW => (hput W hW).mono (fun e w' ⟨h1, h2⟩ => ⟨h1, Step.pre hW h2⟩))
  have HHAS := Lib.hid hhas
  have HF := Lib.hid hfind
  have hst := store_float
  have ha : ((a : Int) == -1) = false := by rw [beq_eq_false_iff_ne]; omega
  clear e hi F H hhas hfind hf hput hk
  generalize allBlocks h sv gs = O at *
  generalize bs k = S at *
  generalize u.k = uk at *
  generalize u.n = un at *
  generalize bs u.t = uT at *
  generalize u.r = ur at *
  have r0 : Fr [] w (w.alloc (.cells #[.int .i64 vk, .float .f64 vn, .string T, .int .i64 vr] 31)) := Fr.alloc _ _
  have x0 := Bx.new vk vn T vr w
  have X0 := Lib.hid x0
  have R0 := Lib.hid r0
  clear r0 x0
  go_enter Tryd.func38, Tryd.ntmps38
  go_wp2_with (first
    | (go_at_call 44; ((with_reducible refine (HHAS.out _ R0.out).mono ?_); rintro e w1 ⟨rfl, rfl⟩))
    | (go_at_call 55; ((with_reducible refine (HF.out _ R0.out).mono ?_); rintro e w1 ⟨rfl, hf1⟩; have X1 := Lib.hid ((X0.out.below hf1.below0).below (Fr.alloc w1 (.cells #[.int .i64 uk, .float .f64 un, .string uT, .int .i64 ur] 31 (0, 0))).below0); have R1 := Lib.hid ((R0.out.trans hf1 (fun _ h => by cases h)).trans (Fr.alloc w1 (.cells #[.int .i64 uk, .float .f64 un, .string uT, .int .i64 ur] 31 (0, 0))) (fun _ h => by cases h)); clear hf1; obtain ⟨y0, y1, y2, y3⟩ := X1.out.cells))
    | (go_at_call 18; ((with_reducible refine (HPUT.out _ R1.out).mono ?_); rintro e w3 ⟨rfl, hS⟩; have HS := Lib.hid hS; clear hS))
    | fail)
  go_ret2
  exact ⟨rfl, HS.out⟩
set_option maxRecDepth 100000 in
set_option maxHeartbeats 1000000 in
theorem set_none (h : Nat) (A : Hp) (sv : Value) (gs : List Gx) (i : Int) (k : List UInt8) (hk : k.length ≤ 140737488355328) (vk : Int) (vn : Nat) (T : ByteArray) (vr : Int) (w : World)
    (H : HeapG h A sv gs w) (F : A.Few) (hi : 0 ≤ i ∧ i < (A.objs.length : Int)) (hf : A.find k i = none) :
    Calls Tryd.prog 38 #[.pointer (some ⟨h, 0, none⟩), .int .i64 i, .string (bs k), .agg #[.int .i64 vk, .float .f64 vn, .string T, .int .i64 vr]] w fun e w' => e = .returned (.tuple #[.bool false, .int .i64 0]) ∧ Fr [] w w' := by
  have hhas := has_obj H F.objs i
  have e : (decide (0 ≤ i) && decide (i < (A.objs.length : Int))) = true := by simp; omega
  rw [e] at hhas
  obtain ⟨z, hz⟩ : ∃ z : Int, z = -1 := ⟨_, rfl⟩
  have hfind : ∀ W, Fr [] w W → Calls Tryd.prog 55 #[.pointer (some ⟨h, 0, none⟩), .int .i64 i, .string (bs k)] W fun e w' => e = .returned (.tuple #[.int .i64 z, .agg #[.int .i64 0, .float .f64 0, .string ⟨#[]⟩, .int .i64 0]]) ∧ Fr [] W w' := by
    intro W hW
    have := hFind_any h A sv gs i k hk W (H.fr hW) F
    rw [hf] at this
    rw [hz]
    exact this
  have HHAS := Lib.hid hhas
  have HF := Lib.hid hfind
  have hst := store_float
  have hz1 : (z == -1) = true := by rw [hz]; rfl
  clear e hi F H hhas hfind hf hk hz
  generalize bs k = S at *
  have r0 : Fr [] w (w.alloc (.cells #[.int .i64 vk, .float .f64 vn, .string T, .int .i64 vr] 31)) := Fr.alloc _ _
  have R0 := Lib.hid r0
  clear r0
  go_enter Tryd.func38, Tryd.ntmps38
  go_wp2_with (first
    | (go_at_call 44; ((with_reducible refine (HHAS.out _ R0.out).mono ?_); rintro e w1 ⟨rfl, rfl⟩))
    | (go_at_call 55; ((with_reducible refine (HF.out _ R0.out).mono ?_); rintro e w1 ⟨rfl, hf1⟩; have R1 := Lib.hid ((R0.out.trans hf1 (fun _ h => by cases h)).trans (Fr.alloc w1 (.cells #[.int .i64 0, .float .f64 0, .string ⟨#[]⟩, .int .i64 0] 31 (0, 0))) (fun _ h => by cases h)); clear hf1))
    | fail)
  go_ret2
  exact ⟨rfl, R1.out⟩
end Go.Proofs.YtmhoebbdapjpeaaDoor
namespace Go.Proofs.YtmhoebbdapjpeaaDoor
open Go.RowKit Go.Maps
set_option linter.all false

set_option maxRecDepth 100000 in
set_option maxHeartbeats 1000000 in
theorem putItem_full (h : Nat) (sv : Value) (left : Nat) (o : Ob) (g : Gx) (j : Nat) (hj : o.items.length ≤ j) (hn : j ≤ 2147483647) (hl : left ≤ j - o.items.length) (vk : Int) (vn : Nat) (T : ByteArray) (vr : Int) (w : World)
    (hh : HpC h sv (left : Int) w) (H : ObAt o g w) (hlt : ∀ x ∈ g.blocks, x < w.heap.size) (hhl : h < w.heap.size) :
    Calls Tryd.prog 50 #[.pointer (some ⟨h, 0, none⟩), .pointer (some ⟨g.blk, 0, none⟩), .int .i64 (j : Int), .agg #[.int .i64 vk, .float .f64 vn, .string T, .int .i64 vr]] w fun e w' => e = .returned (.int .i64 112) ∧ Fr [] w w' := by
  obtain ⟨p, c, hit⟩ := row_slice H.items
  have hkeep : ∀ W, Fr [] w W → ObAt o g W := fun W hW => H.keep (fun b hb => hW.block b (hlt b hb) List.not_mem_nil)
  have r0 : Fr [] w (w.alloc (.cells #[.int .i64 vk, .float .f64 vn, .string T, .int .i64 vr] 31)) := Fr.alloc _ _
  have t0 : (w.alloc (.cells #[.int .i64 vk, .float .f64 vn, .string T, .int .i64 vr] 31)).cell? ⟨g.blk, 4, none⟩ = some (.slice p o.items.length c) := by rw [← hit]; exact blk_cell (hkeep _ r0).blk 4 _ rfl
  have t1 : (w.alloc (.cells #[.int .i64 vk, .float .f64 vn, .string T, .int .i64 vr] 31)).cell? ⟨h, 1, none⟩ = some (.int .i64 (left : Int)) := HpC.c1 ((r0.block h hhl List.not_mem_nil).trans hh)
  have hst := store_float
  have R0 := Lib.hid r0
  generalize hb : g.blk = b at *
  generalize o.items.length = M at *
  have d1 : (M : Int) ≤ (j : Int) := by omega
  have d2 : (left : Int) ≤ (j : Int) - (M : Int) := by omega
  have e1 : IntKind.i64.wrap ((j : Int) - (M : Int)) = (j : Int) - (M : Int) := IntWalk.i64_in _ (by omega)
  clear hkeep H hlt hhl hh hit hb r0
  go_enter Tryd.func50, Tryd.ntmps50
  go_wp2
  go_ret
  exact ⟨rfl, R0.out⟩
end Go.Proofs.YtmhoebbdapjpeaaDoor
