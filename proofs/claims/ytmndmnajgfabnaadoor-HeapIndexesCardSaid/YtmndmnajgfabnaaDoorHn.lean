/- Layer 8: Own, of an array. Conditions: those that each theorem names. -/
import Derived.Test.YtmndmnajgfabnaaDoorHm
namespace Go.Proofs.YtmndmnajgfabnaaDoor
open Go.RowKit Go.Maps
set_option linter.all false

theorem nearest_int (n : Nat) (h : n ≤ 10000) (w : World) : (convert 3 29 (.int .i64 (n : Int))).run Tryd.prog w = .ok (.float .f64 (FloatKind.f64.nearest (n : Int))) w := by
  kernel_rfl
set_option maxRecDepth 100000 in
set_option maxHeartbeats 1000000 in
theorem own_len (h : Nat) (A : Hp) (sv : Value) (gs : List Gx) (i : Nat) (o : Ob) (g : Gx) (k : List UInt8) (hk : k.length ≤ 140737488355328) (w : World)
    (H : HeapG h A sv gs w) (ho : A.objs[i]? = some o) (hg : gs[i]? = some g) (hlen : A.objs.length ≤ 10000) (hkl : o.kind = 2 ∧ k = lenB) (hni : o.items.length ≤ 10000) :
    Calls Tryd.prog 23 #[.pointer (some ⟨h, 0, none⟩), .int .i64 (i : Int), .string (bs k)] w fun e w' => e = .returned (ansV (o.own k)) ∧ Fr [] w w' := by
  obtain ⟨gb, cap, hsv, hcell, hgbm, hi⟩ := H.obj hg
  have hlen' := H.len
  have hmx : k.length ≤ maxLen := Nat.le_trans hk (by decide)
  have hown : o.own k = some (lenV o.items.length) := by unfold Ob.own; rw [if_pos hkl]
  rw [hown]
  subst hsv
  have hhas : ∀ W, Fr [] w W → Calls Tryd.prog 44 #[.pointer (some ⟨h, 0, none⟩), .int .i64 (i : Int)] W fun e w' => e = .returned (.bool true) ∧ W = w' := by
    intro W hW
    refine (has_any h _ gs.length cap A.left (i : Int) W (H.fr hW).hp).mono ?_
    rintro e w' ⟨rfl, rfl⟩
    exact ⟨ret_bool (by simp; omega), rfl⟩
  have hblk : ∀ W, Fr [] w W → W.cell? ⟨g.blk, 0, none⟩ = some (.int .i64 o.kind) := fun W hW => blk_cell ((H.fr hW).obs i o g ho hg).blk 0 _ rfl
  have hisl : ∀ W, Fr [] w W → Calls Tryd.prog 47 #[.pointer (some ⟨g.blk, 0, none⟩), .string (bs k)] W fun e w' => e = .returned (.bool true) ∧ W = w' := by
    intro W hW
    refine (isLength_any g.blk o.kind k W (hblk W hW)).mono ?_
    rintro e w' ⟨rfl, rfl⟩
    exact ⟨ret_bool (by rw [decide_eq_true hkl.1, decide_eq_true hkl.2]; rfl), rfl⟩
  obtain ⟨ip, icap, hit⟩ := row_slice (H.obs i o g ho hg).items
  have hc4 : ∀ W, Fr [] w W → W.cell? ⟨g.blk, 4, none⟩ = some (.slice ip o.items.length icap) := fun W hW => by rw [← hit]; exact blk_cell ((H.fr hW).obs i o g ho hg).blk 4 _ rfl
  have hcv := nearest_int o.items.length hni
  have hR : ansV (some (lenV o.items.length)) = .tuple #[.agg #[.int .i64 3, .float .f64 (FloatKind.f64.nearest (o.items.length : Int)), .string ⟨#[]⟩, .int .i64 0], .bool true] := rfl
  rw [hR]
  have hc0 : ∀ W, Fr [] w W → W.cell? ⟨h, 0, none⟩ = some (.slice (some ⟨gb, 0, none⟩) gs.length cap) := fun W hW => (H.fr hW).hp.c0
  have hcr : ∀ W, Fr [] w W → W.cell? ⟨gb, i, none⟩ = some (.pointer (some ⟨g.blk, 0, none⟩)) := fun W hW => (hW.cell (H.lt gb hgbm) List.not_mem_nil i).trans hcell
  have hin : gs.length ≤ 10000 := by omega
  have HHAS := Lib.hid hhas
  have HISL := Lib.hid hisl
  have HC4 := Lib.hid hc4
  have HC0 := Lib.hid hc0
  have HCR := Lib.hid hcr
  have hst := store_float
  have hfree : ∀ W, Fr [] w W → True := fun _ _ => trivial
  obtain ⟨G, hG⟩ : ∃ G, G = gs.length := ⟨_, rfl⟩
  rw [← hG] at hin hi HC0
  generalize g.blk = b at *
  generalize o.items.length = LN at *
  have hN := H.lt_h
  have hgbN := H.lt gb hgbm
  clear hG hhas hisl hc4 hc0 hcr hblk hR hown hkl hlen ho hg H hcell hgbm hlen' hmx hk hfree hit
  generalize bs k = S at *
  have r0 : Fr [] w (w.alloc (.cells #[.int .i64 0, .float .f64 0, .string ⟨#[]⟩, .int .i64 0] 31 (0, 0))) := Fr.alloc _ _
  have R0 := Lib.hid r0
  have x0 := Bx.new 0 0 ⟨#[]⟩ 0 w
  have X0 := Lib.hid x0
  have k0 := HC0.out _ R0.out
  have k1 := HCR.out _ R0.out
  have k4 := HC4.out _ R0.out
  clear r0 x0
  go_enter Tryd.func23, Tryd.ntmps23
  go_wp2_with (first
    | (go_at_call 44; ((with_reducible refine (HHAS.out _ R0.out).mono ?_); rintro e w1 ⟨rfl, rfl⟩))
    | (go_at_call 47; ((with_reducible refine (HISL.out _ R0.out).mono ?_); rintro e w2 ⟨rfl, rfl⟩))
    | fail)
  exact bodyPost_ret (v := .tuple #[.agg #[.int .i64 3, .float .f64 (FloatKind.f64.nearest (LN : Int)), .string ⟨#[]⟩, .int .i64 0], .bool true]) (by simp [results, Tryd.results23, go_sem]) rfl ⟨rfl, Fr.alloc _ _⟩
theorem item_at : ∀ (l : List V) (ix : Nat) (v : V), l[ix]? = some v → (itemCells l)[4 * ix]? = some (.int .i64 v.k) ∧ (itemCells l)[4 * ix + 1]? = some (.float .f64 v.n) ∧ (itemCells l)[4 * ix + 2]? = some (.string (bs v.t)) ∧ (itemCells l)[4 * ix + 3]? = some (.int .i64 v.r)
  | [], ix, v, h => by cases h
  | u :: l, 0, v, h => by
    simp only [List.getElem?_cons_zero, Option.some.injEq] at h
    subst h
    exact ⟨rfl, rfl, rfl, rfl⟩
  | u :: l, ix + 1, v, h => by
    rw [List.getElem?_cons_succ] at h
    have := item_at l ix v h
    have e : itemCells (u :: l) = u.cells ++ itemCells l := rfl
    have e4 : ∀ j, (itemCells (u :: l))[4 * (ix + 1) + j]? = (itemCells l)[4 * ix + j]? := by
      intro j
      rw [e, List.getElem?_append_right (by show 4 ≤ _; omega)]
      congr 1
      show 4 * (ix + 1) + j - 4 = _
      omega
    refine ⟨(e4 0).trans this.1, (e4 1).trans this.2.1, (e4 2).trans this.2.2.1, (e4 3).trans this.2.2.2⟩
theorem row_cell {w : World} {base : Nat} {e : TypeId} {size : Nat} {v : Value} {n : Nat} {xs : List Value} (h : w.ownsRow base e size v n xs) {g : Nat} (hg : v.ownBlock = some g) {j : Nat} {u : Value} (hj : xs[j]? = some u) : w.cell? ⟨g, j, none⟩ = some u := by
  have := h.cells hg j u hj
  simp only [Addr.add] at this
  by_cases h0 : j = 0
  · subst h0; simpa using this
  · rw [if_neg h0] at this; simpa using this
theorem item_cells {h : Nat} {A : Hp} {sv : Value} {gs : List Gx} {w : World} (H : HeapG h A sv gs w) {i : Nat} {o : Ob} {g : Gx} (ho : A.objs[i]? = some o) (hg : gs[i]? = some g) {ip : Option Addr} {icap : Nat} (hit : g.it = .slice ip o.items.length icap) {ix : Nat} (v : V) (hv : o.items[ix]? = some v) :
    ∃ ib, ip = some ⟨ib, 0, none⟩ ∧ ix < o.items.length ∧ ∀ W, Fr [] w W → W.cell? ⟨ib, ix * 4, none⟩ = some (.int .i64 v.k) ∧ W.cell? ⟨ib, ix * 4 + 1, none⟩ = some (.float .f64 v.n) ∧ W.cell? ⟨ib, ix * 4 + 2, none⟩ = some (.string (bs v.t)) ∧ W.cell? ⟨ib, ix * 4 + 3, none⟩ = some (.int .i64 v.r) := by
  have hi : ix < o.items.length := by
    rcases Nat.lt_or_ge ix o.items.length with h' | h'
    · exact h'
    · rw [List.getElem?_eq_none h'] at hv; cases hv
  obtain ⟨_, h2 | ⟨ib, cap, cur, hv2, _⟩⟩ := (H.obs i o g ho hg).items
  · omega
  · rw [hit] at hv2
    cases hv2
    refine ⟨ib, rfl, hi, fun W hW => ?_⟩
    have hr := ((H.fr hW).obs i o g ho hg).items
    obtain ⟨a0, a1, a2, a3⟩ := item_at _ _ _ hv
    have hob : g.it.ownBlock = some ib := by rw [hit]; rfl
    rw [Nat.mul_comm] at a0 a1 a2 a3
    exact ⟨row_cell hr hob a0, row_cell hr hob a1, row_cell hr hob a2, row_cell hr hob a3⟩
set_option maxRecDepth 100000 in
set_option maxHeartbeats 1000000 in
theorem own_item (h : Nat) (A : Hp) (sv : Value) (gs : List Gx) (i : Nat) (o : Ob) (g : Gx) (k : List UInt8) (hk : k.length ≤ 140737488355328) (w : World)
    (H : HeapG h A sv gs w) (ho : A.objs[i]? = some o) (hg : gs[i]? = some g) (hlen : A.objs.length ≤ 10000) (hkl : ¬ (o.kind = 2 ∧ k = lenB)) (ix : Nat) (hki : oIdx o.kind k = some ix) (hni : o.items.length ≤ 10000) :
    Calls Tryd.prog 23 #[.pointer (some ⟨h, 0, none⟩), .int .i64 (i : Int), .string (bs k)] w fun e w' => e = .returned (ansV (o.own k)) ∧ Fr [] w w' := by
  obtain ⟨gb, cap, hsv, hcell, hgbm, hi⟩ := H.obj hg
  have hlen' := H.len
  have hmx : k.length ≤ maxLen := Nat.le_trans hk (by decide)
  have hown : o.own k = o.items[ix]? := by unfold Ob.own; rw [if_neg hkl, hki]
  have hixm : ix ≤ 2147483647 := by
    unfold oIdx at hki
    split at hki
    · exact idx_lt hki
    · cases hki
  subst hsv
  have hhas : ∀ W, Fr [] w W → Calls Tryd.prog 44 #[.pointer (some ⟨h, 0, none⟩), .int .i64 (i : Int)] W fun e w' => e = .returned (.bool true) ∧ W = w' := by
    intro W hW
    refine (has_any h _ gs.length cap A.left (i : Int) W (H.fr hW).hp).mono ?_
    rintro e w' ⟨rfl, rfl⟩
    exact ⟨ret_bool (by simp; omega), rfl⟩
  have hblk : ∀ W, Fr [] w W → W.cell? ⟨g.blk, 0, none⟩ = some (.int .i64 o.kind) := fun W hW => blk_cell ((H.fr hW).obs i o g ho hg).blk 0 _ rfl
  have hisl : ∀ W, Fr [] w W → Calls Tryd.prog 47 #[.pointer (some ⟨g.blk, 0, none⟩), .string (bs k)] W fun e w' => e = .returned (.bool false) ∧ W = w' := by
    intro W hW
    refine (isLength_any g.blk o.kind k W (hblk W hW)).mono ?_
    rintro e w' ⟨rfl, rfl⟩
    refine ⟨ret_bool ?_, rfl⟩
    rw [Bool.and_eq_false_iff, decide_eq_false_iff_not, decide_eq_false_iff_not]
    by_cases h2 : o.kind = 2
    · exact Or.inr (fun e => hkl ⟨h2, e⟩)
    · exact Or.inl h2
  have hidx : ∀ W, Fr [] w W → Calls Tryd.prog 49 #[.pointer (some ⟨g.blk, 0, none⟩), .string (bs k)] W fun e w' => e = .returned (.tuple #[.int .i64 (ix : Int), .bool true]) ∧ ∃ d, w' = W.drewN d := by
    intro W hW
    refine (oIndex_any g.blk o.kind k hk W (hblk W hW)).mono ?_
    rintro e w' ⟨rfl, hd⟩
    exact ⟨by rw [hki]; rfl, hd⟩
  obtain ⟨ip, icap, hit⟩ := row_slice (H.obs i o g ho hg).items
  have hc4 : ∀ W, Fr [] w W → W.cell? ⟨g.blk, 4, none⟩ = some (.slice ip o.items.length icap) := fun W hW => by rw [← hit]; exact blk_cell ((H.fr hW).obs i o g ho hg).blk 4 _ rfl
  have hcell4 : ∀ v, o.items[ix]? = some v → ∃ ib, ip = some ⟨ib, 0, none⟩ ∧ ix < o.items.length ∧ ∀ W, Fr [] w W → W.cell? ⟨ib, ix * 4, none⟩ = some (.int .i64 v.k) ∧ W.cell? ⟨ib, ix * 4 + 1, none⟩ = some (.float .f64 v.n) ∧ W.cell? ⟨ib, ix * 4 + 2, none⟩ = some (.string (bs v.t)) ∧ W.cell? ⟨ib, ix * 4 + 3, none⟩ = some (.int .i64 v.r) :=
    item_cells H ho hg hit
  have hc0 : ∀ W, Fr [] w W → W.cell? ⟨h, 0, none⟩ = some (.slice (some ⟨gb, 0, none⟩) gs.length cap) := fun W hW => (H.fr hW).hp.c0
  have hcr : ∀ W, Fr [] w W → W.cell? ⟨gb, i, none⟩ = some (.pointer (some ⟨g.blk, 0, none⟩)) := fun W hW => (hW.cell (H.lt gb hgbm) List.not_mem_nil i).trans hcell
  have hin : gs.length ≤ 10000 := by omega
  have HHAS := Lib.hid hhas
  have HISL := Lib.hid hisl
  have HIDX := Lib.hid hidx
  have HC4 := Lib.hid hc4
  have HC0 := Lib.hid hc0
  have HCR := Lib.hid hcr
  have hst := store_float
  have hfree : ∀ W, Fr [] w W → True := fun _ _ => trivial
  obtain ⟨G, hG⟩ : ∃ G, G = gs.length := ⟨_, rfl⟩
  rw [← hG] at hin hi HC0
  generalize g.blk = b at *
  have hN := H.lt_h
  have hgbN := H.lt gb hgbm
  have hown2 := hown
  clear hG hhas hisl hidx hc4 hc0 hcr hblk hown hki hkl hlen ho hg H hcell hgbm hlen' hmx hk hfree hit
  have HC4S := Lib.hid hcell4
  clear hcell4
  rw [hown2]
  cases hv : o.items[ix]? with
  | none =>
    have hge : o.items.length ≤ ix := by rw [List.getElem?_eq_none_iff] at hv; exact hv
    rw [show ansV none = .tuple #[.agg #[.int .i64 0, .float .f64 0, .string ⟨#[]⟩, .int .i64 0], .bool false] from rfl]
    clear HC4S hv hown2
    generalize o.items.length = LN at *
    generalize bs k = S at *
    have r0 : Fr [] w (w.alloc (.cells #[.int .i64 0, .float .f64 0, .string ⟨#[]⟩, .int .i64 0] 31 (0, 0))) := Fr.alloc _ _
    have R0 := Lib.hid r0
    have x0 := Bx.new 0 0 ⟨#[]⟩ 0 w
    have X0 := Lib.hid x0
    have k0 := HC0.out _ R0.out
    have k1 := HCR.out _ R0.out
    clear r0 x0
    go_enter Tryd.func23, Tryd.ntmps23
    go_wp2_with (first
      | (go_at_call 44; ((with_reducible refine (HHAS.out _ R0.out).mono ?_); rintro e w1 ⟨rfl, rfl⟩))
      | (go_at_call 47; ((with_reducible refine (HISL.out _ R0.out).mono ?_); rintro e w2 ⟨rfl, rfl⟩))
      | (go_at_call 49; ((with_reducible refine (HIDX.out _ R0.out).mono ?_); rintro e w2 ⟨rfl, d, rfl⟩; have R2 := Lib.hid (R0.out.trans (Fr.drewN _ d) (fun _ h => by cases h)); have k4 := HC4.out _ R2.out; have X2 := Lib.hid (show Bx w.heap.size 0 0 ⟨#[]⟩ 0 ((w.alloc (.cells #[.int .i64 0, .float .f64 0, .string ⟨#[]⟩, .int .i64 0] 31 (0, 0))).drewN d) from X0.out)))
      | fail)
    obtain ⟨y0, y1, y2, y3⟩ := X2.out.cells
    exact bodyPost_ret (v := .tuple #[.agg #[.int .i64 0, .float .f64 0, .string ⟨#[]⟩, .int .i64 0], .bool false]) (by simp [results, Tryd.results23, go_sem, y0, y1, y2, y3]) rfl ⟨rfl, fr_box R2.out _ _ _ _⟩
  | some v =>
    obtain ⟨ib, rfl, hlt, h4⟩ := HC4S.out v hv
    have H4 := Lib.hid h4
    have hvv : ansV (some v) = .tuple #[.agg #[.int .i64 v.k, .float .f64 v.n, .string (bs v.t), .int .i64 v.r], .bool true] := rfl
    rw [hvv]
    clear HC4S hv hown2 h4 hvv
    generalize o.items.length = LN at *
    generalize v.k = vk at *
    generalize v.n = vn at *
    generalize bs v.t = vT at *
    generalize v.r = vr at *
    generalize bs k = S at *
    have r0 : Fr [] w (w.alloc (.cells #[.int .i64 0, .float .f64 0, .string ⟨#[]⟩, .int .i64 0] 31 (0, 0))) := Fr.alloc _ _
    have R0 := Lib.hid r0
    have x0 := Bx.new 0 0 ⟨#[]⟩ 0 w
    have X0 := Lib.hid x0
    have k0 := HC0.out _ R0.out
    have k1 := HCR.out _ R0.out
    clear r0 x0
    go_enter Tryd.func23, Tryd.ntmps23
    go_wp2_with (first
      | (go_at_call 44; ((with_reducible refine (HHAS.out _ R0.out).mono ?_); rintro e w1 ⟨rfl, rfl⟩))
      | (go_at_call 47; ((with_reducible refine (HISL.out _ R0.out).mono ?_); rintro e w2 ⟨rfl, rfl⟩))
      | (go_at_call 49; ((with_reducible refine (HIDX.out _ R0.out).mono ?_); rintro e w2 ⟨rfl, d, rfl⟩; have R2 := Lib.hid (R0.out.trans (Fr.drewN _ d) (fun _ h => by cases h)); have k4 := HC4.out _ R2.out; obtain ⟨i0, i1, i2, i3⟩ := H4.out _ R2.out; have X2 := Lib.hid (show Bx w.heap.size 0 0 ⟨#[]⟩ 0 ((w.alloc (.cells #[.int .i64 0, .float .f64 0, .string ⟨#[]⟩, .int .i64 0] 31 (0, 0))).drewN d) from X0.out)))
      | fail)
    obtain ⟨y0, y1, y2, y3⟩ := X2.out.cells
    exact bodyPost_ret (v := .tuple #[.agg #[.int .i64 vk, .float .f64 vn, .string vT, .int .i64 vr], .bool true]) (by simp [results, Tryd.results23, go_sem, y0, y1, y2, y3]) rfl ⟨rfl, fr_box R2.out _ _ _ _⟩
/-- Own, of any object. -/
theorem own_any (h : Nat) (A : Hp) (sv : Value) (gs : List Gx) (i : Nat) (o : Ob) (k : List UInt8) (hk : k.length ≤ 140737488355328) (w : World)
    (H : HeapG h A sv gs w) (ho : A.objs[i]? = some o) (hlen : A.objs.length ≤ 10000) (hni : o.items.length ≤ 10000) :
    Calls Tryd.prog 23 #[.pointer (some ⟨h, 0, none⟩), .int .i64 (i : Int), .string (bs k)] w fun e w' => e = .returned (ansV (o.own k)) ∧ Fr [] w w' := by
  have hi : i < gs.length := by
    rw [← H.len]
    rcases Nat.lt_or_ge i A.objs.length with h' | h'
    · exact h'
    · rw [List.getElem?_eq_none h'] at ho; cases ho
  have hg : gs[i]? = some gs[i] := List.getElem?_eq_getElem hi
  by_cases hkl : o.kind = 2 ∧ k = lenB
  · exact own_len h A sv gs i o _ k hk w H ho hg hlen hkl hni
  · cases hx : oIdx o.kind k with
    | none => exact own_props h A sv gs i o _ k hk w H ho hg hlen hkl hx
    | some ix => exact own_item h A sv gs i o _ k hk w H ho hg hlen hkl ix hx hni
theorem own_lost (h : Nat) (A : Hp) (sv : Value) (gs : List Gx) (i : Int) (S : ByteArray) (w : World) (H : HeapG h A sv gs w) (hi : i < 0 ∨ (A.objs.length : Int) ≤ i) :
    Calls Tryd.prog 23 #[.pointer (some ⟨h, 0, none⟩), .int .i64 i, .string S] w fun e w' => e = .returned (ansV none) ∧ Fr [] w w' := by
  obtain ⟨p, cap, hsv⟩ := row_slice H.row
  have hlen := H.len
  subst hsv
  have hhas : ∀ W, Fr [] w W → Calls Tryd.prog 44 #[.pointer (some ⟨h, 0, none⟩), .int .i64 i] W fun e w' => e = .returned (.bool false) ∧ W = w' := by
    intro W hW
    refine (has_any h p gs.length cap A.left i W (H.fr hW).hp).mono ?_
    rintro e w' ⟨rfl, rfl⟩
    refine ⟨ret_bool ?_, rfl⟩
    rw [Bool.and_eq_false_iff, decide_eq_false_iff_not, decide_eq_false_iff_not]
    omega
  have HHAS := Lib.hid hhas
  have hst := store_float
  have r0 : Fr [] w (w.alloc (.cells #[.int .i64 0, .float .f64 0, .string ⟨#[]⟩, .int .i64 0] 31 (0, 0))) := Fr.alloc _ _
  have R0 := Lib.hid r0
  clear r0 hhas H hi hlen
  go_enter Tryd.func23, Tryd.ntmps23
  go_wp2_with (first
    | (go_at_call 44; ((with_reducible refine (HHAS.out _ R0.out).mono ?_); rintro e w1 ⟨rfl, rfl⟩))
    | fail)
  exact bodyPost_ret (v := .tuple #[.agg #[.int .i64 0, .float .f64 0, .string ⟨#[]⟩, .int .i64 0], .bool false]) (by simp [results, Tryd.results23, go_sem]) rfl ⟨rfl, R0.out⟩
end Go.Proofs.YtmndmnajgfabnaaDoor
