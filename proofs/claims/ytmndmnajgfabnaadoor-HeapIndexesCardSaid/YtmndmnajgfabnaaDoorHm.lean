/- Layer 8: Own. Conditions: those that each theorem names. -/
import Derived.Test.YtmndmnajgfabnaaDoorHl
namespace Go.Proofs.YtmndmnajgfabnaaDoor
open Go.RowKit Go.Maps
set_option linter.all false

def lenV (n : Nat) : V := ⟨3, FloatKind.f64.nearest (n : Int), [], 0⟩
def lookP (l : List (List UInt8 × V)) (k : List UInt8) : Option V := (l.find? fun q => decide (q.1 = k)).map (·.2)
def Ob.own (o : Ob) (k : List UInt8) : Option V :=
  if o.kind = 2 ∧ k = lenB then some (lenV o.items.length) else
  match oIdx o.kind k with
  | some n => o.items[n]?
  | none => lookP o.props k
def ansV : Option V → Value
  | none => .tuple #[.agg #[.int .i64 0, .float .f64 0, .string ⟨#[]⟩, .int .i64 0], .bool false]
  | some v => .tuple #[.agg #[.int .i64 v.k, .float .f64 v.n, .string (bs v.t), .int .i64 v.r], .bool true]
theorem lookP_L (L : List Pr) (k : List UInt8) : lookP (L.map (·.2)) k = (L.find? (fun q => decide (q.2.1 = k))).map (·.2.2) := by
  unfold lookP
  rw [List.find?_map, Option.map_map]
  rfl
/-- properties.get, whatever is found. -/
theorem pGet_any (o : Ob) (g : Gx) (k : List UInt8) (hk : k.length ≤ maxLen) (w : World) (H : ObAt o g w) (hlt : ∀ x ∈ g.blocks, x < w.heap.size) :
    Calls Tryd.prog 54 #[.pointer (some ⟨g.blk, 2, none⟩), .string (bs k)] w fun e w' => e = .returned (ansV (lookP o.props k)) ∧ Below w.heap.size w w' := by
  have hb : ∀ b ∈ blocksR g.op g.L, b < w.heap.size := fun b hb => hlt b (Gx.r_mem g hb)
  have e : lookP o.props k = (g.L.find? (fun q => decide (q.2.1 = k))).map (·.2.2) := by rw [H.eq, lookP_L]
  rw [e]
  cases hf : g.L.find? (fun q => decide (q.2.1 = k)) with
  | none => exact pGet_none g.blk g.op g.L k hk w (blk_cell H.blk 2 _ rfl) H.props hb hf
  | some q =>
    obtain ⟨x, k', v⟩ := q
    exact pGet_some g.blk g.op g.L k hk w (blk_cell H.blk 2 _ rfl) H.props hb x k' v hf
theorem ansV_form (o : Option V) : ∃ (k : Int) (n : Nat) (T : ByteArray) (r : Int) (b : Bool), ansV o = .tuple #[.agg #[.int .i64 k, .float .f64 n, .string T, .int .i64 r], .bool b] := by
  cases o with
  | none => exact ⟨0, 0, ⟨#[]⟩, 0, false, rfl⟩
  | some v => exact ⟨_, _, _, _, true, rfl⟩
theorem fr_box {w w3 : World} (h : Fr [] w w3) (a b c d : Value) : Fr [] w ((((w3.setCell ⟨w.heap.size, 0, none⟩ a).setCell ⟨w.heap.size, 1, none⟩ b).setCell ⟨w.heap.size, 2, none⟩ c).setCell ⟨w.heap.size, 3, none⟩ d) := by
  have g : ∀ z ∈ [w.heap.size], z ∈ ([] : List Nat) ∨ w.heap.size ≤ z := fun z hz => Or.inr (by simp at hz; omega)
  exact (((h.trans (Fr.set _ _ 0 _) g).trans (Fr.set _ _ 1 _) g).trans (Fr.set _ _ 2 _) g).trans (Fr.set _ _ 3 _) g
set_option maxRecDepth 100000 in
set_option maxHeartbeats 1000000 in
theorem own_props (h : Nat) (A : Hp) (sv : Value) (gs : List Gx) (i : Nat) (o : Ob) (g : Gx) (k : List UInt8) (hk : k.length ≤ 140737488355328) (w : World)
    (H : HeapG h A sv gs w) (ho : A.objs[i]? = some o) (hg : gs[i]? = some g) (hlen : A.objs.length ≤ 10000) (hkl : ¬ (o.kind = 2 ∧ k = lenB)) (hki : oIdx o.kind k = none) :
    Calls Tryd.prog 23 #[.pointer (some ⟨h, 0, none⟩), .int .i64 (i : Int), .string (bs k)] w fun e w' => e = .returned (ansV (o.own k)) ∧ Fr [] w w' := by
  obtain ⟨gb, cap, hsv, hcell, hgbm, hi⟩ := H.obj hg
  have hlen' := H.len
  have hmx : k.length ≤ maxLen := Nat.le_trans hk (by decide)
  have hown : o.own k = lookP o.props k := by unfold Ob.own; rw [if_neg hkl, hki]
  rw [hown]
  subst hsv
  have hhas : ∀ W, Fr [] w W → Calls Tryd.prog 44 #[.pointer (some ⟨h, 0, none⟩), .int .i64 (i : Int)] W fun e w' => e = .returned (.bool true) ∧ W = w' := by
    intro W hW
    refine (has_any h _ gs.length cap A.left (i : Int) W (H.fr hW).hp).mono ?_
    rintro e w' ⟨rfl, rfl⟩
    exact ⟨ret_bool (by simp; omega), rfl⟩
  have hblk : ∀ W, Fr [] w W → W.cell? ⟨g.blk, 0, none⟩ = some (.int .i64 o.kind) := fun W hW => blk_cell ((H.fr hW).obs i o g ho hg).blk 0 _ rfl
  have hisl : ∀ W, Fr [] w W → Calls Tryd.prog 47 #[.pointer (some ⟨g.blk, 0, none⟩), .string (bs k)] W fun e w' => e = .returned (.bool false) ∧ W = w' := by
    intro W hW
    refine (isLength_any g.blk o.kind k W (hblk W hW)).mono ?_
    rintro e w' ⟨rfl, rfl⟩
    refine ⟨ret_bool ?_, rfl⟩
    rw [Bool.and_eq_false_iff, decide_eq_false_iff_not, decide_eq_false_iff_not]
    by_cases h2 : o.kind = 2
    · exact Or.inr (fun e => hkl ⟨h2, e⟩)
    · exact Or.inl h2
  have hidx : ∀ W, Fr [] w W → Calls Tryd.prog 49 #[.pointer (some ⟨g.blk, 0, none⟩), .string (bs k)] W fun e w' => e = .returned (.tuple #[.int .i64 0, .bool false]) ∧ ∃ d, w' = W.drewN d := by
    intro W hW
    refine (oIndex_any g.blk o.kind k hk W (hblk W hW)).mono ?_
    rintro e w' ⟨rfl, hd⟩
    exact ⟨by rw [hki]; rfl, hd⟩
  obtain ⟨rk, rn, rT, rr, rb, hR⟩ := ansV_form (lookP o.props k)
  have hget : ∀ W, Fr [] w W → Calls Tryd.prog 54 #[.pointer (some ⟨g.blk, 2, none⟩), .string (bs k)] W fun e w' => e = .returned (.tuple #[.agg #[.int .i64 rk, .float .f64 rn, .string rT, .int .i64 rr], .bool rb]) ∧ Fr [] w w' ∧ Below W.heap.size W w' := by
    intro W hW
    refine (pGet_any o g k hmx W ((H.fr hW).obs i o g ho hg) ((H.fr hW).lt_g hg)).mono ?_
    rintro e w' ⟨rfl, hb⟩
    exact ⟨by rw [hR], hW.trans (Fr.of_below hb) (fun _ h => by cases h), hb⟩
  rw [hR]
  have hc0 : ∀ W, Fr [] w W → W.cell? ⟨h, 0, none⟩ = some (.slice (some ⟨gb, 0, none⟩) gs.length cap) := fun W hW => (H.fr hW).hp.c0
  have hcr : ∀ W, Fr [] w W → W.cell? ⟨gb, i, none⟩ = some (.pointer (some ⟨g.blk, 0, none⟩)) := fun W hW => (hW.cell (H.lt gb hgbm) List.not_mem_nil i).trans hcell
  have hin : gs.length ≤ 10000 := by omega
  have HHAS := Lib.hid hhas
  have HISL := Lib.hid hisl
  have HIDX := Lib.hid hidx
  have HGET := Lib.hid hget
  have HC0 := Lib.hid hc0
  have HCR := Lib.hid hcr
  have hst := store_float
  have hfree : ∀ W, Fr [] w W → True := fun _ _ => trivial
  obtain ⟨G, hG⟩ : ∃ G, G = gs.length := ⟨_, rfl⟩
  rw [← hG] at hin hi HC0
  generalize g.blk = b at *
  have hN := H.lt_h
  have hgbN := H.lt gb hgbm
  clear hG hhas hisl hidx hget hc0 hcr hblk hR hown hki hkl hlen ho hg H hcell hgbm hlen' hmx hk hfree
  generalize bs k = S at *
  have r0 : Fr [] w (w.alloc (.cells #[.int .i64 0, .float .f64 0, .string ⟨#[]⟩, .int .i64 0] 31 (0, 0))) := Fr.alloc _ _
  have R0 := Lib.hid r0
  have x0 := Bx.new 0 0 ⟨#[]⟩ 0 w
  have X0 := Lib.hid x0
  have k0 := HC0.out _ R0.out
  have k1 := HCR.out _ R0.out
  clear r0 x0
  go_enter Tryd.func23, Tryd.ntmps23
  go_wp2_with (first
    | (go_at_call 44; ((with_reducible refine (HHAS.out _ R0.out).mono ?_); rintro e w1 ⟨rfl, rfl⟩))
    | (go_at_call 47; ((with_reducible refine (HISL.out _ R0.out).mono ?_); rintro e w2 ⟨rfl, rfl⟩))
    | (go_at_call 49; ((with_reducible refine (HIDX.out _ R0.out).mono ?_); rintro e w2 ⟨rfl, d, rfl⟩; have R2 := Lib.hid (R0.out.trans (Fr.drewN _ d) (fun _ h => by cases h)); have X2 := Lib.hid (show Bx w.heap.size 0 0 ⟨#[]⟩ 0 ((w.alloc (.cells #[.int .i64 0, .float .f64 0, .string ⟨#[]⟩, .int .i64 0] 31 (0, 0))).drewN d) from X0.out)))
    | (go_at_call 54; ((with_reducible refine (HGET.out _ R2.out).mono ?_); rintro e w3 ⟨rfl, h3, hb3⟩; have X3 := X2.out.below hb3; obtain ⟨y0, y1, y2, y3⟩ := X3.cells; have z0 := blk_free X3 0; have z1 := blk_free X3 1; have z2 := blk_free X3 2; have z3 := blk_free X3 3; have H3 := Lib.hid h3; clear h3 hb3))
    | fail)
  exact bodyPost_ret (v := .tuple #[.agg #[.int .i64 rk, .float .f64 rn, .string rT, .int .i64 rr], .bool rb]) (by simp [results, Tryd.results23, go_sem, y0, y1, y2, y3]) rfl ⟨rfl, fr_box H3.out _ _ _ _⟩
end Go.Proofs.YtmndmnajgfabnaaDoor
