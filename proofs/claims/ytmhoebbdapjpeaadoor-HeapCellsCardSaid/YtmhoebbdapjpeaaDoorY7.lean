/- Layer 8: Put at objects that are no arrays. Conditions: those that each theorem names. Layer 8: Own. Conditions: those that each theorem names. Layer 8: Own, of an array. Conditions: those that each theorem names. -/
import Derived.Test.YtmhoebbdapjpeaaDoorY6
namespace Go.Proofs.YtmhoebbdapjpeaaDoor
open Go.RowKit Go.Maps
set_option linter.all false

/-- What a call makes of a heap. -/
structure Step (h : Nat) (A' : Hp) (O : List Nat) (w w' : World) : Prop where
  ex : ∃ O', HeapAt h A' O' w' ∧ ∀ b ∈ O', b ∈ O ∨ w.heap.size ≤ b
  fr : Fr O w w'
theorem Step.same {h : Nat} {A : Hp} {O : List Nat} {w w' : World} (H : HeapAt h A O w) (hf : Fr [] w w') : Step h A O w w' := ⟨⟨O, H.fr hf, fun _ hb => Or.inl hb⟩, hf.mono (fun _ hb => by cases hb)⟩
theorem Step.pre {h : Nat} {A' : Hp} {O : List Nat} {w w1 w' : World} (hf : Fr [] w w1) (S : Step h A' O w1 w') : Step h A' O w w' := by
  obtain ⟨⟨O', h1, h2⟩, h3⟩ := S
  exact ⟨⟨O', h1, fun b hb => (h2 b hb).imp id (fun h => Nat.le_trans hf.size h)⟩, (hf.mono (fun _ hb => by cases hb)).trans h3 (fun _ hb => Or.inl hb)⟩
theorem Fr.below0 {w w' : World} (h : Fr [] w w') : Below w.heap.size w w' := h.below (Nat.le_refl _) (fun _ hb => by cases hb)
theorem Fr.drewN (w : World) (n : Nat) : Fr [] w (w.drewN n) := ⟨rfl, rfl, rfl, Nat.le_refl _, fun _ _ _ => rfl⟩
theorem HeapG.obj {h : Nat} {A : Hp} {sv : Value} {gs : List Gx} {w : World} (H : HeapG h A sv gs w) {i : Nat} {g : Gx} (hg : gs[i]? = some g) :
    ∃ gb cap, sv = .slice (some ⟨gb, 0, none⟩) gs.length cap ∧ w.cell? ⟨gb, i, none⟩ = some (.pointer (some ⟨g.blk, 0, none⟩)) ∧ gb ∈ allBlocks h sv gs ∧ i < gs.length := by
  have hi : i < gs.length := by
    rcases Nat.lt_or_ge i gs.length with h | h
    · exact h
    · rw [List.getElem?_eq_none h] at hg; cases hg
  obtain ⟨_, h2 | ⟨gb, cap, cur, hv, _⟩⟩ := H.row
  · omega
  · refine ⟨gb, cap, hv, ?_, ?_, hi⟩
    · have := H.row.cells (g := gb) (by rw [hv]; rfl) i (.pointer (some ⟨g.blk, 0, none⟩)) (by rw [List.getElem?_map, hg]; rfl)
      simp only [Addr.add] at this
      by_cases h0 : i = 0
      · subst h0; simpa using this
      · rw [if_neg h0] at this; simpa using this
    · unfold allBlocks
      rw [hv]
      simp [Value.ownBlock]
theorem list_split {α : Type} {l : List α} {i : Nat} {x : α} (h : l[i]? = some x) : ∃ l1 l2, l = l1 ++ x :: l2 ∧ l1.length = i := by
  have hi : i < l.length := by
    rcases Nat.lt_or_ge i l.length with h' | h'
    · exact h'
    · rw [List.getElem?_eq_none h'] at h; cases h
  refine ⟨l.take i, l.drop (i + 1), ?_, by rw [List.length_take]; omega⟩
  have : x = l[i] := by rw [List.getElem?_eq_getElem hi] at h; cases h; rfl
  rw [this]
  exact (List.take_append_drop i l).symm.trans (by rw [List.drop_eq_getElem_cons hi])
theorem set_split {α : Type} {l1 l2 : List α} {x y : α} : (l1 ++ x :: l2).set l1.length y = l1 ++ y :: l2 := by
  rw [List.set_append_right _ _ (Nat.le_refl _), Nat.sub_self]; rfl
/-- What a change of one object makes of a heap. -/
theorem HeapG.step {h : Nat} {A : Hp} {sv : Value} {gs : List Gx} {w w' : World} {i : Nat} {o o' : Ob} {g : Gx} {left' : Nat} (H : HeapG h A sv gs w) (ho : A.objs[i]? = some o) (hg : gs[i]? = some g) (U : Upd h sv g o' (left' : Int) w w') :
    Step h ⟨A.objs.set i o', left'⟩ (allBlocks h sv gs) w w' := by
  obtain ⟨o1, o2, hos, rfl⟩ := list_split ho
  obtain ⟨g1, g2, rfl, hl⟩ := list_split hg
  obtain ⟨gs', h1, h2⟩ := H.upd hos hl.symm U
  refine ⟨⟨allBlocks h sv gs', ⟨sv, gs', ?_, rfl⟩, h2⟩, ?_⟩
  · rw [hos, set_split]; exact h1
  · refine U.fr.mono (fun b hb => Or.inl ?_)
    unfold allBlocks
    rcases List.mem_cons.1 hb with rfl | hb
    · exact List.mem_append_left _ List.mem_cons_self
    · exact List.mem_append_right _ (List.mem_flatMap.2 ⟨g, by simp, hb⟩)
theorem HeapG.apart_h {h : Nat} {A : Hp} {sv : Value} {gs : List Gx} {w : World} (H : HeapG h A sv gs w) {i : Nat} {g : Gx} (hg : gs[i]? = some g) : h ∉ g.blocks := by
  intro hm
  have := H.apart
  unfold allBlocks at this
  rw [List.cons_append, List.nodup_cons] at this
  exact this.1 (List.mem_append_right _ (List.mem_flatMap.2 ⟨g, List.mem_of_getElem? hg, hm⟩))
theorem HeapG.lt_g {h : Nat} {A : Hp} {sv : Value} {gs : List Gx} {w : World} (H : HeapG h A sv gs w) {i : Nat} {g : Gx} (hg : gs[i]? = some g) : ∀ x ∈ g.blocks, x < w.heap.size := by
  intro x hx
  apply H.lt
  unfold allBlocks
  exact List.mem_append_right _ (List.mem_flatMap.2 ⟨g, List.mem_of_getElem? hg, hx⟩)
theorem HeapG.lt_h {h : Nat} {A : Hp} {sv : Value} {gs : List Gx} {w : World} (H : HeapG h A sv gs w) : h < w.heap.size := H.lt h (by simp [allBlocks])
/-- An own property is put. -/
def Hp.putOwn (A : Hp) (i : Nat) (o : Ob) (k : List UInt8) (v : V) : Int × Hp :=
  if hasP o.props k = true then (0, ⟨A.objs.set i { o with props := setP o.props k v }, A.left⟩) else
  match A.left with
  | 0 => (112, A)
  | n + 1 => (0, ⟨A.objs.set i { o with props := o.props ++ [(k, v)] }, n⟩)
theorem putOwn_any (h : Nat) (A : Hp) (sv : Value) (gs : List Gx) (i : Nat) (o : Ob) (g : Gx) (k : List UInt8) (hk : k.length ≤ maxLen) (vk : Int) (vn : Nat) (vt : List UInt8) (vr : Int) (w : World)
    (H : HeapG h A sv gs w) (ho : A.objs[i]? = some o) (hg : gs[i]? = some g) (hleft : A.left ≤ 10000) (hn : o.props.length < maxLen) :
    Calls Tryd.prog 51 #[.pointer (some ⟨h, 0, none⟩), .pointer (some ⟨g.blk, 0, none⟩), .string (bs k), .agg #[.int .i64 vk, .float .f64 vn, .string (bs vt), .int .i64 vr]] w fun e w' =>
      e = .returned (.int .i64 (A.putOwn i o k ⟨vk, vn, vt, vr⟩).1) ∧ Step h (A.putOwn i o k ⟨vk, vn, vt, vr⟩).2 (allBlocks h sv gs) w w' := by
  have hob := H.obs i o g ho hg
  have hlt := H.lt_g hg
  have hgh := H.apart_h hg
  unfold Hp.putOwn
  cases hp : hasP o.props k with
  | true =>
    rw [if_pos rfl]
    refine (putOwn_old h sv A.left o g k hk vk vn vt vr w H.hp hgh hob hlt hp).mono ?_
    rintro e w' ⟨rfl, hU⟩
    exact ⟨rfl, H.step ho hg hU⟩
  | false =>
    rw [if_neg (by simp)]
    obtain ⟨objs, left⟩ := A
    cases left with
    | zero =>
      refine (putOwn_full h sv o g k hk vk vn (bs vt) vr w H.hp hob hlt hp).mono ?_
      rintro e w' ⟨rfl, hb⟩
      exact ⟨rfl, Step.same ⟨sv, gs, H, rfl⟩ (.of_below hb)⟩
    | succ n =>
      refine (putOwn_new h sv n (by have : n + 1 ≤ 10000 := hleft; omega) o g k hk vk vn vt vr w H.hp hgh hob hlt hp hn).mono ?_
      rintro e w' ⟨rfl, hU⟩
      exact ⟨rfl, H.step ho hg hU⟩
set_option maxRecDepth 100000 in
set_option maxHeartbeats 1000000 in
theorem put_plain (h : Nat) (A : Hp) (sv : Value) (gs : List Gx) (i : Nat) (o : Ob) (g : Gx) (k : List UInt8) (hk : k.length ≤ 140737488355328) (vk : Int) (vn : Nat) (vt : List UInt8) (ht : vt.length ≤ maxLen) (vr : Int) (w : World)
    (H : HeapG h A sv gs w) (ho : A.objs[i]? = some o) (hg : gs[i]? = some g) (hleft : A.left ≤ 10000) (hlen : A.objs.length ≤ 10000) (hn : o.props.length < maxLen) (hkind : o.kind ≠ 2) (hv : rightV A.objs.length ⟨vk, vn, vt, vr⟩ = true) :
    Calls Tryd.prog 18 #[.pointer (some ⟨h, 0, none⟩), .int .i64 (i : Int), .string (bs k), .agg #[.int .i64 vk, .float .f64 vn, .string (bs vt), .int .i64 vr]] w fun e w' =>
      e = .returned (.int .i64 (A.putOwn i o k ⟨vk, vn, vt, vr⟩).1) ∧ Step h (A.putOwn i o k ⟨vk, vn, vt, vr⟩).2 (allBlocks h sv gs) w w' := by
  obtain ⟨gb, cap, hsv, hcell, hgbm, hi⟩ := H.obj hg
  have hlen' := H.len
  have hmx : k.length ≤ maxLen := Nat.le_trans hk (by decide)
  subst hsv
  -- the calls, at any world that only grew
  have hhas : ∀ W, Fr [] w W → Calls Tryd.prog 44 #[.pointer (some ⟨h, 0, none⟩), .int .i64 (i : Int)] W fun e w' => e = .returned (.bool true) ∧ W = w' := by
    intro W hW
    refine (has_any h _ gs.length cap A.left (i : Int) W (H.fr hW).hp).mono ?_
    rintro e w' ⟨rfl, rfl⟩
    exact ⟨ret_bool (by simp; omega), rfl⟩
  have hright : ∀ W, Fr [] w W → Calls Tryd.prog 46 #[.pointer (some ⟨h, 0, none⟩), .agg #[.int .i64 vk, .float .f64 vn, .string (bs vt), .int .i64 vr]] W fun e w' => e = .returned (.bool true) ∧ Below W.heap.size W w' := by
    intro W hW
    refine (isRight_any h _ gs.length cap A.left vk vn vt ht vr W (H.fr hW).hp).mono ?_
    rintro e w' ⟨rfl, hb⟩
    exact ⟨by rw [← hlen', hv], hb⟩
  have hblk : ∀ W, Fr [] w W → W.cell? ⟨g.blk, 0, none⟩ = some (.int .i64 o.kind) := fun W hW => blk_cell ((H.fr hW).obs i o g ho hg).blk 0 _ rfl
  have hisl : ∀ W, Fr [] w W → Calls Tryd.prog 47 #[.pointer (some ⟨g.blk, 0, none⟩), .string (bs k)] W fun e w' => e = .returned (.bool false) ∧ W = w' := by
    intro W hW
    refine (isLength_any g.blk o.kind k W (hblk W hW)).mono ?_
    rintro e w' ⟨rfl, rfl⟩
    exact ⟨by rw [decide_eq_false hkind, Bool.false_and], rfl⟩
  have hidx : ∀ W, Fr [] w W → Calls Tryd.prog 49 #[.pointer (some ⟨g.blk, 0, none⟩), .string (bs k)] W fun e w' => e = .returned (.tuple #[.int .i64 0, .bool false]) ∧ ∃ d, w' = W.drewN d := by
    intro W hW
    refine (oIndex_any g.blk o.kind k hk W (hblk W hW)).mono ?_
    rintro e w' ⟨rfl, hd⟩
    exact ⟨by unfold oIdx; rw [if_neg hkind]; rfl, hd⟩
  obtain ⟨er, A', hA'⟩ : ∃ er A', A.putOwn i o k ⟨vk, vn, vt, vr⟩ = (er, A') := ⟨_, _, rfl⟩
  have hput : ∀ W, Fr [] w W → Calls Tryd.prog 51 #[.pointer (some ⟨h, 0, none⟩), .pointer (some ⟨g.blk, 0, none⟩), .string (bs k), .agg #[.int .i64 vk, .float .f64 vn, .string (bs vt), .int .i64 vr]] W fun e w' =>
      e = .returned (.int .i64 er) ∧ Step h A' (allBlocks h (.slice (some ⟨gb, 0, none⟩) gs.length cap) gs) w w' := by
    intro W hW
    refine (putOwn_any h A _ gs i o g k hmx vk vn vt vr W (H.fr hW) ho hg hleft hn).mono ?_
    rintro e w' ⟨rfl, hS⟩
    rw [hA'] at hS
    exact ⟨by rw [hA'], Step.pre hW hS⟩
  rw [hA']
  have hc0 : ∀ W, Fr [] w W → W.cell? ⟨h, 0, none⟩ = some (.slice (some ⟨gb, 0, none⟩) gs.length cap) := fun W hW => (H.fr hW).hp.c0
  have hcr : ∀ W, Fr [] w W → W.cell? ⟨gb, i, none⟩ = some (.pointer (some ⟨g.blk, 0, none⟩)) := fun W hW => (hW.cell (H.lt gb hgbm) List.not_mem_nil i).trans hcell
  have hin : gs.length ≤ 10000 := by omega
  have HHAS := Lib.hid hhas
  have HR := Lib.hid hright
  have HISL := Lib.hid hisl
  have HIDX := Lib.hid hidx
  have HPUT := Lib.hid hput
  have HC0 := Lib.hid hc0
  have HCR := Lib.hid hcr
  have hst := store_float
  obtain ⟨G, hG⟩ : ∃ G, G = gs.length := ⟨_, rfl⟩
  rw [← hG] at hin hi
  generalize hO : allBlocks h (.slice (some ⟨gb, 0, none⟩) gs.length cap) gs = O at *
  rw [← hG] at HC0
  generalize g.blk = b at *
  clear hG hO hhas hright hisl hidx hput hc0 hcr hblk hA' hv hkind hn hlen hleft ho hg H hcell hgbm hlen' hmx hk ht
  generalize bs k = S at *
  generalize bs vt = T at *
  have r0 : Fr [] w (w.alloc (.cells #[.int .i64 vk, .float .f64 vn, .string T, .int .i64 vr] 31)) := Fr.alloc _ _
  have x0 := Bx.new vk vn T vr w
  have X0 := Lib.hid x0
  have R0 := Lib.hid r0
  clear x0 r0
  go_enter Tryd.func18, Tryd.ntmps18
  go_wp2_with (first
    | (go_at_call 44; ((with_reducible refine (HHAS.out _ R0.out).mono ?_); rintro e w1 ⟨rfl, rfl⟩))
    | (go_at_call 46; ((with_reducible refine (HR.out _ R0.out).mono ?_); rintro e w1 ⟨rfl, hb1⟩; have R1 := Lib.hid (R0.out.trans (Fr.of_below hb1) (fun _ h => by cases h)); have X1 := Lib.hid (X0.out.below hb1); obtain ⟨y0, y1, y2, y3⟩ := X1.out.cells; have k0 := HC0.out _ R1.out; have k1 := HCR.out _ R1.out))
    | (go_at_call 47; ((with_reducible refine (HISL.out _ R1.out).mono ?_); rintro e w2 ⟨rfl, rfl⟩))
    | (go_at_call 49; ((with_reducible refine (HIDX.out _ R1.out).mono ?_); rintro e w2 ⟨rfl, d, rfl⟩; have R2 := Lib.hid (R1.out.trans (Fr.drewN _ d) (fun _ h => by cases h))))
    | (go_at_call 51; ((with_reducible refine (HPUT.out _ R2.out).mono ?_); rintro e w3 ⟨rfl, hS⟩; have HS := Lib.hid hS; clear hS))
    | fail)
  go_ret
  exact ⟨rfl, HS.out⟩
end Go.Proofs.YtmhoebbdapjpeaaDoor
namespace Go.Proofs.YtmhoebbdapjpeaaDoor
open Go.RowKit Go.Maps
set_option linter.all false

def lenV (n : Nat) : V := ⟨3, FloatKind.f64.nearest (n : Int), [], 0⟩
def lookP (l : List (List UInt8 × V)) (k : List UInt8) : Option V := (l.find? fun q => decide (q.1 = k)).map (·.2)
def Ob.own (o : Ob) (k : List UInt8) : Option V :=
  if o.kind = 2 ∧ k = lenB then some (lenV o.items.length) else
  match oIdx o.kind k with
  | some n => o.items[n]?
  | none => lookP o.props k
def ansV : Option V → Value
  | none => .tuple #[.agg #[.int .i64 0, .float .f64 0, .string ⟨#[]⟩, .int .i64 0], .bool false]
  | some v => .tuple #[.agg #[.int .i64 v.k, .float .f64 v.n, .string (bs v.t), .int .i64 v.r], .bool true]
theorem lookP_L (L : List Pr) (k : List UInt8) : lookP (L.map (·.2)) k = (L.find? (fun q => decide (q.2.1 = k))).map (·.2.2) := by
  unfold lookP
  rw [List.find?_map, Option.map_map]
  rfl
/-- properties.get, whatever is found. -/
theorem pGet_any (o : Ob) (g : Gx) (k : List UInt8) (hk : k.length ≤ maxLen) (w : World) (H : ObAt o g w) (hlt : ∀ x ∈ g.blocks, x < w.heap.size) :
    Calls Tryd.prog 54 #[.pointer (some ⟨g.blk, 2, none⟩), .string (bs k)] w fun e w' => e = .returned (ansV (lookP o.props k)) ∧ Below w.heap.size w w' := by
  have hb : ∀ b ∈ blocksR g.op g.L, b < w.heap.size := fun b hb => hlt b (Gx.r_mem g hb)
  have e : lookP o.props k = (g.L.find? (fun q => decide (q.2.1 = k))).map (·.2.2) := by rw [H.eq, lookP_L]
  rw [e]
  cases hf : g.L.find? (fun q => decide (q.2.1 = k)) with
  | none => exact pGet_none g.blk g.op g.L k hk w (blk_cell H.blk 2 _ rfl) H.props hb hf
  | some q =>
    obtain ⟨x, k', v⟩ := q
    exact pGet_some g.blk g.op g.L k hk w (blk_cell H.blk 2 _ rfl) H.props hb x k' v hf
theorem ansV_form (o : Option V) : ∃ (k : Int) (n : Nat) (T : ByteArray) (r : Int) (b : Bool), ansV o = .tuple #[.agg #[.int .i64 k, .float .f64 n, .string T, .int .i64 r], .bool b] := by
  cases o with
  | none => exact ⟨0, 0, ⟨#[]⟩, 0, false, rfl⟩
  | some v => exact ⟨_, _, _, _, true, rfl⟩
theorem fr_box {w w3 : World} (h : Fr [] w w3) (a b c d : Value) : Fr [] w ((((w3.setCell ⟨w.heap.size, 0, none⟩ a).setCell ⟨w.heap.size, 1, none⟩ b).setCell ⟨w.heap.size, 2, none⟩ c).setCell ⟨w.heap.size, 3, none⟩ d) := by
  have g : ∀ z ∈ [w.heap.size], z ∈ ([] : List Nat) ∨ w.heap.size ≤ z := fun z hz => Or.inr (by simp at hz; omega)
  exact (((h.trans (Fr.set _ _ 0 _) g).trans (Fr.set _ _ 1 _) g).trans (Fr.set _ _ 2 _) g).trans (Fr.set _ _ 3 _) g
set_option maxRecDepth 100000 in
set_option maxHeartbeats 1000000 in
theorem own_props (h : Nat) (A : Hp) (sv : Value) (gs : List Gx) (i : Nat) (o : Ob) (g : Gx) (k : List UInt8) (hk : k.length ≤ 140737488355328) (w : World)
    (H : HeapG h A sv gs w) (ho : A.objs[i]? = some o) (hg : gs[i]? = some g) (hlen : A.objs.length ≤ 10000) (hkl : ¬ (o.kind = 2 ∧ k = lenB)) (hki : oIdx o.kind k = none) :
    Calls Tryd.prog 23 #[.pointer (some ⟨h, 0, none⟩), .int .i64 (i : Int), .string (bs k)] w fun e w' => e = .returned (ansV (o.own k)) ∧ Fr [] w w' := by
  obtain ⟨gb, cap, hsv, hcell, hgbm, hi⟩ := H.obj hg
  have hlen' := H.len
  have hmx : k.length ≤ maxLen := Nat.le_trans hk (by decide)
  have hown : o.own k = lookP o.props k := by unfold Ob.own; rw [if_neg hkl, hki]
  rw [hown]
  subst hsv
  have hhas : ∀ W, Fr [] w W → Calls Tryd.prog 44 #[.pointer (some ⟨h, 0, none⟩), .int .i64 (i : Int)] W fun e w' => e = .returned (.bool true) ∧ W = w' := by
    intro W hW
    refine (has_any h _ gs.length cap A.left (i : Int) W (H.fr hW).hp).mono ?_
    rintro e w' ⟨rfl, rfl⟩
    exact ⟨ret_bool (by simp; omega), rfl⟩
  have hblk : ∀ W, Fr [] w W → W.cell? ⟨g.blk, 0, none⟩ = some (.int .i64 o.kind) := fun W hW => blk_cell ((H.fr hW).obs i o g ho hg).blk 0 _ rfl
  have hisl : ∀ W, Fr [] w W → Calls Tryd.prog 47 #[.pointer (some ⟨g.blk, 0, none⟩), .string (bs k)] W fun e w' => e = .returned (.bool false) ∧ W = w' := by
    intro W hW
    refine (isLength_any g.blk o.kind k W (hblk W hW)).mono ?_
    rintro e w' ⟨rfl, rfl⟩
    refine ⟨ret_bool ?_, rfl⟩
    rw [Bool.and_eq_false_iff, decide_eq_false_iff_not, decide_eq_false_iff_not]
    by_cases h2 : o.kind = 2
    · exact Or.inr (fun e => hkl ⟨h2, e⟩)
    · exact Or.inl h2
  have hidx : ∀ W, Fr [] w W → Calls Tryd.prog 49 #[.pointer (some ⟨g.blk, 0, none⟩), .string (bs k)] W fun e w' => e = .returned (.tuple #[.int .i64 0, .bool false]) ∧ ∃ d, w' = W.drewN d := by
    intro W hW
    refine (oIndex_any g.blk o.kind k hk W (hblk W hW)).mono ?_
    rintro e w' ⟨rfl, hd⟩
    exact ⟨by rw [hki]; rfl, hd⟩
  obtain ⟨rk, rn, rT, rr, rb, hR⟩ := ansV_form (lookP o.props k)
  have hget : ∀ W, Fr [] w W → Calls Tryd.prog 54 #[.pointer (some ⟨g.blk, 2, none⟩), .string (bs k)] W fun e w' => e = .returned (.tuple #[.agg #[.int .i64 rk, .float .f64 rn, .string rT, .int .i64 rr], .bool rb]) ∧ Fr [] w w' ∧ Below W.heap.size W w' := by
    intro W hW
    refine (pGet_any o g k hmx W ((H.fr hW).obs i o g ho hg) ((H.fr hW).lt_g hg)).mono ?_
    rintro e w' ⟨rfl, hb⟩
    exact ⟨by rw [hR], hW.trans (Fr.of_below hb) (fun _ h => by cases h), hb⟩
  rw [hR]
  have hc0 : ∀ W, Fr [] w W → W.cell? ⟨h, 0, none⟩ = some (.slice (some ⟨gb, 0, none⟩) gs.length cap) := fun W hW => (H.fr hW).hp.c0
  have hcr : ∀ W, Fr [] w W → W.cell? ⟨gb, i, none⟩ = some (.pointer (some ⟨g.blk, 0, none⟩)) := fun W hW => (hW.cell (H.lt gb hgbm) List.not_mem_nil i).trans hcell
  have hin : gs.length ≤ 10000 := by omega
  have HHAS := Lib.hid hhas
  have HISL := Lib.hid hisl
  have HIDX := Lib.hid hidx
  have HGET := Lib.hid hget
  have HC0 := Lib.hid hc0
  have HCR := Lib.hid hcr
  have hst := store_float
  have hfree : ∀ W, Fr [] w W → True := fun _ _ => trivial
  obtain ⟨G, hG⟩ : ∃ G, G = gs.length := ⟨_, rfl⟩
  rw [← hG] at hin hi HC0
  generalize g.blk = b at *
  have hN := H.lt_h
  have hgbN := H.lt gb hgbm
  clear hG hhas hisl hidx hget hc0 hcr hblk hR hown hki hkl hlen ho hg H hcell hgbm hlen' hmx hk hfree
  generalize bs k = S at *
  have r0 : Fr [] w (w.alloc (.cells #[.int .i64 0, .float .f64 0, .string ⟨#[]⟩, .int .i64 0] 31 (0, 0))) := Fr.alloc _ _
  have R0 := Lib.hid r0
  have x0 := Bx.new 0 0 ⟨#[]⟩ 0 w
  have X0 := Lib.hid x0
  have k0 := HC0.out _ R0.out
  have k1 := HCR.out _ R0.out
  clear r0 x0
  go_enter Tryd.func23, Tryd.ntmps23
  go_wp2_with (first
    | (go_at_call 44; ((with_reducible refine (HHAS.out _ R0.out).mono ?_); rintro e w1 ⟨rfl, rfl⟩))
    | (go_at_call 47; ((with_reducible refine (HISL.out _ R0.out).mono ?_); rintro e w2 ⟨rfl, rfl⟩))
    | (go_at_call 49; ((with_reducible refine (HIDX.out _ R0.out).mono ?_); rintro e w2 ⟨rfl, d, rfl⟩; have R2 := Lib.hid (R0.out.trans (Fr.drewN _ d) (fun _ h => by cases h)); have X2 := Lib.hid (show Bx w.heap.size 0 0 ⟨#[]⟩ 0 ((w.alloc (.cells #[.int .i64 0, .float .f64 0, .string ⟨#[]⟩, .int .i64 0] 31 (0, 0))).drewN d) from X0.out)))
    | (go_at_call 54; ((with_reducible refine (HGET.out _ R2.out).mono ?_); rintro e w3 ⟨rfl, h3, hb3⟩; have X3 := X2.out.below hb3; obtain ⟨y0, y1, y2, y3⟩ := X3.cells; have z0 := blk_free X3 0; have z1 := blk_free X3 1; have z2 := blk_free X3 2; have z3 := blk_free X3 3; have H3 := Lib.hid h3; clear h3 hb3))
    | fail)
  exact bodyPost_ret (v := .tuple #[.agg #[.int .i64 rk, .float .f64 rn, .string rT, .int .i64 rr], .bool rb]) (by simp [results, Tryd.results23, go_sem, y0, y1, y2, y3]) rfl ⟨rfl, fr_box H3.out _ _ _ _⟩
end Go.Proofs.YtmhoebbdapjpeaaDoor
namespace Go.Proofs.YtmhoebbdapjpeaaDoor
open Go.RowKit Go.Maps
set_option linter.all false

theorem nearest_int (n : Nat) (h : n ≤ 10000) (w : World) : (convert 3 29 (.int .i64 (n : Int))).run Tryd.prog w = .ok (.float .f64 (FloatKind.f64.nearest (n : Int))) w := by
  kernel_rfl
set_option maxRecDepth 100000 in
set_option maxHeartbeats 1000000 in
theorem own_len (h : Nat) (A : Hp) (sv : Value) (gs : List Gx) (i : Nat) (o : Ob) (g : Gx) (k : List UInt8) (hk : k.length ≤ 140737488355328) (w : World)
    (H : HeapG h A sv gs w) (ho : A.objs[i]? = some o) (hg : gs[i]? = some g) (hlen : A.objs.length ≤ 10000) (hkl : o.kind = 2 ∧ k = lenB) (hni : o.items.length ≤ 10000) :
    Calls Tryd.prog 23 #[.pointer (some ⟨h, 0, none⟩), .int .i64 (i : Int), .string (bs k)] w fun e w' => e = .returned (ansV (o.own k)) ∧ Fr [] w w' := by
  obtain ⟨gb, cap, hsv, hcell, hgbm, hi⟩ := H.obj hg
  have hlen' := H.len
  have hmx : k.length ≤ maxLen := Nat.le_trans hk (by decide)
  have hown : o.own k = some (lenV o.items.length) := by unfold Ob.own; rw [if_pos hkl]
  rw [hown]
  subst hsv
  have hhas : ∀ W, Fr [] w W → Calls Tryd.prog 44 #[.pointer (some ⟨h, 0, none⟩), .int .i64 (i : Int)] W fun e w' => e = .returned (.bool true) ∧ W = w' := by
    intro W hW
    refine (has_any h _ gs.length cap A.left (i : Int) W (H.fr hW).hp).mono ?_
    rintro e w' ⟨rfl, rfl⟩
    exact ⟨ret_bool (by simp; omega), rfl⟩
  have hblk : ∀ W, Fr [] w W → W.cell? ⟨g.blk, 0, none⟩ = some (.int .i64 o.kind) := fun W hW => blk_cell ((H.fr hW).obs i o g ho hg).blk 0 _ rfl
  have hisl : ∀ W, Fr [] w W → Calls Tryd.prog 47 #[.pointer (some ⟨g.blk, 0, none⟩), .string (bs k)] W fun e w' => e = .returned (.bool true) ∧ W = w' := by
    intro W hW
    refine (isLength_any g.blk o.kind k W (hblk W hW)).mono ?_
    rintro e w' ⟨rfl, rfl⟩
    exact ⟨ret_bool (by rw [decide_eq_true hkl.1, decide_eq_true hkl.2]; rfl), rfl⟩
  obtain ⟨ip, icap, hit⟩ := row_slice (H.obs i o g ho hg).items
  have hc4 : ∀ W, Fr [] w W → W.cell? ⟨g.blk, 4, none⟩ = some (.slice ip o.items.length icap) := fun W hW => by rw [← hit]; exact blk_cell ((H.fr hW).obs i o g ho hg).blk 4 _ rfl
  have hcv := nearest_int o.items.length hni
  have hR : ansV (some (lenV o.items.length)) = .tuple #[.agg #[.int .i64 3, .float .f64 (FloatKind.f64.nearest (o.items.length : Int)), .string ⟨#[]⟩, .int .i64 0], .bool true] := rfl
  rw [hR]
  have hc0 : ∀ W, Fr [] w W → W.cell? ⟨h, 0, none⟩ = some (.slice (some ⟨gb, 0, none⟩) gs.length cap) := fun W hW => (H.fr hW).hp.c0
  have hcr : ∀ W, Fr [] w W → W.cell? ⟨gb, i, none⟩ = some (.pointer (some ⟨g.blk, 0, none⟩)) := fun W hW => (hW.cell (H.lt gb hgbm) List.not_mem_nil i).trans hcell
  have hin : gs.length ≤ 10000 := by omega
  have HHAS := Lib.hid hhas
  have HISL := Lib.hid hisl
  have HC4 := Lib.hid hc4
  have HC0 := Lib.hid hc0
  have HCR := Lib.hid hcr
  have hst := store_float
  have hfree : ∀ W, Fr [] w W → True := fun _ _ => trivial
  obtain ⟨G, hG⟩ : ∃ G, G = gs.length := ⟨_, rfl⟩
  rw [← hG] at hin hi HC0
  generalize g.blk = b at *
  generalize o.items.length = LN at *
  have hN := H.lt_h
  have hgbN := H.lt gb hgbm
  clear hG hhas hisl hc4 hc0 hcr hblk hR hown hkl hlen ho hg H hcell hgbm hlen' hmx hk hfree hit
  generalize bs k = S at *
  have r0 : Fr [] w (w.alloc (.cells #[.int .i64 0, .float .f64 0, .string ⟨#[]⟩, .int .i64 0] 31 (0, 0))) := Fr.alloc _ _
  have R0 := Lib.hid r0
  have x0 := Bx.new 0 0 ⟨#[]⟩ 0 w
  have X0 := Lib.hid x0
  have k0 := HC0.out _ R0.out
  have k1 := HCR.out _ R0.out
  have k4 := HC4.out _ R0.out
  clear r0 x0
  go_enter Tryd.func23, Tryd.ntmps23
  go_wp2_with (first
    | (go_at_call 44; ((with_reducible refine (HHAS.out _ R0.out).mono ?_); rintro e w1 ⟨rfl, rfl⟩))
    | (go_at_call 47; ((with_reducible refine (HISL.out _ R0.out).mono ?_); rintro e w2 ⟨rfl, rfl⟩))
    | fail)
  exact bodyPost_ret (v := .tuple #[.agg #[.int .i64 3, .float .f64 (FloatKind.f64.nearest (LN : Int)), .string ⟨#[]⟩, .int .i64 0], .bool true]) (by simp [results, Tryd.results23, go_sem]) rfl ⟨rfl, Fr.alloc _ _⟩
theorem item_at : ∀ (l : List V) (ix : Nat) (v : V), l[ix]? = some v → (itemCells l)[4 * ix]? = some (.int .i64 v.k) ∧ (itemCells l)[4 * ix + 1]? = some (.float .f64 v.n) ∧ (itemCells l)[4 * ix + 2]? = some (.string (bs v.t)) ∧ (itemCells l)[4 * ix + 3]? = some (.int .i64 v.r)
  | [], ix, v, h => by cases h
  | u :: l, 0, v, h => by
    simp only [List.getElem?_cons_zero, Option.some.injEq] at h
    subst h
    exact ⟨rfl, rfl, rfl, rfl⟩
  | u :: l, ix + 1, v, h => by
    rw [List.getElem?_cons_succ] at h
    have := item_at l ix v h
    have e : itemCells (u :: l) = u.cells ++ itemCells l := rfl
    have e4 : ∀ j, (itemCells (u :: l))[4 * (ix + 1) + j]? = (itemCells l)[4 * ix + j]? := by
      intro j
      rw [e, List.getElem?_append_right (by show 4 ≤ _; omega)]
      congr 1
      show 4 * (ix + 1) + j - 4 = _
      omega
    refine ⟨(e4 0).trans this.1, (e4 1).trans this.2.1, (e4 2).trans this.2.2.1, (e4 3).trans this.2.2.2⟩
theorem row_cell {w : World} {base : Nat} {e : TypeId} {size : Nat} {v : Value} {n : Nat} {xs : List Value} (h : w.ownsRow base e size v n xs) {g : Nat} (hg : v.ownBlock = some g) {j : Nat} {u : Value} (hj : xs[j]? = some u) : w.cell? ⟨g, j, none⟩ = some u := by
  have := h.cells hg j u hj
  simp only [Addr.add] at this
  by_cases h0 : j = 0
  · subst h0; simpa using this
  · rw [if_neg h0] at this; simpa using this
theorem item_cells {h : Nat} {A : Hp} {sv : Value} {gs : List Gx} {w : World} (H : HeapG h A sv gs w) {i : Nat} {o : Ob} {g : Gx} (ho : A.objs[i]? = some o) (hg : gs[i]? = some g) {ip : Option Addr} {icap : Nat} (hit : g.it = .slice ip o.items.length icap) {ix : Nat} (v : V) (hv : o.items[ix]? = some v) :
    ∃ ib, ip = some ⟨ib, 0, none⟩ ∧ ix < o.items.length ∧ ∀ W, Fr [] w W → W.cell? ⟨ib, ix * 4, none⟩ = some (.int .i64 v.k) ∧ W.cell? ⟨ib, ix * 4 + 1, none⟩ = some (.float .f64 v.n) ∧ W.cell? ⟨ib, ix * 4 + 2, none⟩ = some (.string (bs v.t)) ∧ W.cell? ⟨ib, ix * 4 + 3, none⟩ = some (.int .i64 v.r) := by
  have hi : ix < o.items.length := by
    rcases Nat.lt_or_ge ix o.items.length with h' | h'
    · exact h'
    · rw [List.getElem?_eq_none h'] at hv; cases hv
  obtain ⟨_, h2 | ⟨ib, cap, cur, hv2, _⟩⟩ := (H.obs i o g ho hg).items
  · omega
  · rw [hit] at hv2
    cases hv2
    refine ⟨ib, rfl, hi, fun W hW => ?_⟩
    have hr := ((H.fr hW).obs i o g ho hg).items
    obtain ⟨a0, a1, a2, a3⟩ := item_at _ _ _ hv
    have hob : g.it.ownBlock = some ib := by rw [hit]; rfl
    rw [Nat.mul_comm] at a0 a1 a2 a3
    exact ⟨row_cell hr hob a0, row_cell hr hob a1, row_cell hr hob a2, row_cell hr hob a3⟩
set_option maxRecDepth 100000 in
set_option maxHeartbeats 1000000 in
theorem own_item (h : Nat) (A : Hp) (sv : Value) (gs : List Gx) (i : Nat) (o : Ob) (g : Gx) (k : List UInt8) (hk : k.length ≤ 140737488355328) (w : World)
    (H : HeapG h A sv gs w) (ho : A.objs[i]? = some o) (hg : gs[i]? = some g) (hlen : A.objs.length ≤ 10000) (hkl : ¬ (o.kind = 2 ∧ k = lenB)) (ix : Nat) (hki : oIdx o.kind k = some ix) (hni : o.items.length ≤ 10000) :
    Calls Tryd.prog 23 #[.pointer (some ⟨h, 0, none⟩), .int .i64 (i : Int), .string (bs k)] w fun e w' => e = .returned (ansV (o.own k)) ∧ Fr [] w w' := by
  obtain ⟨gb, cap, hsv, hcell, hgbm, hi⟩ := H.obj hg
  have hlen' := H.len
  have hmx : k.length ≤ maxLen := Nat.le_trans hk (by decide)
  have hown : o.own k = o.items[ix]? := by unfold Ob.own; rw [if_neg hkl, hki]
  have hixm : ix ≤ 2147483647 := by
    unfold oIdx at hki
    split at hki
    · exact idx_lt hki
    · cases hki
  subst hsv
  have hhas : ∀ W, Fr [] w W → Calls Tryd.prog 44 #[.pointer (some ⟨h, 0, none⟩), .int .i64 (i : Int)] W fun e w' => e = .returned (.bool true) ∧ W = w' := by
    intro W hW
    refine (has_any h _ gs.length cap A.left (i : Int) W (H.fr hW).hp).mono ?_
    rintro e w' ⟨rfl, rfl⟩
    exact ⟨ret_bool (by simp; omega), rfl⟩
  have hblk : ∀ W, Fr [] w W → W.cell? ⟨g.blk, 0, none⟩ = some (.int .i64 o.kind) := fun W hW => blk_cell ((H.fr hW).obs i o g ho hg).blk 0 _ rfl
  have hisl : ∀ W, Fr [] w W → Calls Tryd.prog 47 #[.pointer (some ⟨g.blk, 0, none⟩), .string (bs k)] W fun e w' => e = .returned (.bool false) ∧ W = w' := by
    intro W hW
    refine (isLength_any g.blk o.kind k W (hblk W hW)).mono ?_
    rintro e w' ⟨rfl, rfl⟩
    refine ⟨ret_bool ?_, rfl⟩
    rw [Bool.and_eq_false_iff, decide_eq_false_iff_not, decide_eq_false_iff_not]
    by_cases h2 : o.kind = 2
    · exact Or.inr (fun e => hkl ⟨h2, e⟩)
    · exact Or.inl h2
  have hidx : ∀ W, Fr [] w W → Calls Tryd.prog 49 #[.pointer (some ⟨g.blk, 0, none⟩), .string (bs k)] W fun e w' => e = .returned (.tuple #[.int .i64 (ix : Int), .bool true]) ∧ ∃ d, w' = W.drewN d := by
    intro W hW
    refine (oIndex_any g.blk o.kind k hk W (hblk W hW)).mono ?_
    rintro e w' ⟨rfl, hd⟩
    exact ⟨by rw [hki]; rfl, hd⟩
  obtain ⟨ip, icap, hit⟩ := row_slice (H.obs i o g ho hg).items
  have hc4 : ∀ W, Fr [] w W → W.cell? ⟨g.blk, 4, none⟩ = some (.slice ip o.items.length icap) := fun W hW => by rw [← hit]; exact blk_cell ((H.fr hW).obs i o g ho hg).blk 4 _ rfl
  have hcell4 : ∀ v, o.items[ix]? = some v → ∃ ib, ip = some ⟨ib, 0, none⟩ ∧ ix < o.items.length ∧ ∀ W, Fr [] w W → W.cell? ⟨ib, ix * 4, none⟩ = some (.int .i64 v.k) ∧ W.cell? ⟨ib, ix * 4 + 1, none⟩ = some (.float .f64 v.n) ∧ W.cell? ⟨ib, ix * 4 + 2, none⟩ = some (.string (bs v.t)) ∧ W.cell? ⟨ib, ix * 4 + 3, none⟩ = some (.int .i64 v.r) :=
    item_cells H ho hg hit
  have hc0 : ∀ W, Fr [] w W → W.cell? ⟨h, 0, none⟩ = some (.slice (some ⟨gb, 0, none⟩) gs.length cap) := fun W hW => (H.fr hW).hp.c0
  have hcr : ∀ W, Fr [] w W → W.cell? ⟨gb, i, none⟩ = some (.pointer (some ⟨g.blk, 0, none⟩)) := fun W hW => (hW.cell (H.lt gb hgbm) List.not_mem_nil i).trans hcell
  have hin : gs.length ≤ 10000 := by omega
  have HHAS := Lib.hid hhas
  have HISL := Lib.hid hisl
  have HIDX := Lib.hid hidx
  have HC4 := Lib.hid hc4
  have HC0 := Lib.hid hc0
  have HCR := Lib.hid hcr
  have hst := store_float
  have hfree : ∀ W, Fr [] w W → True := fun _ _ => trivial
  obtain ⟨G, hG⟩ : ∃ G, G = gs.length := ⟨_, rfl⟩
  rw [← hG] at hin hi HC0
  generalize g.blk = b at *
  have hN := H.lt_h
  have hgbN := H.lt gb hgbm
  have hown2 := hown
  clear hG hhas hisl hidx hc4 hc0 hcr hblk hown hki hkl hlen ho hg H hcell hgbm hlen' hmx hk hfree hit
  have HC4S := Lib.hid hcell4
  clear hcell4
  rw [hown2]
  cases hv : o.items[ix]? with
  | none =>
    have hge : o.items.length ≤ ix := by rw [List.getElem?_eq_none_iff] at hv; exact hv
    rw [show ansV none = .tuple #[.agg #[.int .i64 0, .float .f64 0, .string ⟨#[]⟩, .int .i64 0], .bool false] from rfl]
    clear HC4S hv hown2
    generalize o.items.length = LN at *
    generalize bs k = S at *
    have r0 : Fr [] w (w.alloc (.cells #[.int .i64 0, .float .f64 0, .string ⟨#[]⟩, .int .i64 0] 31 (0, 0))) := Fr.alloc _ _
    have R0 := Lib.hid r0
    have x0 := Bx.new 0 0 ⟨#[]⟩ 0 w
    have X0 := Lib.hid x0
    have k0 := HC0.out _ R0.out
    have k1 := HCR.out _ R0.out
    clear r0 x0
    go_enter Tryd.func23, Tryd.ntmps23
    go_wp2_with (first
      | (go_at_call 44; ((with_reducible refine (HHAS.out _ R0.out).mono ?_); rintro e w1 ⟨rfl, rfl⟩))
      | (go_at_call 47; ((with_reducible refine (HISL.out _ R0.out).mono ?_); rintro e w2 ⟨rfl, rfl⟩))
      | (go_at_call 49; ((with_reducible refine (HIDX.out _ R0.out).mono ?_); rintro e w2 ⟨rfl, d, rfl⟩; have R2 := Lib.hid (R0.out.trans (Fr.drewN _ d) (fun _ h => by cases h)); have k4 := HC4.out _ R2.out; have X2 := Lib.hid (show Bx w.heap.size 0 0 ⟨#[]⟩ 0 ((w.alloc (.cells #[.int .i64 0, .float .f64 0, .string ⟨#[]⟩, .int .i64 0] 31 (0, 0))).drewN d) from X0.out)))
      | fail)
    obtain ⟨y0, y1, y2, y3⟩ := X2.out.cells
    exact bodyPost_ret (v := .tuple #[.agg #[.int .i64 0, .float .f64 0, .string ⟨#[]⟩, .int .i64 0], .bool false]) (by simp [results, Tryd.results23, go_sem, y0, y1, y2, y3]) rfl ⟨rfl, fr_box R2.out _ _ _ _⟩
  | some v =>
    obtain ⟨ib, rfl, hlt, h4⟩ := HC4S.out v hv
    have H4 := Lib.hid h4
    have hvv : ansV (some v) = .tuple #[.agg #[.int .i64 v.k, .float .f64 v.n, .string (bs v.t), .int .i64 v.r], .bool true] := rfl
    rw [hvv]
    clear HC4S hv hown2 h4 hvv
    generalize o.items.length = LN at *
    generalize v.k = vk at *
    generalize v.n = vn at *
    generalize bs v.t = vT at *
    generalize v.r = vr at *
    generalize bs k = S at *
    have r0 : Fr [] w (w.alloc (.cells #[.int .i64 0, .float .f64 0, .string ⟨#[]⟩, .int .i64 0] 31 (0, 0))) := Fr.alloc _ _
    have R0 := Lib.hid r0
    have x0 := Bx.new 0 0 ⟨#[]⟩ 0 w
    have X0 := Lib.hid x0
    have k0 := HC0.out _ R0.out
    have k1 := HCR.out _ R0.out
    clear r0 x0
    go_enter Tryd.func23, Tryd.ntmps23
    go_wp2_with (first
      | (go_at_call 44; ((with_reducible refine (HHAS.out _ R0.out).mono ?_); rintro e w1 ⟨rfl, rfl⟩))
      | (go_at_call 47; ((with_reducible refine (HISL.out _ R0.out).mono ?_); rintro e w2 ⟨rfl, rfl⟩))
      | (go_at_call 49; ((with_reducible refine (HIDX.out _ R0.out).mono ?_); rintro e w2 ⟨rfl, d, rfl⟩; have R2 := Lib.hid (R0.out.trans (Fr.drewN _ d) (fun _ h => by cases h)); have k4 := HC4.out _ R2.out; obtain ⟨i0, i1, i2, i3⟩ := H4.out _ R2.out; have X2 := Lib.hid (show Bx w.heap.size 0 0 ⟨#[]⟩ 0 ((w.alloc (.cells #[.int .i64 0, .float .f64 0, .string ⟨#[]⟩, .int .i64 0] 31 (0, 0))).drewN d) from X0.out)))
      | fail)
    obtain ⟨y0, y1, y2, y3⟩ := X2.out.cells
    exact bodyPost_ret (v := .tuple #[.agg #[.int .i64 vk, .float .f64 vn, .string vT, .int .i64 vr], .bool true]) (by simp [results, Tryd.results23, go_sem, y0, y1, y2, y3]) rfl ⟨rfl, fr_box R2.out _ _ _ _⟩
/-- Own, of any object. -/
theorem own_any (h : Nat) (A : Hp) (sv : Value) (gs : List Gx) (i : Nat) (o : Ob) (k : List UInt8) (hk : k.length ≤ 140737488355328) (w : World)
    (H : HeapG h A sv gs w) (ho : A.objs[i]? = some o) (hlen : A.objs.length ≤ 10000) (hni : o.items.length ≤ 10000) :
    Calls Tryd.prog 23 #[.pointer (some ⟨h, 0, none⟩), .int .i64 (i : Int), .string (bs k)] w fun e w' => e = .returned (ansV (o.own k)) ∧ Fr [] w w' := by
  have hi : i < gs.length := by
    rw [← H.len]
    rcases Nat.lt_or_ge i A.objs.length with h' | h'
    · exact h'
    · rw [List.getElem?_eq_none h'] at ho; cases ho
  have hg : gs[i]? = some gs[i] := List.getElem?_eq_getElem hi
  by_cases hkl : o.kind = 2 ∧ k = lenB
  · exact own_len h A sv gs i o _ k hk w H ho hg hlen hkl hni
  · cases hx : oIdx o.kind k with
    | none => exact own_props h A sv gs i o _ k hk w H ho hg hlen hkl hx
    | some ix => exact own_item h A sv gs i o _ k hk w H ho hg hlen hkl ix hx hni
theorem own_lost (h : Nat) (A : Hp) (sv : Value) (gs : List Gx) (i : Int) (S : ByteArray) (w : World) (H : HeapG h A sv gs w) (hi : i < 0 ∨ (A.objs.length : Int) ≤ i) :
    Calls Tryd.prog 23 #[.pointer (some ⟨h, 0, none⟩), .int .i64 i, .string S] w fun e w' => e = .returned (ansV none) ∧ Fr [] w w' := by
  obtain ⟨p, cap, hsv⟩ := row_slice H.row
  have hlen := H.len
  subst hsv
  have hhas : ∀ W, Fr [] w W → Calls Tryd.prog 44 #[.pointer (some ⟨h, 0, none⟩), .int .i64 i] W fun e w' => e = .returned (.bool false) ∧ W = w' := by
    intro W hW
    refine (has_any h p gs.length cap A.left i W (H.fr hW).hp).mono ?_
    rintro e w' ⟨rfl, rfl⟩
    refine ⟨ret_bool ?_, rfl⟩
    rw [Bool.and_eq_false_iff, decide_eq_false_iff_not, decide_eq_false_iff_not]
    omega
  have HHAS := Lib.hid hhas
  have hst := store_float
  have r0 : Fr [] w (w.alloc (.cells #[.int .i64 0, .float .f64 0, .string ⟨#[]⟩, .int .i64 0] 31 (0, 0))) := Fr.alloc _ _
  have R0 := Lib.hid r0
  clear r0 hhas H hi hlen
  go_enter Tryd.func23, Tryd.ntmps23
  go_wp2_with (first
    | (go_at_call 44; ((with_reducible refine (HHAS.out _ R0.out).mono ?_); rintro e w1 ⟨rfl, rfl⟩))
    | fail)
  exact bodyPost_ret (v := .tuple #[.agg #[.int .i64 0, .float .f64 0, .string ⟨#[]⟩, .int .i64 0], .bool false]) (by simp [results, Tryd.results23, go_sem]) rfl ⟨rfl, R0.out⟩
end Go.Proofs.YtmhoebbdapjpeaaDoor
