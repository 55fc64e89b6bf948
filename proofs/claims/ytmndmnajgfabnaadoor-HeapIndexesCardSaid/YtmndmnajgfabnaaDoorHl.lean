/- Layer 8: Put at objects that are no arrays. Conditions: those that each theorem names. -/
import Derived.Test.YtmndmnajgfabnaaDoorHk
namespace Go.Proofs.YtmndmnajgfabnaaDoor
open Go.RowKit Go.Maps
set_option linter.all false

/-- What a call makes of a heap. -/
structure Step (h : Nat) (A' : Hp) (O : List Nat) (w w' : World) : Prop where
  ex : ∃ O', HeapAt h A' O' w' ∧ ∀ b ∈ O', b ∈ O ∨ w.heap.size ≤ b
  fr : Fr O w w'
theorem Step.same {h : Nat} {A : Hp} {O : List Nat} {w w' : World} (H : HeapAt h A O w) (hf : Fr [] w w') : Step h A O w w' := ⟨⟨O, H.fr hf, fun _ hb => Or.inl hb⟩, hf.mono (fun _ hb => by cases hb)⟩
theorem Step.pre {h : Nat} {A' : Hp} {O : List Nat} {w w1 w' : World} (hf : Fr [] w w1) (S : Step h A' O w1 w') : Step h A' O w w' := by
  obtain ⟨⟨O', h1, h2⟩, h3⟩ := S
  exact ⟨⟨O', h1, fun b hb => (h2 b hb).imp id (fun h => Nat.le_trans hf.size h)⟩, (hf.mono (fun _ hb => by cases hb)).trans h3 (fun _ hb => Or.inl hb)⟩
theorem Fr.below0 {w w' : World} (h : Fr [] w w') : Below w.heap.size w w' := h.below (Nat.le_refl _) (fun _ hb => by cases hb)
theorem Fr.drewN (w : World) (n : Nat) : Fr [] w (w.drewN n) := ⟨rfl, rfl, rfl, Nat.le_refl _, fun _ _ _ => rfl⟩
theorem HeapG.obj {h : Nat} {A : Hp} {sv : Value} {gs : List Gx} {w : World} (H : HeapG h A sv gs w) {i : Nat} {g : Gx} (hg : gs[i]? = some g) :
    ∃ gb cap, sv = .slice (some ⟨gb, 0, none⟩) gs.length cap ∧ w.cell? ⟨gb, i, none⟩ = some (.pointer (some ⟨g.blk, 0, none⟩)) ∧ gb ∈ allBlocks h sv gs ∧ i < gs.length := by
  have hi : i < gs.length := by
    rcases Nat.lt_or_ge i gs.length with h | h
    · exact h
    · rw [List.getElem?_eq_none h] at hg; cases hg
  obtain ⟨_, h2 | ⟨gb, cap, cur, hv, _⟩⟩ := H.row
  · omega
  · refine ⟨gb, cap, hv, ?_, ?_, hi⟩
    · have := H.row.cells (g := gb) (by rw [hv]; rfl) i (.pointer (some ⟨g.blk, 0, none⟩)) (by rw [List.getElem?_map, hg]; rfl)
      simp only [Addr.add] at this
      by_cases h0 : i = 0
      · subst h0; simpa using this
      · rw [if_neg h0] at this; simpa using this
    · unfold allBlocks
      rw [hv]
      simp [Value.ownBlock]
theorem list_split {α : Type} {l : List α} {i : Nat} {x : α} (h : l[i]? = some x) : ∃ l1 l2, l = l1 ++ x :: l2 ∧ l1.length = i := by
  have hi : i < l.length := by
    rcases Nat.lt_or_ge i l.length with h' | h'
    · exact h'
    · rw [List.getElem?_eq_none h'] at h; cases h
  refine ⟨l.take i, l.drop (i + 1), ?_, by rw [List.length_take]; omega⟩
  have : x = l[i] := by rw [List.getElem?_eq_getElem hi] at h; cases h; rfl
  rw [this]
  exact (List.take_append_drop i l).symm.trans (by rw [List.drop_eq_getElem_cons hi])
theorem set_split {α : Type} {l1 l2 : List α} {x y : α} : (l1 ++ x :: l2).set l1.length y = l1 ++ y :: l2 := by
  rw [List.set_append_right _ _ (Nat.le_refl _), Nat.sub_self]; rfl
/-- What a change of one object makes of a heap. -/
theorem HeapG.step {h : Nat} {A : Hp} {sv : Value} {gs : List Gx} {w w' : World} {i : Nat} {o o' : Ob} {g : Gx} {left' : Nat} (H : HeapG h A sv gs w) (ho : A.objs[i]? = some o) (hg : gs[i]? = some g) (U : Upd h sv g o' (left' : Int) w w') :
    Step h ⟨A.objs.set i o', left'⟩ (allBlocks h sv gs) w w' := by
  obtain ⟨o1, o2, hos, rfl⟩ := list_split ho
  obtain ⟨g1, g2, rfl, hl⟩ := list_split hg
  obtain ⟨gs', h1, h2⟩ := H.upd hos hl.symm U
  refine ⟨⟨allBlocks h sv gs', ⟨sv, gs', ?_, rfl⟩, h2⟩, ?_⟩
  · rw [hos, set_split]; exact h1
  · refine U.fr.mono (fun b hb => Or.inl ?_)
    unfold allBlocks
    rcases List.mem_cons.1 hb with rfl | hb
    · exact List.mem_append_left _ List.mem_cons_self
    · exact List.mem_append_right _ (List.mem_flatMap.2 ⟨g, by simp, hb⟩)
theorem HeapG.apart_h {h : Nat} {A : Hp} {sv : Value} {gs : List Gx} {w : World} (H : HeapG h A sv gs w) {i : Nat} {g : Gx} (hg : gs[i]? = some g) : h ∉ g.blocks := by
  intro hm
  have := H.apart
  unfold allBlocks at this
  rw [List.cons_append, List.nodup_cons] at this
  exact this.1 (List.mem_append_right _ (List.mem_flatMap.2 ⟨g, List.mem_of_getElem? hg, hm⟩))
theorem HeapG.lt_g {h : Nat} {A : Hp} {sv : Value} {gs : List Gx} {w : World} (H : HeapG h A sv gs w) {i : Nat} {g : Gx} (hg : gs[i]? = some g) : ∀ x ∈ g.blocks, x < w.heap.size := by
  intro x hx
  apply H.lt
  unfold allBlocks
  exact List.mem_append_right _ (List.mem_flatMap.2 ⟨g, List.mem_of_getElem? hg, hx⟩)
theorem HeapG.lt_h {h : Nat} {A : Hp} {sv : Value} {gs : List Gx} {w : World} (H : HeapG h A sv gs w) : h < w.heap.size := H.lt h (by simp [allBlocks])
/-- An own property is put. -/
def Hp.putOwn (A : Hp) (i : Nat) (o : Ob) (k : List UInt8) (v : V) : Int × Hp :=
  if hasP o.props k = true then (0, ⟨A.objs.set i { o with props := setP o.props k v }, A.left⟩) else
  match A.left with
  | 0 => (112, A)
  | n + 1 => (0, ⟨A.objs.set i { o with props := o.props ++ [(k, v)] }, n⟩)
theorem putOwn_any (h : Nat) (A : Hp) (sv : Value) (gs : List Gx) (i : Nat) (o : Ob) (g : Gx) (k : List UInt8) (hk : k.length ≤ maxLen) (vk : Int) (vn : Nat) (vt : List UInt8) (vr : Int) (w : World)
    (H : HeapG h A sv gs w) (ho : A.objs[i]? = some o) (hg : gs[i]? = some g) (hleft : A.left ≤ 10000) (hn : o.props.length < maxLen) :
    Calls Tryd.prog 51 #[.pointer (some ⟨h, 0, none⟩), .pointer (some ⟨g.blk, 0, none⟩), .string (bs k), .agg #[.int .i64 vk, .float .f64 vn, .string (bs vt), .int .i64 vr]] w fun e w' =>
      e = .returned (.int .i64 (A.putOwn i o k ⟨vk, vn, vt, vr⟩).1) ∧ Step h (A.putOwn i o k ⟨vk, vn, vt, vr⟩).2 (allBlocks h sv gs) w w' := by
  have hob := H.obs i o g ho hg
  have hlt := H.lt_g hg
  have hgh := H.apart_h hg
  unfold Hp.putOwn
  cases hp : hasP o.props k with
  | true =>
    rw [if_pos rfl]
    refine (putOwn_old h sv A.left o g k hk vk vn vt vr w H.hp hgh hob hlt hp).mono ?_
    rintro e w' ⟨rfl, hU⟩
    exact ⟨rfl, H.step ho hg hU⟩
  | false =>
    rw [if_neg (by simp)]
    obtain ⟨objs, left⟩ := A
    cases left with
    | zero =>
      refine (putOwn_full h sv o g k hk vk vn (bs vt) vr w H.hp hob hlt hp).mono ?_
      rintro e w' ⟨rfl, hb⟩
      exact ⟨rfl, Step.same ⟨sv, gs, H, rfl⟩ (.of_below hb)⟩
    | succ n =>
      refine (putOwn_new h sv n (by have : n + 1 ≤ 10000 := hleft; omega) o g k hk vk vn vt vr w H.hp hgh hob hlt hp hn).mono ?_
      rintro e w' ⟨rfl, hU⟩
      exact ⟨rfl, H.step ho hg hU⟩
set_option maxRecDepth 100000 in
set_option maxHeartbeats 1000000 in
theorem put_plain (h : Nat) (A : Hp) (sv : Value) (gs : List Gx) (i : Nat) (o : Ob) (g : Gx) (k : List UInt8) (hk : k.length ≤ 140737488355328) (vk : Int) (vn : Nat) (vt : List UInt8) (ht : vt.length ≤ maxLen) (vr : Int) (w : World)
    (H : HeapG h A sv gs w) (ho : A.objs[i]? = some o) (hg : gs[i]? = some g) (hleft : A.left ≤ 10000) (hlen : A.objs.length ≤ 10000) (hn : o.props.length < maxLen) (hkind : o.kind ≠ 2) (hv : rightV A.objs.length ⟨vk, vn, vt, vr⟩ = true) :
    Calls Tryd.prog 18 #[.pointer (some ⟨h, 0, none⟩), .int .i64 (i : Int), .string (bs k), .agg #[.int .i64 vk, .float .f64 vn, .string (bs vt), .int .i64 vr]] w fun e w' =>
      e = .returned (.int .i64 (A.putOwn i o k ⟨vk, vn, vt, vr⟩).1) ∧ Step h (A.putOwn i o k ⟨vk, vn, vt, vr⟩).2 (allBlocks h sv gs) w w' := by
  obtain ⟨gb, cap, hsv, hcell, hgbm, hi⟩ := H.obj hg
  have hlen' := H.len
  have hmx : k.length ≤ maxLen := Nat.le_trans hk (by decide)
  subst hsv
  -- the calls, at any world that only grew
  have hhas : ∀ W, Fr [] w W → Calls Tryd.prog 44 #[.pointer (some ⟨h, 0, none⟩), .int .i64 (i : Int)] W fun e w' => e = .returned (.bool true) ∧ W = w' := by
    intro W hW
    refine (has_any h _ gs.length cap A.left (i : Int) W (H.fr hW).hp).mono ?_
    rintro e w' ⟨rfl, rfl⟩
    exact ⟨ret_bool (by simp; omega), rfl⟩
  have hright : ∀ W, Fr [] w W → Calls Tryd.prog 46 #[.pointer (some ⟨h, 0, none⟩), .agg #[.int .i64 vk, .float .f64 vn, .string (bs vt), .int .i64 vr]] W fun e w' => e = .returned (.bool true) ∧ Below W.heap.size W w' := by
    intro W hW
    refine (isRight_any h _ gs.length cap A.left vk vn vt ht vr W (H.fr hW).hp).mono ?_
    rintro e w' ⟨rfl, hb⟩
    exact ⟨by rw [← hlen', hv], hb⟩
  have hblk : ∀ W, Fr [] w W → W.cell? ⟨g.blk, 0, none⟩ = some (.int .i64 o.kind) := fun W hW => blk_cell ((H.fr hW).obs i o g ho hg).blk 0 _ rfl
  have hisl : ∀ W, Fr [] w W → Calls Tryd.prog 47 #[.pointer (some ⟨g.blk, 0, none⟩), .string (bs k)] W fun e w' => e = .returned (.bool false) ∧ W = w' := by
    intro W hW
    refine (isLength_any g.blk o.kind k W (hblk W hW)).mono ?_
    rintro e w' ⟨rfl, rfl⟩
    exact ⟨by rw [decide_eq_false hkind, Bool.false_and], rfl⟩
  have hidx : ∀ W, Fr [] w W → Calls Tryd.prog 49 #[.pointer (some ⟨g.blk, 0, none⟩), .string (bs k)] W fun e w' => e = .returned (.tuple #[.int .i64 0, .bool false]) ∧ ∃ d, w' = W.drewN d := by
    intro W hW
    refine (oIndex_any g.blk o.kind k hk W (hblk W hW)).mono ?_
    rintro e w' ⟨rfl, hd⟩
    exact ⟨by unfold oIdx; rw [if_neg hkind]; rfl, hd⟩
  obtain ⟨er, A', hA'⟩ : ∃ er A', A.putOwn i o k ⟨vk, vn, vt, vr⟩ = (er, A') := ⟨_, _, rfl⟩
  have hput : ∀ W, Fr [] w W → Calls Tryd.prog 51 #[.pointer (some ⟨h, 0, none⟩), .pointer (some ⟨g.blk, 0, none⟩), .string (bs k), .agg #[.int .i64 vk, .float .f64 vn, .string (bs vt), .int .i64 vr]] W fun e w' =>
      e = .returned (.int .i64 er) ∧ Step h A' (allBlocks h (.slice (some ⟨gb, 0, none⟩) gs.length cap) gs) w w' := by
    intro W hW
    refine (putOwn_any h A _ gs i o g k hmx vk vn vt vr W (H.fr hW) ho hg hleft hn).mono ?_
    rintro e w' ⟨rfl, hS⟩
    rw [hA'] at hS
    exact ⟨by rw [hA'], Step.pre hW hS⟩
  rw [hA']
  have hc0 : ∀ W, Fr [] w W → W.cell? ⟨h, 0, none⟩ = some (.slice (some ⟨gb, 0, none⟩) gs.length cap) := fun W hW => (H.fr hW).hp.c0
  have hcr : ∀ W, Fr [] w W → W.cell? ⟨gb, i, none⟩ = some (.pointer (some ⟨g.blk, 0, none⟩)) := fun W hW => (hW.cell (H.lt gb hgbm) List.not_mem_nil i).trans hcell
  have hin : gs.length ≤ 10000 := by omega
  have HHAS := Lib.hid hhas
  have HR := Lib.hid hright
  have HISL := Lib.hid hisl
  have HIDX := Lib.hid hidx
  have HPUT := Lib.hid hput
  have HC0 := Lib.hid hc0
  have HCR := Lib.hid hcr
  have hst := store_float
  obtain ⟨G, hG⟩ : ∃ G, G = gs.length := ⟨_, rfl⟩
  rw [← hG] at hin hi
  generalize hO : allBlocks h (.slice (some ⟨gb, 0, none⟩) gs.length cap) gs = O at *
  rw [← hG] at HC0
  generalize g.blk = b at *
  clear hG hO hhas hright hisl hidx hput hc0 hcr hblk hA' hv hkind hn hlen hleft ho hg H hcell hgbm hlen' hmx hk ht
  generalize bs k = S at *
  generalize bs vt = T at *
  have r0 : Fr [] w (w.alloc (.cells #[.int .i64 vk, .float .f64 vn, .string T, .int .i64 vr] 31)) := Fr.alloc _ _
  have x0 := Bx.new vk vn T vr w
  have X0 := Lib.hid x0
  have R0 := Lib.hid r0
  clear x0 r0
  go_enter Tryd.func18, Tryd.ntmps18
  go_wp2_with (first
    | (go_at_call 44; ((with_reducible refine (HHAS.out _ R0.out).mono ?_); rintro e w1 ⟨rfl, rfl⟩))
    | (go_at_call 46; ((with_reducible refine (HR.out _ R0.out).mono ?_); rintro e w1 ⟨rfl, hb1⟩; have R1 := Lib.hid (R0.out.trans (Fr.of_below hb1) (fun _ h => by cases h)); have X1 := Lib.hid (X0.out.below hb1); obtain ⟨y0, y1, y2, y3⟩ := X1.out.cells; have k0 := HC0.out _ R1.out; have k1 := HCR.out _ R1.out))
    | (go_at_call 47; ((with_reducible refine (HISL.out _ R1.out).mono ?_); rintro e w2 ⟨rfl, rfl⟩))
    | (go_at_call 49; ((with_reducible refine (HIDX.out _ R1.out).mono ?_); rintro e w2 ⟨rfl, d, rfl⟩; have R2 := Lib.hid (R1.out.trans (Fr.drewN _ d) (fun _ h => by cases h))))
    | (go_at_call 51; ((with_reducible refine (HPUT.out _ R2.out).mono ?_); rintro e w3 ⟨rfl, hS⟩; have HS := Lib.hid hS; clear hS))
    | fail)
  go_ret
  exact ⟨rfl, HS.out⟩
end Go.Proofs.YtmndmnajgfabnaaDoor
