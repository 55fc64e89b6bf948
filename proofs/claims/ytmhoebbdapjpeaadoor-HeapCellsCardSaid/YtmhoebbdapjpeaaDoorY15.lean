/- Layer 8: Put in whole. Conditions: those that each theorem names. Layer 8: a number's digits, as the document writes them. Conditions: those that each theorem names. Layer 8: a number's digits, as the document writes them. Conditions: those that each theorem names. -/
import Derived.Test.YtmhoebbdapjpeaaDoorY14
import Derived.Test.YtmhoebbdapjpeaaDoorY11
namespace Go.Proofs.YtmhoebbdapjpeaaDoor
open Go.RowKit Go.Maps
set_option linter.all false

set_option maxRecDepth 100000 in
set_option maxHeartbeats 1000000 in
theorem put_len (h : Nat) (A : Hp) (sv : Value) (gs : List Gx) (i : Nat) (o : Ob) (g : Gx) (k : List UInt8) (hk : k.length ≤ 140737488355328) (vk : Int) (vn : Nat) (vt : List UInt8) (ht : vt.length ≤ maxLen) (vr : Int) (w : World)
    (H : HeapG h A sv gs w) (ho : A.objs[i]? = some o) (hg : gs[i]? = some g) (hlen : A.objs.length ≤ 10000) (hkl : o.kind = 2 ∧ k = lenB) (hv : rightV A.objs.length ⟨vk, vn, vt, vr⟩ = true) (er : Int) (A' : Hp)
    (hcall : ∀ W, Fr [] w W → Calls Tryd.prog 48 #[.pointer (some ⟨h, 0, none⟩), .pointer (some ⟨g.blk, 0, none⟩), .agg #[.int .i64 vk, .float .f64 vn, .string (bs vt), .int .i64 vr]] W fun e w' => e = .returned (.int .i64 er) ∧ Step h A' (allBlocks h sv gs) w w') :
    Calls Tryd.prog 18 #[.pointer (some ⟨h, 0, none⟩), .int .i64 (i : Int), .string (bs k), .agg #[.int .i64 vk, .float .f64 vn, .string (bs vt), .int .i64 vr]] w fun e w' => e = .returned (.int .i64 er) ∧ Step h A' (allBlocks h sv gs) w w' := by
  obtain ⟨gb, cap, hsv, hcell, hgbm, hi⟩ := H.obj hg
  have hlen' := H.len
  have hmx : k.length ≤ maxLen := Nat.le_trans hk (by decide)
  subst hsv
  have hhas : ∀ W, Fr [] w W → Calls Tryd.prog 44 #[.pointer (some ⟨h, 0, none⟩), .int .i64 (i : Int)] W fun e w' => e = .returned (.bool true) ∧ W = w' := by
    intro W hW
    refine (has_any h _ gs.length cap A.left (i : Int) W (H.fr hW).hp).mono ?_
    rintro e w' ⟨rfl, rfl⟩
    exact ⟨ret_bool (by simp; omega), rfl⟩
  have hright : ∀ W, Fr [] w W → Calls Tryd.prog 46 #[.pointer (some ⟨h, 0, none⟩), .agg #[.int .i64 vk, .float .f64 vn, .string (bs vt), .int .i64 vr]] W fun e w' => e = .returned (.bool true) ∧ Below W.heap.size W w' := by
    intro W hW
    refine (isRight_any h _ gs.length cap A.left vk vn vt ht vr W (H.fr hW).hp).mono ?_
    rintro e w' ⟨rfl, hb⟩
    exact ⟨by rw [← hlen', hv], hb⟩
  have hblk : ∀ W, Fr [] w W → W.cell? ⟨g.blk, 0, none⟩ = some (.int .i64 o.kind) := fun W hW => blk_cell ((H.fr hW).obs i o g ho hg).blk 0 _ rfl
  have hisl : ∀ W, Fr [] w W → Calls Tryd.prog 47 #[.pointer (some ⟨g.blk, 0, none⟩), .string (bs k)] W fun e w' => e = .returned (.bool true) ∧ W = w' := by
    intro W hW
    refine (isLength_any g.blk o.kind k W (hblk W hW)).mono ?_
    rintro e w' ⟨rfl, rfl⟩
    refine ⟨ret_bool ?_, rfl⟩
    rw [decide_eq_true hkl.1, decide_eq_true hkl.2]; rfl
  have hc0 : ∀ W, Fr [] w W → W.cell? ⟨h, 0, none⟩ = some (.slice (some ⟨gb, 0, none⟩) gs.length cap) := fun W hW => (H.fr hW).hp.c0
  have hcr : ∀ W, Fr [] w W → W.cell? ⟨gb, i, none⟩ = some (.pointer (some ⟨g.blk, 0, none⟩)) := fun W hW => (hW.cell (H.lt gb hgbm) List.not_mem_nil i).trans hcell
  have hin : gs.length ≤ 10000 := by omega
  have HHAS := Lib.hid hhas
  have HR := Lib.hid hright
  have HISL := Lib.hid hisl
  have HPUT := Lib.hid hcall
  have HC0 := Lib.hid hc0
  have HCR := Lib.hid hcr
  have hst := store_float
  obtain ⟨G, hG⟩ : ∃ G, G = gs.length := ⟨_, rfl⟩
  rw [← hG] at hin hi
  generalize hO : allBlocks h (.slice (some ⟨gb, 0, none⟩) gs.length cap) gs = O at *
  rw [← hG] at HC0
  generalize g.blk = b at *
  clear hG hO hhas hright hisl hcall hc0 hcr hblk hv hkl hlen ho hg H hcell hgbm hlen' hmx hk ht
  generalize bs k = S at *
  generalize bs vt = T at *
  have r0 : Fr [] w (w.alloc (.cells #[.int .i64 vk, .float .f64 vn, .string T, .int .i64 vr] 31)) := Fr.alloc _ _
  have x0 := Bx.new vk vn T vr w
  have X0 := Lib.hid x0
  have R0 := Lib.hid r0
  clear x0 r0
  go_enter Tryd.func18, Tryd.ntmps18
  go_wp2_with (first
    | (go_at_call 44; ((with_reducible refine (HHAS.out _ R0.out).mono ?_); rintro e w1 ⟨rfl, rfl⟩))
    | (go_at_call 46; ((with_reducible refine (HR.out _ R0.out).mono ?_); rintro e w1 ⟨rfl, hb1⟩; have R1 := Lib.hid (R0.out.trans (Fr.of_below hb1) (fun _ h => by cases h)); have X1 := Lib.hid (X0.out.below hb1); obtain ⟨y0, y1, y2, y3⟩ := X1.out.cells; have k0 := HC0.out _ R1.out; have k1 := HCR.out _ R1.out))
    | (go_at_call 47; ((with_reducible refine (HISL.out _ R1.out).mono ?_); rintro e w2 ⟨rfl, rfl⟩))
    | (go_at_call 48; ((with_reducible refine (HPUT.out _ R1.out).mono ?_); rintro e w3 ⟨rfl, hS⟩; have HS := Lib.hid hS; clear hS))
    | fail)
  go_ret
  exact ⟨rfl, HS.out⟩
set_option maxRecDepth 100000 in
set_option maxHeartbeats 1000000 in
theorem put_idx (h : Nat) (A : Hp) (sv : Value) (gs : List Gx) (i : Nat) (o : Ob) (g : Gx) (k : List UInt8) (hk : k.length ≤ 140737488355328) (vk : Int) (vn : Nat) (vt : List UInt8) (ht : vt.length ≤ maxLen) (vr : Int) (w : World)
    (H : HeapG h A sv gs w) (ho : A.objs[i]? = some o) (hg : gs[i]? = some g) (hlen : A.objs.length ≤ 10000) (hkl : ¬ (o.kind = 2 ∧ k = lenB)) (j : Nat) (hki : oIdx o.kind k = some j) (hv : rightV A.objs.length ⟨vk, vn, vt, vr⟩ = true) (er : Int) (A' : Hp)
    (hcall : ∀ W, Fr [] w W → Calls Tryd.prog 50 #[.pointer (some ⟨h, 0, none⟩), .pointer (some ⟨g.blk, 0, none⟩), .int .i64 (j : Int), .agg #[.int .i64 vk, .float .f64 vn, .string (bs vt), .int .i64 vr]] W fun e w' => e = .returned (.int .i64 er) ∧ Step h A' (allBlocks h sv gs) w w') :
    Calls Tryd.prog 18 #[.pointer (some ⟨h, 0, none⟩), .int .i64 (i : Int), .string (bs k), .agg #[.int .i64 vk, .float .f64 vn, .string (bs vt), .int .i64 vr]] w fun e w' => e = .returned (.int .i64 er) ∧ Step h A' (allBlocks h sv gs) w w' := by
  obtain ⟨gb, cap, hsv, hcell, hgbm, hi⟩ := H.obj hg
  have hlen' := H.len
  have hmx : k.length ≤ maxLen := Nat.le_trans hk (by decide)
  subst hsv
  have hhas : ∀ W, Fr [] w W → Calls Tryd.prog 44 #[.pointer (some ⟨h, 0, none⟩), .int .i64 (i : Int)] W fun e w' => e = .returned (.bool true) ∧ W = w' := by
    intro W hW
    refine (has_any h _ gs.length cap A.left (i : Int) W (H.fr hW).hp).mono ?_
    rintro e w' ⟨rfl, rfl⟩
    exact ⟨ret_bool (by simp; omega), rfl⟩
  have hright : ∀ W, Fr [] w W → Calls Tryd.prog 46 #[.pointer (some ⟨h, 0, none⟩), .agg #[.int .i64 vk, .float .f64 vn, .string (bs vt), .int .i64 vr]] W fun e w' => e = .returned (.bool true) ∧ Below W.heap.size W w' := by
    intro W hW
    refine (isRight_any h _ gs.length cap A.left vk vn vt ht vr W (H.fr hW).hp).mono ?_
    rintro e w' ⟨rfl, hb⟩
    exact ⟨by rw [← hlen', hv], hb⟩
  have hblk : ∀ W, Fr [] w W → W.cell? ⟨g.blk, 0, none⟩ = some (.int .i64 o.kind) := fun W hW => blk_cell ((H.fr hW).obs i o g ho hg).blk 0 _ rfl
  have hisl : ∀ W, Fr [] w W → Calls Tryd.prog 47 #[.pointer (some ⟨g.blk, 0, none⟩), .string (bs k)] W fun e w' => e = .returned (.bool false) ∧ W = w' := by
    intro W hW
    refine (isLength_any g.blk o.kind k W (hblk W hW)).mono ?_
    rintro e w' ⟨rfl, rfl⟩
    refine ⟨ret_bool ?_, rfl⟩
    rw [Bool.and_eq_false_iff, decide_eq_false_iff_not, decide_eq_false_iff_not]
    by_cases h2 : o.kind = 2
    · exact Or.inr (fun e => hkl ⟨h2, e⟩)
    · exact Or.inl h2
  have hidx : ∀ W, Fr [] w W → Calls Tryd.prog 49 #[.pointer (some ⟨g.blk, 0, none⟩), .string (bs k)] W fun e w' => e = .returned (.tuple #[.int .i64 (j : Int), .bool true]) ∧ ∃ d, w' = W.drewN d := by
    intro W hW
    refine (oIndex_any g.blk o.kind k hk W (hblk W hW)).mono ?_
    rintro e w' ⟨rfl, hd⟩
    exact ⟨by rw [hki]; rfl, hd⟩
  have HIDX := Lib.hid hidx
  have hc0 : ∀ W, Fr [] w W → W.cell? ⟨h, 0, none⟩ = some (.slice (some ⟨gb, 0, none⟩) gs.length cap) := fun W hW => (H.fr hW).hp.c0
  have hcr : ∀ W, Fr [] w W → W.cell? ⟨gb, i, none⟩ = some (.pointer (some ⟨g.blk, 0, none⟩)) := fun W hW => (hW.cell (H.lt gb hgbm) List.not_mem_nil i).trans hcell
  have hin : gs.length ≤ 10000 := by omega
  have HHAS := Lib.hid hhas
  have HR := Lib.hid hright
  have HISL := Lib.hid hisl
  have HPUT := Lib.hid hcall
  have HC0 := Lib.hid hc0
  have HCR := Lib.hid hcr
  have hst := store_float
  obtain ⟨G, hG⟩ : ∃ G, G = gs.length := ⟨_, rfl⟩
  rw [← hG] at hin hi
  generalize hO : allBlocks h (.slice (some ⟨gb, 0, none⟩) gs.length cap) gs = O at *
  rw [← hG] at HC0
  generalize g.blk = b at *
  clear hG hO hhas hright hisl hcall hc0 hcr hblk hv hkl hki hidx hlen ho hg H hcell hgbm hlen' hmx hk ht
  generalize bs k = S at *
  generalize bs vt = T at *
  have r0 : Fr [] w (w.alloc (.cells #[.int .i64 vk, .float .f64 vn, .string T, .int .i64 vr] 31)) := Fr.alloc _ _
  have x0 := Bx.new vk vn T vr w
  have X0 := Lib.hid x0
  have R0 := Lib.hid r0
  clear x0 r0
  go_enter Tryd.func18, Tryd.ntmps18
  go_wp2_with (first
    | (go_at_call 44; ((with_reducible refine (HHAS.out _ R0.out).mono ?_); rintro e w1 ⟨rfl, rfl⟩))
    | (go_at_call 46; ((with_reducible refine (HR.out _ R0.out).mono ?_); rintro e w1 ⟨rfl, hb1⟩; have R1 := Lib.hid (R0.out.trans (Fr.of_below hb1) (fun _ h => by cases h)); have X1 := Lib.hid (X0.out.below hb1); obtain ⟨y0, y1, y2, y3⟩ := X1.out.cells; have k0 := HC0.out _ R1.out; have k1 := HCR.out _ R1.out))
    | (go_at_call 47; ((with_reducible refine (HISL.out _ R1.out).mono ?_); rintro e w2 ⟨rfl, rfl⟩))
    | (go_at_call 49; ((with_reducible refine (HIDX.out _ R1.out).mono ?_); rintro e w2 ⟨rfl, d, rfl⟩; have R2 := Lib.hid (R1.out.trans (Fr.drewN _ d) (fun _ h => by cases h))))
    | (go_at_call 50; ((with_reducible refine (HPUT.out _ R2.out).mono ?_); rintro e w3 ⟨rfl, hS⟩; have HS := Lib.hid hS; clear hS))
    | fail)
  go_ret
  exact ⟨rfl, HS.out⟩
theorem idx_max {k : List UInt8} {j : Nat} {kind : Int} (h : oIdx kind k = some j) : j ≤ 2147483647 := by
  unfold oIdx at h
  split at h
  · exact idx_lt h
  · cases h
/-- An item is put. -/
def putI (l : List V) (j : Nat) (v : V) : List V := if j < l.length then l.set j v else (l ++ List.replicate (j + 1 - l.length) V.zero).set j v
/-- Put, whatever it is of. -/
def Hp.put (A : Hp) (i : Int) (k : List UInt8) (v : V) : Int × Hp :=
  if 0 ≤ i then (match A.objs[i.toNat]? with
    | none => (3, A)
    | some o =>
      if rightV A.objs.length v = true then
        if o.kind = 2 ∧ k = lenB then
          (if v.k = 3 then (match lenF v.n with
            | some m => if A.left + o.items.length < m then (112, A) else (0, ⟨A.objs.set i.toNat { o with items := lenItems o.items m }, A.left + o.items.length - m⟩)
            | none => (1, A)) else (1, A))
        else (match oIdx o.kind k with
          | some j => if j < o.items.length then (0, ⟨A.objs.set i.toNat { o with items := putI o.items j v }, A.left⟩)
            else if A.left ≤ j - o.items.length then (112, A) else (0, ⟨A.objs.set i.toNat { o with items := putI o.items j v }, A.left - (j + 1 - o.items.length)⟩)
          | none => A.putOwn i.toNat o k v)
      else (1, A))
  else (3, A)
set_option maxHeartbeats 1000000 in
theorem put_all (h : Nat) (A : Hp) (sv : Value) (gs : List Gx) (i : Int) (k : List UInt8) (hk : k.length ≤ 140737488355328) (vk : Int) (vn : Nat) (vt : List UInt8) (ht : vt.length ≤ maxLen) (vr : Int) (w : World) (H : HeapG h A sv gs w) (F : A.Few) :
    Calls Tryd.prog 18 #[.pointer (some ⟨h, 0, none⟩), .int .i64 i, .string (bs k), .agg #[.int .i64 vk, .float .f64 vn, .string (bs vt), .int .i64 vr]] w fun e w' => e = .returned (.int .i64 (A.put i k ⟨vk, vn, vt, vr⟩).1) ∧ Step h (A.put i k ⟨vk, vn, vt, vr⟩).2 (allBlocks h sv gs) w w' := by
  have same : ∀ W, Fr [] w W → Step h A (allBlocks h sv gs) w W := fun W hW => Step.same ⟨sv, gs, H, rfl⟩ hW
  have hhl := H.lt_h
  unfold Hp.put
  by_cases hi : 0 ≤ i
  rotate_left
  · rw [if_neg hi]
    refine (put_lost h A sv gs i (bs k) vk vn (bs vt) vr w H F.objs (by omega)).mono ?_
    rintro e w' ⟨rfl, hf⟩
    exact ⟨rfl, same w' hf⟩
  rw [if_pos hi]
  obtain ⟨n, rfl⟩ : ∃ n : Nat, i = n := ⟨i.toNat, by omega⟩
  rw [Int.toNat_natCast]
  cases ho : A.objs[n]? with
  | none =>
    simp only
    refine (put_lost h A sv gs n (bs k) vk vn (bs vt) vr w H F.objs ?_).mono ?_
    · rintro ⟨_, hlt⟩
      rw [List.getElem?_eq_getElem (by omega)] at ho
      cases ho
    · rintro e w' ⟨rfl, hf⟩
      exact ⟨rfl, same w' hf⟩
  | some o =>
    simp only
    have hn0 := lt_of_getElem ho
    obtain ⟨g, hg⟩ : ∃ g, gs[n]? = some g := ⟨gs[n]'(by rw [← H.len]; exact hn0), List.getElem?_eq_getElem _⟩
    have hob := H.obs n o g ho hg
    have hgh := H.apart_h hg
    have hlt := H.lt_g hg
    have hit := F.items n o ho
    have hleft := F.left
    have keep : ∀ W, Fr [] w W → HpC h sv (A.left : Int) W ∧ ObAt o g W ∧ ∀ x ∈ g.blocks, x < W.heap.size := fun W hW =>
      ⟨(hW.block h hhl List.not_mem_nil).trans H.hp, hob.keep (fun b hb => hW.block b (hlt b hb) List.not_mem_nil), fun x hx => Nat.lt_of_lt_of_le (hlt x hx) hW.size⟩
    cases hv : rightV A.objs.length ⟨vk, vn, vt, vr⟩ with
    | false =>
      rw [if_neg (by simp)]
      refine (put_bad h A sv gs n (bs k) vk vn vt ht vr w H F.objs ⟨by omega, by omega⟩ hv).mono ?_
      rintro e w' ⟨rfl, hf⟩
      exact ⟨rfl, same w' hf⟩
    | true =>
      rw [if_pos rfl]
      by_cases hkl : o.kind = 2 ∧ k = lenB
      · rw [if_pos hkl]
        by_cases h3 : vk = 3
        · subst h3
          rw [if_pos rfl]
          cases hl : lenF vn with
          | none =>
            simp only
            refine put_len h A sv gs n o g k hk 3 vn vt ht vr w H ho hg F.objs hkl hv 1 A (fun W hW => ?_)
            refine (putLength_bad h g.blk 3 vn (bs vt) vr W (Or.inr hl)).mono ?_
            rintro e w' ⟨rfl, hf⟩
            exact ⟨rfl, same w' (hW.trans hf (fun _ h => by cases h))⟩
          | some m =>
            simp only
            by_cases hb : A.left + o.items.length < m
            · rw [if_pos hb]
              refine put_len h A sv gs n o g k hk 3 vn vt ht vr w H ho hg F.objs hkl hv 112 A (fun W hW => ?_)
              obtain ⟨q1, q2, q3⟩ := keep W hW
              have := putLength_good h sv A.left o g vn (bs vt) vr m hl hleft hit W q1 hgh q2 q3
              simp only [if_pos hb] at this
              refine this.mono ?_
              rintro e w' ⟨rfl, hf⟩
              exact ⟨rfl, same w' (hW.trans hf (fun _ h => by cases h))⟩
            · rw [if_neg hb]
              refine put_len h A sv gs n o g k hk 3 vn vt ht vr w H ho hg F.objs hkl hv 0 _ (fun W hW => ?_)
              obtain ⟨q1, q2, q3⟩ := keep W hW
              have := putLength_good h sv A.left o g vn (bs vt) vr m hl hleft hit W q1 hgh q2 q3
              simp only [if_neg hb] at this
              refine this.mono ?_
              rintro e w' ⟨rfl, hU⟩
              exact ⟨rfl, Step.pre hW ((H.fr hW).step ho hg hU)⟩
        · rw [if_neg h3]
          refine put_len h A sv gs n o g k hk vk vn vt ht vr w H ho hg F.objs hkl hv 1 A (fun W hW => ?_)
          refine (putLength_bad h g.blk vk vn (bs vt) vr W (Or.inl h3)).mono ?_
          rintro e w' ⟨rfl, hf⟩
          exact ⟨rfl, same w' (hW.trans hf (fun _ h => by cases h))⟩
      · rw [if_neg hkl]
        cases hki : oIdx o.kind k with
        | none =>
          simp only
          exact put_own h A sv gs n o g k hk vk vn vt ht vr w H ho hg hleft F.objs (Nat.lt_of_le_of_lt (F.props n o ho) (by decide)) hkl hki hv
        | some j =>
          simp only
          have hj := idx_max hki
          by_cases hjo : j < o.items.length
          · rw [if_pos hjo]
            refine put_idx h A sv gs n o g k hk vk vn vt ht vr w H ho hg F.objs hkl j hki hv 0 _ (fun W hW => ?_)
            obtain ⟨q1, q2, q3⟩ := keep W hW
            refine (putItem_old h sv A.left o g j hjo hit vk vn vt vr W q1 hgh q2 q3 (Nat.lt_of_lt_of_le hhl hW.size)).mono ?_
            rintro e w' ⟨rfl, hU⟩
            refine ⟨rfl, Step.pre hW ((H.fr hW).step ho hg ?_)⟩
            unfold putI
            rw [if_pos hjo]
            exact hU
          · rw [if_neg hjo]
            by_cases hfull : A.left ≤ j - o.items.length
            · rw [if_pos hfull]
              refine put_idx h A sv gs n o g k hk vk vn vt ht vr w H ho hg F.objs hkl j hki hv 112 A (fun W hW => ?_)
              obtain ⟨q1, q2, q3⟩ := keep W hW
              refine (putItem_full h sv A.left o g j (by omega) hj hfull vk vn (bs vt) vr W q1 q2 q3 (Nat.lt_of_lt_of_le hhl hW.size)).mono ?_
              rintro e w' ⟨rfl, hf⟩
              exact ⟨rfl, same w' (hW.trans hf (fun _ h => by cases h))⟩
            · rw [if_neg hfull]
              refine put_idx h A sv gs n o g k hk vk vn vt ht vr w H ho hg F.objs hkl j hki hv 0 _ (fun W hW => ?_)
              obtain ⟨q1, q2, q3⟩ := keep W hW
              refine (putItem_new h sv A.left o g j (by omega) (by omega) hleft hit vk vn vt vr W q1 hgh q2 q3).mono ?_
              rintro e w' ⟨rfl, hU⟩
              refine ⟨rfl, Step.pre hW ((H.fr hW).step ho hg ?_)⟩
              unfold putI
              rw [if_neg hjo]
              exact hU
end Go.Proofs.YtmhoebbdapjpeaaDoor
namespace Go.Proofs.YtmhoebbdapjpeaaDoor
open Go.RowKit Go.Maps Go.Shelf
set_option linter.all false

theorem dec_digit {m : Nat} : ∀ b ∈ Lib.decDigits m, 48 ≤ b.toNat ∧ b.toNat ≤ 57 := by
  induction m using Nat.strongRecOn with
  | _ m ih =>
    intro b hb
    rw [Lib.decDigits] at hb
    split at hb
    · simp only [List.mem_singleton] at hb
      subst hb
      rw [UInt8.toNat_ofNat']
      omega
    · rw [List.mem_append] at hb
      rcases hb with hb | hb
      · exact ih (m / 10) (by omega) b hb
      · simp only [List.mem_singleton] at hb
        subst hb
        rw [UInt8.toNat_ofNat']
        omega
theorem itoa_plain (n : Int) : ∀ b ∈ Lib.itoa n, b.toNat < 128 := by
  intro b hb
  unfold Lib.itoa at hb
  split at hb
  · rcases List.mem_cons.1 hb with rfl | hb
    · decide
    · have := dec_digit b hb; omega
  · have := dec_digit b hb; omega
theorem scan_plain : ∀ (l : List UInt8), (∀ b ∈ l, b.toNat < 128) → U.scan l = (l.map (·.toNat), l.length)
  | [], _ => rfl
  | a :: l, h => by
    have ha := h a (List.mem_cons_self ..)
    have hd := U.dec_ascii (a :: l) (by simp) (show U.g (a :: l) 0 < 128 from ha)
    rw [U.scan_step _ (by rw [hd]; simp), hd]
    have ih := scan_plain l (fun b hb => h b (List.mem_cons_of_mem _ hb))
    show (U.g (a :: l) 0 :: (U.scan l).1, 1 + (U.scan l).2) = _
    rw [ih]
    show (a.toNat :: l.map (·.toNat), 1 + l.length) = (a.toNat :: l.map (·.toNat), l.length + 1)
    rw [Nat.add_comm]
theorem fm_congr {f g : UInt8 → List UInt8} : ∀ (l : List UInt8), (∀ a ∈ l, f a = g a) → l.flatMap f = l.flatMap g
  | [], _ => rfl
  | a :: l, h => by rw [List.flatMap_cons, List.flatMap_cons, h a (List.mem_cons_self ..), fm_congr l (fun b hb => h b (List.mem_cons_of_mem _ hb))]
theorem wide_plain (l : List UInt8) (h : ∀ b ∈ l, b.toNat < 128) : wideL l = ofB l := by
  have hs := scan_plain l h
  unfold wideL
  rw [if_pos (by unfold full; rw [hs]), hs]
  unfold U.w8 ofB
  rw [List.flatMap_map]
  refine fm_congr l fun b hb => ?_
  have := h b hb
  unfold U.units
  rw [if_pos (by omega)]
  simp
theorem keyB_of (n : Int) : keyB n = ofB (Lib.itoa n) := wide_plain _ (itoa_plain n)
set_option maxHeartbeats 1000000 in
theorem refAt_in (s : ByteArray) (hs : s.size ≤ 140737488355328) (i : Nat) (hi : 2 * i + 1 < s.size) (w : World) :
    Calls Tryd.prog 33 #[.string s, .int .i64 (i : Int)] w fun e w' => e = .returned (.int .i64 (U.unitAt (ls s) i : Nat)) ∧ ∃ n, w' = w.drewN n := by
  have e1 : IntKind.i64.wrap (2 * (i : Int)) = 2 * (i : Int) := IntWalk.i64_in _ (by omega)
  have e2 : IntKind.i64.wrap (2 * (i : Int) + 1) = 2 * (i : Int) + 1 := IntWalk.i64_in _ (by omega)
  have l1 : 0 ≤ 2 * (i : Int) := by omega
  have l2 : 2 * (i : Int) < s.size := by omega
  have l3 : 2 * (i : Int) + 1 < s.size := by omega
  have l4 : 0 ≤ 2 * (i : Int) + 1 := by omega
  have q1 : (2 * (i : Int)).toNat < s.size := by omega
  have q2 : (2 * (i : Int) + 1).toNat < s.size := by omega
  obtain ⟨x, hx⟩ : ∃ x, s[(2 * (i : Int)).toNat] = x := ⟨_, rfl⟩
  obtain ⟨y, hy⟩ : ∃ y, s[(2 * (i : Int) + 1).toNat] = y := ⟨_, rfl⟩
  have hu : Hid (U.unitAt (ls s) i = x.toNat * 256 + y.toNat) := by
    show _ = _
    unfold U.unitAt
    rw [g_at s (2 * i) (by omega), g_at s (2 * i + 1) hi, ← hx, ← hy]
    have a1 : (2 * (i : Int)).toNat = 2 * i := by omega
    have a2 : (2 * (i : Int) + 1).toNat = 2 * i + 1 := by omega
    simp only [a1, a2]
  have x8 := x.toNat_lt
  have y8 := y.toNat_lt
  have w1 : IntKind.i64.wrap (x.toNat : Int) = x.toNat := IntWalk.i64_in _ (by omega)
  have w2 : IntKind.i64.wrap (y.toNat : Int) = y.toNat := IntWalk.i64_in _ (by omega)
  have w3 : IntKind.i64.wrap ((x.toNat : Int) * 256) = (x.toNat : Int) * 256 := IntWalk.i64_in _ (by omega)
  have w4 : IntKind.i64.wrap ((x.toNat : Int) * 256 + (y.toNat : Int)) = (x.toNat : Int) * 256 + (y.toNat : Int) := IntWalk.i64_in _ (by omega)
  have hz : ¬ ((s.size : Int) / 2 - 1 < (i : Int)) := by omega
  have dz : decide ((s.size : Int) / 2 - 1 < (i : Int)) = false := decide_eq_false hz
  go_enter Tryd.func33, Tryd.ntmps33
  go_wp2
  go_quiet (fail)
  go_wp2
  go_ret
  refine ⟨ret_int ?_, _, rfl⟩
  rw [hu.out]
  omega
end Go.Proofs.YtmhoebbdapjpeaaDoor
namespace Go.Proofs.YtmhoebbdapjpeaaDoor
open Go.RowKit Go.Maps Go.Shelf
set_option linter.all false

/-- Still to write: m; written: ds. -/
def DigRel (n : Int) (w : World) (m : Nat) (z : Int) (S : ByteArray) (wr : World) : Prop :=
  z = (if n < 0 then -(m : Int) else (m : Int)) ∧ m ≤ n.natAbs ∧ Fr [] w wr ∧ ∃ ds, S = bs ds ∧ Lib.decDigits m ++ ds = Lib.decDigits n.natAbs
def digC (m : Nat) : List UInt8 := [UInt8.ofNat (48 + m % 10)]
theorem digC_cells (m : Nat) (X : Int) (hX : X = ((48 + m % 10 : Nat) : Int)) : (#[Value.int .u8 X] : Array Value).toList = (digC m).map fun b => Value.int .u8 (b.toNat : Int) := by
  subst hX
  show [Value.int .u8 _] = [Value.int .u8 _]
  rw [UInt8.toNat_ofNat']
  congr 3
  omega
theorem dd_small (m : Nat) (h : m < 10) : Lib.decDigits m = [UInt8.ofNat (48 + m)] := by rw [Lib.decDigits, dif_pos h]
theorem dd_big (m : Nat) (h : ¬ m < 10) : Lib.decDigits m = Lib.decDigits (m / 10) ++ [UInt8.ofNat (48 + m % 10)] := by
  conv => lhs; rw [Lib.decDigits, dif_neg h]
theorem DigRel.size {n : Int} (h0 : -9223372036854775808 ≤ n) (h1 : n ≤ 9223372036854775807) {w : World} {m : Nat} {z : Int} {S : ByteArray} {wr : World} (h : DigRel n w m z S wr) : S.size ≤ 20 := by
  obtain ⟨_, _, _, ds, rfl, hd⟩ := h
  have hl := congrArg List.length hd
  rw [List.length_append, Lib.decDigits_length n.natAbs] at hl
  have := Lib.nDigits_le20 n.natAbs (by omega)
  rw [bs_size]
  omega
theorem DigRel.next {n : Int} {w : World} {m : Nat} {z : Int} {S : ByteArray} {wr W : World} (h : DigRel n w m z S wr) (hF : Fr [] wr W) (h10 : m / 10 ≠ 0) (q : Int) (hq : q = if n < 0 then -((m / 10 : Nat) : Int) else ((m / 10 : Nat) : Int)) : DigRel n w (m / 10) q (bs (digC m) ++ S) W := by
  obtain ⟨_, hm, hf, ds, rfl, hd⟩ := h
  refine ⟨hq, by omega, hf.trans hF (fun _ h => by cases h), digC m ++ ds, bs_append _ _, ?_⟩
  rw [← hd]
  rw [dd_big m (by omega)]
  simp [digC]
theorem DigRel.fin {n : Int} {w : World} {m : Nat} {z : Int} {S : ByteArray} {wr W : World} (h : DigRel n w m z S wr) (hF : Fr [] wr W) (h10 : m / 10 = 0) : bs (digC m) ++ S = bs (Lib.decDigits n.natAbs) ∧ Fr [] w W := by
  obtain ⟨_, hm, hf, ds, rfl, hd⟩ := h
  refine ⟨?_, hf.trans hF (fun _ h => by cases h)⟩
  rw [bs_append, ← hd, dd_small m (by omega)]
  unfold digC
  rw [Nat.mod_eq_of_lt (by omega)]
theorem tm_neg (m : Nat) : (-(m : Int)).tmod 10 = -((m % 10 : Nat) : Int) := by rw [Int.neg_tmod]; rfl
theorem td_neg (m : Nat) : (-(m : Int)).tdiv 10 = -((m / 10 : Nat) : Int) := by rw [Int.neg_tdiv]; rfl
theorem tm_pos (m : Nat) : ((m : Int)).tmod 10 = ((m % 10 : Nat) : Int) := rfl
theorem td_pos (m : Nat) : ((m : Int)).tdiv 10 = ((m / 10 : Nat) : Int) := rfl
set_option maxRecDepth 100000 in
set_option maxHeartbeats 2000000 in
theorem digits_any (n : Int) (h0 : -9223372036854775808 ≤ n) (h1 : n ≤ 9223372036854775807) (w : World) :
    Calls Tryd.prog 36 #[.int .i64 n] w fun e w' => e = .returned (.string (bs (Lib.itoa n))) ∧ Fr [] w w' := by
  have hR0 : DigRel n w n.natAbs n ⟨#[]⟩ w := ⟨by split <;> omega, Nat.le_refl _, Fr.refl _ _, [], rfl, by simp⟩
  have HR0 := Lib.hid hR0
  have HB := Lib.hid (And.intro h0 h1)
  obtain ⟨RR, hRR⟩ : ∃ RR, bs (Lib.itoa n) = RR := ⟨_, rfl⟩
  rw [hRR]
  have HRR := Lib.hid hRR
  clear hRR hR0
  by_cases hn : n < 0
  · have hsg : ∀ A : ByteArray, A = bs (Lib.decDigits n.natAbs) → (⟨#[45]⟩ : ByteArray) ++ A = RR := by
      rintro A rfl
      rw [← HRR.out]
      unfold Lib.itoa
      rw [if_pos hn]
      exact bs_append [45] _
    have HSG := Lib.hid hsg
    have HN := Lib.hid hn
    clear hsg
    go_enter Tryd.func36, Tryd.ntmps36
    go_wp2
    go_loopg [0, 3, 5] n.natAbs (fun m zv sv dv wr => ∃ (z : Int) (T : ByteArray), zv = .int .i64 z ∧ sv = .string T ∧ Hid (DigRel n w m z T wr))
    case atStart => exact ⟨n, ⟨#[]⟩, rfl, rfl, HR0⟩
    case round =>
      obtain ⟨z, T, rfl, rfl, hrl⟩ := hrel
      have hT := hrl.out.size HB.out.1 HB.out.2
      have hz := hrl.out.1
      have hm := hrl.out.2.1
      have hb0 := HB.out
      rw [if_pos HN.out] at hz
      have hr : z.tmod 10 = -((gk % 10 : Nat) : Int) := by rw [hz]; exact tm_neg gk
      have hq : z.tdiv 10 = -((gk / 10 : Nat) : Int) := by rw [hz]; exact td_neg gk
      have hqh : Hid (z.tdiv 10 = if n < 0 then -((gk / 10 : Nat) : Int) else ((gk / 10 : Nat) : Int)) := Lib.hid (by rw [if_pos HN.out]; exact hq)
      have c0 : -9223372036854775808 ≤ z := by omega
      have c1 : z ≤ 9223372036854775807 := by omega
      by_cases hr9 : z.tmod 10 < 0
      · have r1 : -9 ≤ z.tmod 10 := by omega
        have hb := fun W => conv_list W (digC gk) #[.int .u8 (48 + -z.tmod 10)] (digC_cells gk _ (by omega))
        rw [show (digC gk).length = 1 from rfl] at hb
        have hN2 := fun W (hF : Fr [] wr W) h10 => hrl.out.next (W := W) hF h10 _ hqh.out
        have hF2 := fun W (hF : Fr [] wr W) h10 => hrl.out.fin (W := W) hF h10
        have hBs : (bs (digC gk)).size = 1 := rfl
        have hb2 : ∀ W : World, (convert 105 9 (.slice (some ⟨W.heap.size, 0, none⟩) 1 1)).run Tryd.prog (W.alloc (.cells #[.int .u8 (48 + -z.tmod 10)] 5)) = .ok (.string (bs (digC gk))) (W.alloc (.cells #[.int .u8 (48 + -z.tmod 10)] 5)) := hb
        clear hb
        obtain ⟨B, hB⟩ : ∃ B, B = bs (digC gk) := ⟨_, rfl⟩
        rw [← hB] at hb2 hBs
        rw [← hB] at hN2 hF2
        clear hB
        have s1 : ¬ (B.size + T.size > 9223372036854775807) := by omega
        have HN2 := Lib.hid hN2
        have HF2 := Lib.hid hF2
        have q1 : -9223372036854775808 ≤ z.tdiv 10 := by omega
        have q2 : z.tdiv 10 ≤ 9223372036854775807 := by omega
        have hqd : gk / 10 = 0 → z.tdiv 10 = 0 := fun h => by omega
        have hqe : gk / 10 ≠ 0 → (z.tdiv 10 == 0) = false := fun h => by rw [beq_eq_false_iff_ne]; omega
        clear hN2 hF2 hrl hz hm hb0 hr hq hqh
        by_cases h10 : gk / 10 = 0
        · have q0 : z.tdiv 10 = 0 := hqd h10
          have H10 := Lib.hid h10
          have s2 : ¬ ((⟨#[45]⟩ : ByteArray).size + (B ++ T).size > 9223372036854775807) := by rw [ByteArray.size_append, show (⟨#[45]⟩ : ByteArray).size = 1 from rfl]; omega
          clear h10 hqd hqe
          go_wp2
          go_ret
          exact ⟨by rw [HSG.out _ (HF2.out _ (Fr.refl _ _) H10.out).1]; rfl, (HF2.out _ (Fr.alloc _ _) H10.out).2⟩
        · have q0 : (z.tdiv 10 == 0) = false := hqe h10
          have H10 := Lib.hid h10
          have hlt : Hid (gk / 10 < gk) := Lib.hid (by omega)
          clear h10 hqd hqe
          go_wp2
          go_roundg (gk / 10)
          case measure => exact hlt.out
          case rel => exact ⟨_, _, rfl, rfl, Lib.hid (HN2.out _ (Fr.alloc _ _) H10.out)⟩
      · have r0 : 0 ≤ z.tmod 10 := by omega
        have r1 : z.tmod 10 ≤ 9 := by omega
        have hb := fun W => conv_list W (digC gk) #[.int .u8 (48 + z.tmod 10)] (digC_cells gk _ (by omega))
        rw [show (digC gk).length = 1 from rfl] at hb
        have hN2 := fun W (hF : Fr [] wr W) h10 => hrl.out.next (W := W) hF h10 _ hqh.out
        have hF2 := fun W (hF : Fr [] wr W) h10 => hrl.out.fin (W := W) hF h10
        have hBs : (bs (digC gk)).size = 1 := rfl
        have hb2 : ∀ W : World, (convert 105 9 (.slice (some ⟨W.heap.size, 0, none⟩) 1 1)).run Tryd.prog (W.alloc (.cells #[.int .u8 (48 + z.tmod 10)] 5)) = .ok (.string (bs (digC gk))) (W.alloc (.cells #[.int .u8 (48 + z.tmod 10)] 5)) := hb
        clear hb
        obtain ⟨B, hB⟩ : ∃ B, B = bs (digC gk) := ⟨_, rfl⟩
        rw [← hB] at hb2 hBs
        rw [← hB] at hN2 hF2
        clear hB
        have s1 : ¬ (B.size + T.size > 9223372036854775807) := by omega
        have HN2 := Lib.hid hN2
        have HF2 := Lib.hid hF2
        have q1 : -9223372036854775808 ≤ z.tdiv 10 := by omega
        have q2 : z.tdiv 10 ≤ 9223372036854775807 := by omega
        have hqd : gk / 10 = 0 → z.tdiv 10 = 0 := fun h => by omega
        have hqe : gk / 10 ≠ 0 → (z.tdiv 10 == 0) = false := fun h => by rw [beq_eq_false_iff_ne]; omega
        clear hN2 hF2 hrl hz hm hb0 hr hq hqh
        by_cases h10 : gk / 10 = 0
        · have q0 : z.tdiv 10 = 0 := hqd h10
          have H10 := Lib.hid h10
          have s2 : ¬ ((⟨#[45]⟩ : ByteArray).size + (B ++ T).size > 9223372036854775807) := by rw [ByteArray.size_append, show (⟨#[45]⟩ : ByteArray).size = 1 from rfl]; omega
          clear h10 hqd hqe
          go_wp2
          go_ret
          exact ⟨by rw [HSG.out _ (HF2.out _ (Fr.refl _ _) H10.out).1]; rfl, (HF2.out _ (Fr.alloc _ _) H10.out).2⟩
        · have q0 : (z.tdiv 10 == 0) = false := hqe h10
          have H10 := Lib.hid h10
          have hlt : Hid (gk / 10 < gk) := Lib.hid (by omega)
          clear h10 hqd hqe
          go_wp2
          go_roundg (gk / 10)
          case measure => exact hlt.out
          case rel => exact ⟨_, _, rfl, rfl, Lib.hid (HN2.out _ (Fr.alloc _ _) H10.out)⟩
  · have hsg : ∀ A : ByteArray, A = bs (Lib.decDigits n.natAbs) → (⟨#[]⟩ : ByteArray) ++ A = RR := by
      rintro A rfl
      rw [← HRR.out]
      unfold Lib.itoa
      rw [if_neg hn]
      have := bs_append [] (Lib.decDigits n.natAbs)
      rw [List.nil_append, show n.natAbs = n.toNat by omega] at this
      rw [show n.natAbs = n.toNat by omega]
      exact this
    have HSG := Lib.hid hsg
    have HN := Lib.hid hn
    clear hsg
    go_enter Tryd.func36, Tryd.ntmps36
    go_wp2
    go_loopg [0, 3, 5] n.natAbs (fun m zv sv dv wr => ∃ (z : Int) (T : ByteArray), zv = .int .i64 z ∧ sv = .string T ∧ Hid (DigRel n w m z T wr))
    case atStart => exact ⟨n, ⟨#[]⟩, rfl, rfl, HR0⟩
    case round =>
      obtain ⟨z, T, rfl, rfl, hrl⟩ := hrel
      have hT := hrl.out.size HB.out.1 HB.out.2
      have hz := hrl.out.1
      have hm := hrl.out.2.1
      have hb0 := HB.out
      rw [if_neg (by have := HN.out; omega)] at hz
      have hr : z.tmod 10 = ((gk % 10 : Nat) : Int) := by rw [hz]; exact tm_pos gk
      have hq : z.tdiv 10 = ((gk / 10 : Nat) : Int) := by rw [hz]; exact td_pos gk
      have hqh : Hid (z.tdiv 10 = if n < 0 then -((gk / 10 : Nat) : Int) else ((gk / 10 : Nat) : Int)) := Lib.hid (by rw [if_neg (by have := HN.out; omega)]; exact hq)
      have c0 : -9223372036854775808 ≤ z := by omega
      have c1 : z ≤ 9223372036854775807 := by omega
      have r0 : 0 ≤ z.tmod 10 := by omega
      have r1 : z.tmod 10 ≤ 9 := by omega
      have hb := fun W => conv_list W (digC gk) #[.int .u8 (48 + z.tmod 10)] (digC_cells gk _ (by omega))
      rw [show (digC gk).length = 1 from rfl] at hb
      have hN2 := fun W (hF : Fr [] wr W) h10 => hrl.out.next (W := W) hF h10 _ hqh.out
      have hF2 := fun W (hF : Fr [] wr W) h10 => hrl.out.fin (W := W) hF h10
      have hBs : (bs (digC gk)).size = 1 := rfl
      have hb2 : ∀ W : World, (convert 105 9 (.slice (some ⟨W.heap.size, 0, none⟩) 1 1)).run Tryd.prog (W.alloc (.cells #[.int .u8 (48 + z.tmod 10)] 5)) = .ok (.string (bs (digC gk))) (W.alloc (.cells #[.int .u8 (48 + z.tmod 10)] 5)) := hb
      clear hb
      obtain ⟨B, hB⟩ : ∃ B, B = bs (digC gk) := ⟨_, rfl⟩
      rw [← hB] at hb2 hBs
      rw [← hB] at hN2 hF2
      clear hB
      have s1 : ¬ (B.size + T.size > 9223372036854775807) := by omega
      have HN2 := Lib.hid hN2
      have HF2 := Lib.hid hF2
      have q1 : -9223372036854775808 ≤ z.tdiv 10 := by omega
      have q2 : z.tdiv 10 ≤ 9223372036854775807 := by omega
      have hqd : gk / 10 = 0 → z.tdiv 10 = 0 := fun h => by omega
      have hqe : gk / 10 ≠ 0 → (z.tdiv 10 == 0) = false := fun h => by rw [beq_eq_false_iff_ne]; omega
      clear hN2 hF2 hrl hz hm hb0 hr hq hqh
      by_cases h10 : gk / 10 = 0
      · have q0 : z.tdiv 10 = 0 := hqd h10
        have H10 := Lib.hid h10
        have s2 : ¬ ((⟨#[]⟩ : ByteArray).size + (B ++ T).size > 9223372036854775807) := by rw [ByteArray.size_append, show (⟨#[]⟩ : ByteArray).size = 0 from rfl]; omega
        clear h10 hqd hqe
        go_wp2
        go_ret
        exact ⟨by rw [HSG.out _ (HF2.out _ (Fr.refl _ _) H10.out).1]; rfl, (HF2.out _ (Fr.alloc _ _) H10.out).2⟩
      · have q0 : (z.tdiv 10 == 0) = false := hqe h10
        have H10 := Lib.hid h10
        have hlt : Hid (gk / 10 < gk) := Lib.hid (by omega)
        clear h10 hqd hqe
        go_wp2
        go_roundg (gk / 10)
        case measure => exact hlt.out
        case rel => exact ⟨_, _, rfl, rfl, Lib.hid (HN2.out _ (Fr.alloc _ _) H10.out)⟩
end Go.Proofs.YtmhoebbdapjpeaaDoor
