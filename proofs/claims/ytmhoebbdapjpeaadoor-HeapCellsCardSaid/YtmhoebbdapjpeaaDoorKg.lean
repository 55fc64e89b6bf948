/- Layer 8: a script of calls, as it came in. Conditions: those that each theorem names. -/
import Derived.Test.YtmhoebbdapjpeaaDoorKf
import Derived.Test.YtmhoebbdapjpeaaDoorLv
import Derived.Deep.Slices
namespace Go.Proofs.YtmhoebbdapjpeaaDoor
open Go.RowKit Go.Maps Go.Deep
set_option linter.all false

instance : Inhabited V := ⟨V.zero⟩
instance : Inhabited Cl := ⟨⟨0, 0, 0, [], 0, 0, [], 0, [], none, 0⟩⟩
section
variable {H : Type} {enc : TypeId × Value → H} {w : World} {spare : Nat → Bool} {held : Bool} {fuel : Nat} {cs : List Value} {x : DataW H × List MemPlace}
theorem c_one {t : TypeId} (h : (match t with | 5 | 3 | 29 | 9 | 35 => true | _ => false) = true) : Tryd.prog.cellsOf t = 1 := by
  split at h
  · kernel_rfl
  · kernel_rfl
  · kernel_rfl
  · kernel_rfl
  · kernel_rfl
  · cases h
set_option maxRecDepth 100000 in
theorem open_value (h : DataW.trod enc Tryd.prog w 0 spare held fuel 31 cs = some x) : ∃ v : V, cs = v.cells ∧ v.t.length ≤ maxLen := by
  obtain ⟨xs, n, _, _, hl, hxl, hf⟩ := DataW.trod_struct Tryd.underlying31 h
  have hc : Tryd.prog.cellsOf 31 = 4 := by kernel_rfl
  have hi : Tryd.prog.cellsOf 3 = 1 := by kernel_rfl
  have hfl : Tryd.prog.cellsOf 29 = 1 := by kernel_rfl
  have hst : Tryd.prog.cellsOf 9 = 1 := by kernel_rfl
  rw [hc] at hl
  match cs, hl with
  | [c0, c1, c2, c3], _ =>
    have g0 := hf 0 _ rfl
    have g1 := hf 1 _ rfl
    have g2 := hf 2 _ rfl
    have g3 := hf 3 _ rfl
    rw [List.getElem?_eq_getElem (by rw [hxl]; decide)] at g0 g1 g2 g3
    change DataW.trod enc Tryd.prog w 0 spare held n 3 (List.take (Tryd.prog.cellsOf 3) [c0, c1, c2, c3]) = _ at g0
    change DataW.trod enc Tryd.prog w 0 spare held n 29 (List.take (Tryd.prog.cellsOf 29) [c1, c2, c3]) = _ at g1
    change DataW.trod enc Tryd.prog w 0 spare held n 9 (List.take (Tryd.prog.cellsOf 9) [c2, c3]) = _ at g2
    change DataW.trod enc Tryd.prog w 0 spare held n 3 (List.take (Tryd.prog.cellsOf 3) [c3]) = _ at g3
    rw [hi] at g0 g3
    rw [hfl] at g1
    rw [hst] at g2
    change DataW.trod enc Tryd.prog w 0 spare held n 3 [c0] = _ at g0
    change DataW.trod enc Tryd.prog w 0 spare held n 29 [c1] = _ at g1
    change DataW.trod enc Tryd.prog w 0 spare held n 9 [c2] = _ at g2
    change DataW.trod enc Tryd.prog w 0 spare held n 3 [c3] = _ at g3
    obtain ⟨k, e0, -, -⟩ := DataW.trod_int Tryd.underlying3 g0
    obtain ⟨s, e2, -, w2⟩ := DataW.trod_string Tryd.underlying9 g2
    obtain ⟨r, e3, -, -⟩ := DataW.trod_int Tryd.underlying3 g3
    obtain ⟨f, e1, -, -⟩ := trod_float Tryd.underlying29 g1
    simp only [List.cons.injEq, and_true] at e0 e2 e3
    subst e0; subst e1; subst e2; subst e3
    exact ⟨⟨k, f, s.data.toList, r⟩, by simp [V.cells, bs_data], w2⟩
theorem blk_of {w : World} {a : Addr} {v : Value} (h : w.cell? a = some v) : a.block < w.heap.size := by
  unfold World.cell? at h
  split at h
  · rename_i hb
    exact (Array.getElem?_eq_some_iff.1 hb).1
  · cases h
theorem itemCells_len : ∀ l : List V, (itemCells l).length = 4 * l.length
  | [] => rfl
  | v :: l => by
    have := itemCells_len l
    unfold itemCells at this ⊢
    rw [List.flatMap_cons, List.length_append, this, List.length_cons]
    show 4 + _ = _
    omega
theorem range_at {α : Type} (f : Nat → α) (n i : Nat) (h : i < n) : ((List.range n).map f)[i]? = some (f i) := by simp [h]
set_option maxRecDepth 100000 in
theorem open_items {u : Value} (h : DataW.trod enc Tryd.prog w 0 spare held fuel 35 [u] = some x) : ∃ (l : List V) (ip : Option Addr) (ic : Nat), u = .slice ip l.length ic ∧ l.length ≤ maxLen ∧ (∀ q ∈ l, q.t.length ≤ maxLen) ∧
    (∀ W, Below w.heap.size w W → RowAt W (.slice ip l.length ic) l.length (itemCells l)) ∧ (l ≠ [] → ∀ b ∈ (Value.slice ip l.length ic).ownBlock.toList, b < w.heap.size) := by
  have hc : Tryd.prog.cellsOf 31 = 4 := by kernel_rfl
  rcases open_slice Tryd.underlying35 h with ⟨e, -⟩ | ⟨a, len, cap, m, n, D, Pl, e, -, hl, hm, hmm, -, hx⟩
  · simp only [List.cons.injEq, and_true] at e
    exact ⟨[], none, 0, e, Nat.zero_le _, (fun q hq => by cases hq), (fun W _ => ⟨rfl, none, 0, rfl, fun _ => rfl, fun a ha => by cases ha⟩), fun h => absurd rfl h⟩
  · simp only [List.cons.injEq, and_true] at e
    have hlm : len ≤ m := by rw [hmm]; split <;> omega
    obtain ⟨f, hfv⟩ := choose_lt (α := V) (n := len) (p := fun i v => w.cells? 0 (a.add (i * 4)) 4 = some v.cells ∧ v.t.length ≤ maxLen) (fun i hi => by
      obtain ⟨cs', h1, h2⟩ := hx i (by omega)
      rw [hc] at h1
      obtain ⟨v, rfl, hv⟩ := open_value h2
      exact ⟨v, h1, hv⟩)
    have hll : ((List.range len).map f).length = len := by simp
    have hcell : ∀ j z, (itemCells ((List.range len).map f))[j]? = some z → w.cell? (a.add j) = some z := by
      intro j z hj
      have hjl : j < 4 * len := by
        have := itemCells_len ((List.range len).map f)
        rw [hll] at this
        rcases Nat.lt_or_ge j (4 * len) with h' | h'
        · exact h'
        · rw [List.getElem?_eq_none (by omega)] at hj; cases hj
      have hi : j / 4 < len := by omega
      obtain ⟨-, -, hcs⟩ := World.cells?_some (hfv (j / 4) hi).1
      obtain ⟨-, -, hcs0⟩ := World.cells?_some (hfv 0 (by omega)).1
      obtain ⟨b, off, spot⟩ := a
      have h0 := hcs0 0 (by decide)
      have hspot : spot = none := by simpa [Addr.add] using World.cell?_spot (show w.cell? _ = some (.int .i64 (f 0).k) from h0)
      subst hspot
      obtain ⟨i, r, hir, hr4⟩ : ∃ i r, j = 4 * i + r ∧ r < 4 := ⟨j / 4, j % 4, by omega, Nat.mod_lt _ (by decide)⟩
      have hid : j / 4 = i := by omega
      rw [hid] at hcs hi
      obtain ⟨b0, b1, b2, b3⟩ := item_at _ i _ (range_at f len i hi)
      have hr := hcs r hr4
      have ea : (((⟨b, off, none⟩ : Addr).add (i * 4)).add r) = (⟨b, off, none⟩ : Addr).add j := by
        rw [add_plain2, add_plain2, add_plain2]
        congr 1
        omega
      rw [ea] at hr
      rw [hr, ← hj, hir]
      clear hir hr ea hid
      match r, hr4 with
      | 0, _ => exact b0.symm
      | 1, _ => exact b1.symm
      | 2, _ => exact b2.symm
      | 3, _ => exact b3.symm
    refine ⟨(List.range len).map f, some a, cap, by rw [hll]; exact e, by rw [hll]; omega, ?_, ?_, ?_⟩
    · intro q hq
      obtain ⟨i, hi, rfl⟩ := List.mem_map.1 hq
      exact (hfv i (List.mem_range.1 hi)).2
    · intro W hW
      refine ⟨by rw [itemCells_len]; exact Nat.mul_comm _ _, some a, cap, rfl, (fun h => by cases h), fun a' ha' j z hj => ?_⟩
      cases ha'
      have h1 := hcell j z hj
      rw [hW.cell (blk_of h1)]
      exact h1
    · intro hne b hb
      have hlp : 0 < len := by
        rcases Nat.eq_zero_or_pos len with h' | h'
        · subst h'; exact absurd rfl hne
        · exact h'
      have := hfv 0 hlp
      obtain ⟨-, -, hcs⟩ := World.cells?_some this.1
      have h0 := blk_of (show w.cell? _ = some (.int .i64 (f 0).k) from hcs 0 (by decide))
      have eb : ((a.add (0 * 4)).add 0).block = a.block := by unfold Addr.add; rfl
      rw [eb] at h0
      have hb2 : b = a.block := by simpa [Value.ownBlock] using hb
      rw [hb2]
      exact h0
def Cl.cells (q : Cl) : List Value := [.int .u8 (q.kd : Int), .int .i64 q.i, .int .i64 q.n, .string (bs q.k), .int .i64 q.vk, .float .f64 q.vn, .string (bs q.vt), .int .i64 q.vr, .slice q.ip q.l.length q.ic]
structure ClOk (q : Cl) (w : World) : Prop where
  kd : q.kd < 256
  key : q.k.length ≤ 9223372036854775807
  vt : q.vt.length ≤ 9223372036854775807
  len : q.l.length ≤ 9223372036854775807
  items : ∀ W, Below w.heap.size w W → RowAt W (.slice q.ip q.l.length q.ic) q.l.length (itemCells q.l)
  own : q.l ≠ [] → ∀ x ∈ (Value.slice q.ip q.l.length q.ic).ownBlock.toList, x < w.heap.size
  texts : ∀ u ∈ q.l, u.t.length ≤ maxLen
set_option maxRecDepth 100000 in
theorem open_call (h : DataW.trod enc Tryd.prog w 0 spare held fuel 37 cs = some x) : ∃ q : Cl, cs = q.cells ∧ ClOk q w := by
  obtain ⟨xs, n, _, _, hl, hxl, hf⟩ := DataW.trod_struct Tryd.underlying37 h
  have hc : Tryd.prog.cellsOf 37 = 9 := by kernel_rfl
  have h5 : Tryd.prog.cellsOf 5 = 1 := by kernel_rfl
  have h3 : Tryd.prog.cellsOf 3 = 1 := by kernel_rfl
  have h9 : Tryd.prog.cellsOf 9 = 1 := by kernel_rfl
  have h31 : Tryd.prog.cellsOf 31 = 4 := by kernel_rfl
  have h35 : Tryd.prog.cellsOf 35 = 1 := by kernel_rfl
  rw [hc] at hl
  match cs, hl with
  | [c0, c1, c2, c3, c4, c5, c6, c7, c8], _ =>
    have g0 := hf 0 _ rfl
    have g1 := hf 1 _ rfl
    have g2 := hf 2 _ rfl
    have g3 := hf 3 _ rfl
    have g4 := hf 4 _ rfl
    have g5 := hf 5 _ rfl
    rw [List.getElem?_eq_getElem (by rw [hxl]; decide)] at g0 g1 g2 g3 g4 g5
    change DataW.trod enc Tryd.prog w 0 spare held n 5 (List.take (Tryd.prog.cellsOf 5) [c0, c1, c2, c3, c4, c5, c6, c7, c8]) = _ at g0
    change DataW.trod enc Tryd.prog w 0 spare held n 3 (List.take (Tryd.prog.cellsOf 3) [c1, c2, c3, c4, c5, c6, c7, c8]) = _ at g1
    change DataW.trod enc Tryd.prog w 0 spare held n 3 (List.take (Tryd.prog.cellsOf 3) [c2, c3, c4, c5, c6, c7, c8]) = _ at g2
    change DataW.trod enc Tryd.prog w 0 spare held n 9 (List.take (Tryd.prog.cellsOf 9) [c3, c4, c5, c6, c7, c8]) = _ at g3
    change DataW.trod enc Tryd.prog w 0 spare held n 31 (List.take (Tryd.prog.cellsOf 31) [c4, c5, c6, c7, c8]) = _ at g4
    change DataW.trod enc Tryd.prog w 0 spare held n 35 (List.take (Tryd.prog.cellsOf 35) [c8]) = _ at g5
    rw [h5] at g0
    rw [h3] at g1 g2
    rw [h9] at g3
    rw [h31] at g4
    rw [h35] at g5
    change DataW.trod enc Tryd.prog w 0 spare held n 5 [c0] = _ at g0
    change DataW.trod enc Tryd.prog w 0 spare held n 3 [c1] = _ at g1
    change DataW.trod enc Tryd.prog w 0 spare held n 3 [c2] = _ at g2
    change DataW.trod enc Tryd.prog w 0 spare held n 9 [c3] = _ at g3
    change DataW.trod enc Tryd.prog w 0 spare held n 31 [c4, c5, c6, c7] = _ at g4
    change DataW.trod enc Tryd.prog w 0 spare held n 35 [c8] = _ at g5
    obtain ⟨k, e0, -, w0⟩ := DataW.trod_int Tryd.underlying5 g0
    obtain ⟨i, e1, -, -⟩ := DataW.trod_int Tryd.underlying3 g1
    obtain ⟨m, e2, -, -⟩ := DataW.trod_int Tryd.underlying3 g2
    obtain ⟨s, e3, -, w3⟩ := DataW.trod_string Tryd.underlying9 g3
    obtain ⟨v, e4, w4⟩ := open_value g4
    obtain ⟨l, ip, ic, e5, w5, w6, w7, w8⟩ := open_items g5
    simp only [List.cons.injEq, and_true] at e0 e1 e2 e3
    have hk : 0 ≤ k ∧ k < 256 := u8_wf w0
    have e4' : c4 = .int .i64 v.k ∧ c5 = .float .f64 v.n ∧ c6 = .string (bs v.t) ∧ c7 = .int .i64 v.r := by simpa [V.cells] using e4
    obtain ⟨r1, r2, r3, r4⟩ := e4'
    subst e0; subst e1; subst e2; subst e3; subst e5; subst r1; subst r2; subst r3; subst r4
    refine ⟨⟨k.toNat, i, m, s.data.toList, v.k, v.n, v.t, v.r, l, ip, ic⟩, ?_, ⟨?_, ?_, w4, w5, w7, w8, w6⟩⟩
    · simp only [Cl.cells, bs_data, Int.toNat_of_nonneg hk.1]
    · show k.toNat < 256
      omega
    · show s.data.toList.length ≤ _
      exact w3
set_option maxRecDepth 100000 in
theorem open_script {u : Value} (h : DataW.trod enc Tryd.prog w 0 spare held fuel 28 [u] = some x) : ∃ (p : Option Addr) (Q : List Cl) (cap : Nat), u = .slice p Q.length cap ∧ Q.length ≤ 9223372036854775807 ∧ ScriptAt w.heap.size p Q w := by
  have hc : Tryd.prog.cellsOf 37 = 9 := by kernel_rfl
  rcases open_slice Tryd.underlying28 h with ⟨e, -⟩ | ⟨a, len, cap, m, n, D, Pl, e, -, hl, hm, hmm, -, hx⟩
  · simp only [List.cons.injEq, and_true] at e
    exact ⟨none, [], 0, e, Nat.zero_le _, ⟨fun h => absurd rfl h, (fun q hq => by cases hq), (fun q hq => by cases hq), (fun q hq => by cases hq), (fun q hq => by cases hq), (fun q hq => by cases hq), (fun q hq => by cases hq), (fun q hq => by cases hq)⟩⟩
  · simp only [List.cons.injEq, and_true] at e
    have hlm : len ≤ m := by rw [hmm]; split <;> omega
    obtain ⟨f, hfv⟩ := choose_lt (α := Cl) (n := len) (p := fun i q => w.cells? 0 (a.add (i * 9)) 9 = some q.cells ∧ ClOk q w) (fun i hi => by
      obtain ⟨cs', h1, h2⟩ := hx i (by omega)
      rw [hc] at h1
      obtain ⟨q, rfl, hq⟩ := open_call h2
      exact ⟨q, h1, hq⟩)
    have hll : ((List.range len).map f).length = len := by simp
    have hall : ∀ q ∈ (List.range len).map f, ClOk q w := by
      intro q hq
      obtain ⟨i, hi, rfl⟩ := List.mem_map.1 hq
      exact (hfv i (List.mem_range.1 hi)).2
    refine ⟨some a, (List.range len).map f, cap, by rw [hll]; exact e, by rw [hll]; exact Nat.le_trans hl hm, ⟨fun hne => ?_, fun q hq => (hall q hq).kd, fun q hq => (hall q hq).key, fun q hq => (hall q hq).vt, fun q hq => (hall q hq).len, fun q hq => (hall q hq).items, fun q hq => (hall q hq).own, fun q hq => (hall q hq).texts⟩⟩
    have hlp : 0 < len := by
      rcases Nat.eq_zero_or_pos len with h' | h'
      · subst h'; exact absurd rfl hne
      · exact h'
    obtain ⟨-, -, hcs0⟩ := World.cells?_some (hfv 0 hlp).1
    obtain ⟨b, off, spot⟩ := a
    have h0 := hcs0 0 (by decide)
    have hspot : spot = none := by simpa [Addr.add] using World.cell?_spot (show w.cell? _ = some (.int .u8 ((f 0).kd : Int)) from h0)
    subst hspot
    refine ⟨b, off, rfl, fun W hW j q hq => ?_⟩
    have hj : j < len := by
      rcases Nat.lt_or_ge j len with h' | h'
      · exact h'
      · rw [List.getElem?_eq_none (by rw [hll]; exact h')] at hq; cases hq
    rw [range_at f len j hj] at hq
    cases hq
    obtain ⟨-, -, hcs⟩ := World.cells?_some (hfv j hj).1
    have key : ∀ r z, r < 9 → (f j).cells[r]? = some z → W.cell? ⟨b, off + j * 9 + r, none⟩ = some z := by
      intro r z hr hz
      have h1 := hcs r hr
      rw [add_plain2, add_plain2, hz] at h1
      rw [hW.cell (blk_of h1)]
      exact h1
    exact ⟨key 0 _ (by decide) rfl, key 1 _ (by decide) rfl, key 2 _ (by decide) rfl, key 3 _ (by decide) rfl, key 4 _ (by decide) rfl, key 5 _ (by decide) rfl, key 6 _ (by decide) rfl, key 7 _ (by decide) rfl, key 8 _ (by decide) rfl⟩
end
end Go.Proofs.YtmhoebbdapjpeaaDoor
