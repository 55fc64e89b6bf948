/- The document's own reading of a document's tokens. Conditions: those that each theorem names. -/
import Derived.Test.YtdilngjolhmjnaaGreatDoorRg6
import Derived.Test.YtdilngjolhmjnaaGreatDoorRfN
namespace Go.Proofs.YtdilngjolhmjnaaGreatDoor
open Go.RowKit Go.Shelf
set_option linter.all false

theorem ret_cells {w : World} {N : Nat} {c : Array Value} (h : w.heap[N]? = some (.cells c 29 (0, 0))) (hc : c.size = 2) (x y : Value) : ((w.setCell ⟨N, 0, none⟩ x).setCell ⟨N, 1, none⟩ y).cell? ⟨N, 0, none⟩ = some x ∧ ((w.setCell ⟨N, 0, none⟩ x).setCell ⟨N, 1, none⟩ y).cell? ⟨N, 1, none⟩ = some y := by
  have h2 := heap_set (heap_set h 0 x) 1 y
  refine ⟨?_, ?_⟩
  · rw [Lib.cell_of_heap h2, Array.getElem?_setIfInBounds_ne (by decide), Array.getElem?_setIfInBounds_self_of_lt (by omega)]
  · rw [Lib.cell_of_heap h2, Array.getElem?_setIfInBounds_self_of_lt (by rw [Array.size_setIfInBounds]; omega)]
theorem ret_below {w0 w : World} {N : Nat} (h : Below N w0 w) (x y : Value) : Below N w0 ((w.setCell ⟨N, 0, none⟩ x).setCell ⟨N, 1, none⟩ y) := (h.setCell (p := ⟨N, 0, none⟩) (Nat.le_refl _) _).setCell (p := ⟨N, 1, none⟩) (Nat.le_refl _) _
abbrev z29 : Array Value := #[.int .i64 0, .int .i64 0]
theorem here_q {b : Nat} {cs : List Nat} {T C A : Value} {j : Nat} (hj : j ≤ cs.length) (t : List Nat) (ht : Small t) (htl : t.length ≤ 1000) (q : ByteArray) (hq : q = bs (K.b8 t)) (v : Bool) (hv : K.sees t (S cs j) = v) :
    ∀ W, Sn b T C A j 0 (0, 0) W → Sr b cs T C A W → Calls Tryz.prog 23 #[.pointer (some ⟨b, 0, none⟩), .string q] W fun e w' => e = .returned (.bool v) ∧ ∃ n, w' = W.drewN n := by
  subst hv
  intro W h1 h2
  exact here_any h1 h2 (by have := h2.len; omega) t ht htl q hq

theorem tk_start {b : Nat} {cs : List Nat} {T C A : Value} {R : Except K.Er (List K.Tk)} {w : World} (hr : Sr b cs T C A w) (h : DStart b cs T C A R w) : ∃ g, TkRel b w.heap.size cs T C A w R g (.slice none 0 0) (.string ⟨#[]⟩) (w.alloc (.cells z29 29)) := by
  have hal : Below w.heap.size w (w.alloc (.cells z29 29)) := (Below.refl _ _).alloc (Nat.le_refl _) _
  have hat : (w.alloc (.cells z29 29)).heap[w.heap.size]? = some (.cells z29 29 (0, 0)) := heap_new w _
  rcases h with ⟨j, hj, hDF, hs⟩ | ⟨er, hR, h1, h2, j, hs⟩
  · exact ⟨cs.length - j + 1, ⟨_, _, _, rfl⟩, .inl ⟨t0, (0, 0), j, rfl, hDF, hj, Nat.zero_le _, Nat.zero_le _, rfl, fun h => absurd rfl h, TkS.start hs hr hal hat⟩⟩
  · exact ⟨0, ⟨_, _, _, rfl⟩, .inr ⟨rfl, er, hR, h1, h2, ⟨_, rfl⟩, j, hs.keep hal, .of_below hal⟩⟩
theorem list_ret {N B : Nat} {w : World} {c : Array Value} {toks : List K.Tk} {lv x y : Value} {xs : List Value} (hN : w.heap[N]? = some (.cells c 29 (0, 0))) (ho : w.ownsRow B 38 7 lv toks.length xs) (ht : ToksAt B w toks xs) (hB : N ≤ B) : ListAt N toks lv ((w.setCell ⟨N, 0, none⟩ x).setCell ⟨N, 1, none⟩ y) := by
  have k : ∀ e, e ≠ 29 → KeepT e w ((w.setCell ⟨N, 0, none⟩ x).setCell ⟨N, 1, none⟩ y) := fun e he => (KeepT.set hN he 0 x).trans (KeepT.set (heap_set hN 0 x) he 1 y)
  exact ⟨xs, own_base ((k 38 (by decide)).own ho) hB, (ht.keep (k 40 (by decide))).base hB⟩
theorem oneCell7 (x : Int) (a b : ByteArray) (p : Option Addr) (n c : Nat) (l k : Int) (e : Bool) : ∀ u ∈ [Value.int .i64 x, .string a, .slice p n c, .string b, .int .i64 l, .int .i64 k, .bool e], u.oneCell' = true := by
  intro u hu
  simp only [List.mem_cons, List.not_mem_nil, or_false] at hu
  rcases hu with rfl | rfl | rfl | rfl | rfl | rfl | rfl <;> rfl
def TkPN (N : Nat) (r : Except K.Er (List K.Tk)) (w : World) (e : Ending) (w' : World) : Prop := Below N w w' ∧ match r with
  | .ok toks => ∃ lv, e = .returned (.tuple #[lv, .agg #[.int .i64 0, .int .i64 0], .int .i64 0]) ∧ ListAt N toks lv w'
  | .error er => 1 ≤ er.1 ∧ e = .returned (.tuple #[.slice none 0 0, .agg #[.int .i64 (er.2.1 : Int), .int .i64 (er.2.2 : Int)], .int .i64 (er.1 : Int)])
theorem TkS.growN {b B : Nat} {cs : List Nat} {T C A : Value} {w0 : World} {t : List K.Tk} {lv : Value} {p : K.Pl} {j e : Nat} {q : K.Pl} {W : World} (h : TkS b B cs T C A w0 t lv p j e q W) {n : Nat} (hn : t.length = n) {xs : List Value} (hown : W.ownsRow B 38 7 lv n xs) (hto : ToksAt B W t xs) (tk : K.Tk) (av : Value) (hav : W.ownsRow B 40 4 av tk.attrs.length (attrCells tk.attrs)) {o : Obj} {g cap : Nat} {w6 : World} (hown6 : w6.ownsRow B 38 7 (.slice (some ⟨g, 0, none⟩) (n + 1) cap) (n + 1) (xs ++ tokCells tk av)) (hg : (W.alloc o).grownBy w6 lv.ownBlock) :
    TkS b B cs T C A w0 (t ++ [tk]) (.slice (some ⟨g, 0, none⟩) (n + 1) cap) p j e q w6 ∧ ToksAt B w6 (t ++ [tk]) (xs ++ tokCells tk av) := by
  subst hn
  exact h.grow hown hto tk av hav hown6 hg
theorem TkS.growBadN {b B : Nat} {cs : List Nat} {T C A : Value} {w0 : World} {t : List K.Tk} {lv : Value} {p : K.Pl} {j e : Nat} {q : K.Pl} {W : World} (h : TkS b B cs T C A w0 t lv p j e q W) {n : Nat} (hn : t.length = n) {xs : List Value} (hown : W.ownsRow B 38 7 lv n xs) {o : Obj} {w6 : World} (hg : (W.alloc o).grownBy w6 lv.ownBlock) : Sn b T C A j e q w6 ∧ Bar b w0 w6 := by
  subst hn
  exact h.growBad hown hg
theorem tok_kept {w w6 : World} {B n : Nat} {lv : Value} {xs : List Value} {X o : Obj} (ho : w.ownsRow B 38 7 lv n xs) (hg : ((w.alloc X).alloc o).grownBy w6 lv.ownBlock) : w6.heap[w.heap.size]? = some X := by
  have h1 : ((w.alloc X).alloc o).heap[w.heap.size]? = some X := by
    rw [Below.heap_alloc _ _ _ (by rw [heap_size]; omega)]
    exact heap_new w X
  rw [hg.block w.heap.size (by rw [heap_size, heap_size]; omega) ?_]
  · exact h1
  · intro h
    obtain ⟨_, c, hc⟩ := own_block ho _ h.symm
    have := lt_of_heap hc
    omega

set_option maxHeartbeats 8000000 in
set_option maxRecDepth 100000 in
theorem tokens_unread (doc : List UInt8) (w : World) (er : K.Er) (hrd : ∀ W, Below w.heap.size w W → Calls Tryz.prog 21 #[.string (bs doc)] W (RdPost (.error er) W)) :
    Calls Tryz.prog 10 #[.string (bs doc)] w (TkPost (.error er) w) := by
  obtain ⟨N, hN⟩ : ∃ N, w.heap.size = N := ⟨_, rfl⟩
  have hb0 : Below w.heap.size w (w.alloc (.cells z29 29)) := (Below.refl _ _).alloc (Nat.le_refl _) _
  have h0 : (w.alloc (.cells z29 29)).heap[w.heap.size]? = some (.cells z29 29 (0, 0)) := heap_new w _
  have hr := hrd _ hb0
  have hsz : (w.alloc (.cells z29 29)).heap.size = w.heap.size + 1 := by simp
  unfold TkPost
  rw [hN] at hb0 h0 hsz ⊢
  have HN := Lib.hid hN
  have H0 := Lib.hid h0
  have HB0 := Lib.hid hb0
  have HSZ := Lib.hid hsz
  clear hrd h0 hb0 hsz hN
  go_enter Tryz.func10, Tryz.ntmps10
  go_wp2_with (go_at_call 21; refine hr.mono ?_; rintro e w1 ⟨hb1, b, hbb, rfl, he1, he2, T, C, A, hs⟩; obtain ⟨_, _, _, _, c4⟩ := hs.cells; have c5 : w1.cell? ⟨b, 5, none⟩ = some (.int .i64 (er.2.1 : Int)) := (by rw [Lib.cell_of_heap hs]; rfl); have c6 : w1.cell? ⟨b, 6, none⟩ = some (.int .i64 (er.2.2 : Int)) := (by rw [Lib.cell_of_heap hs]; rfl); have hNb : N ≠ b := (by have := HSZ.out; omega); have hbN : b ≠ N := (by have := HSZ.out; omega); have n0 : w1.cell? ⟨N, 0, none⟩ = some (.int .i64 0) := (by rw [Lib.cell_of_heap (Below.keep hb1 H0.out)]; rfl); have n1 : w1.cell? ⟨N, 1, none⟩ = some (.int .i64 0) := (by rw [Lib.cell_of_heap (Below.keep hb1 H0.out)]; rfl); have hne : ((er.1 : Int) == 0) = false := (by rw [beq_eq_false_iff_ne]; omega); have h1 := Below.keep hb1 H0.out; have f0 : w1.frozen? ⟨N, 0, none⟩ = false := Lib.frozen_of_heap h1 _; have f1 : w1.frozen? ⟨N, 1, none⟩ = false := Lib.frozen_of_heap h1 _; have HB1 := Lib.hid (HB0.out.trans (hb1.mono (by rw [HSZ.out]; omega))); have H1 := Lib.hid h1; clear hs hb1 h1)
  rw [HN.out]
  go_region_law (fail)
  all_goals
    go_wp2
    refine bodyPost_ret (v := .tuple #[.slice none 0 0, .agg #[.int .i64 (er.2.1 : Int), .int .i64 (er.2.2 : Int)], .int .i64 (er.1 : Int)]) ?_ rfl ?_
    · obtain ⟨v0, v1⟩ := ret_cells H1.out rfl (.int .i64 (er.2.1 : Int)) (.int .i64 (er.2.2 : Int))
      simp [results, Tryz.results10, go_sem, v0, v1]
    · exact ⟨(ret_below HB1.out _ _).drew, he1, rfl⟩

set_option maxHeartbeats 16000000 in
set_option maxRecDepth 100000 in
theorem tokens_read (doc : List UInt8) (w : World) (cs : List Nat) (hrd : ∀ W, Below w.heap.size w W → Calls Tryz.prog 21 #[.string (bs doc)] W (RdPost (.ok cs) W)) :
    Calls Tryz.prog 10 #[.string (bs doc)] w (TkPost (K.document cs) w) := by
  obtain ⟨N, hN⟩ : ∃ N, w.heap.size = N := ⟨_, rfl⟩
  have hb0 : Below w.heap.size w (w.alloc (.cells z29 29)) := (Below.refl _ _).alloc (Nat.le_refl _) _
  have h0 : (w.alloc (.cells z29 29)).heap[w.heap.size]? = some (.cells z29 29 (0, 0)) := heap_new w _
  have hr := hrd _ hb0
  have hsz : (w.alloc (.cells z29 29)).heap.size = w.heap.size + 1 := by simp
  rw [document_docR]
  show Calls Tryz.prog 10 #[.string (bs doc)] w (TkPN w.heap.size _ w)
  obtain ⟨R, hR⟩ : ∃ R, docR (if K.declares (S cs 0) = true then K.declaration (S cs 0) else .ok (S cs 0)) = R := ⟨_, rfl⟩
  rw [hN] at hb0 h0 hsz ⊢
  obtain ⟨i38, hi0, hz0, hz1, hz2⟩ := info_parts info38
  have hdec : ∀ (b : Nat) (T C A : Value) (W : World), Sn b T C A 0 0 (0, 0) W → Sr b cs T C A W → Calls Tryz.prog 22 #[.pointer (some ⟨b, 0, none⟩)] W fun e w' => e = .returned (.tuple #[]) ∧ Bar b W w' ∧ DStart b cs T C A R w' := by
    intro b T C A W h1 h2
    rw [← hR]
    exact (declared_rf h1 h2).mono fun e w' h => start_of h
  rw [hR]
  have HD := Lib.hid hdec
  have HN := Lib.hid hN
  have H0 := Lib.hid h0
  have HB0 := Lib.hid hb0
  have HSZ := Lib.hid hsz
  clear hrd h0 hb0 hsz hN hR hdec
  go_enter Tryz.func10, Tryz.ntmps10
  go_wp2_with (first
    | (go_at_call 21; refine hr.mono ?_; rintro e w1 ⟨hb1, b, hbb, rfl, T, C, A, hs, hsr⟩; obtain ⟨_, _, _, _, c4⟩ := hs.cells; have h1 := Below.keep hb1 H0.out; have hbN : N < b := (by have := HSZ.out; omega); have HBN := Lib.hid hbN; have HB1 := Lib.hid (HB0.out.trans (hb1.mono (by rw [HSZ.out]; omega))); have H1 := Lib.hid h1; have hd := HD.out b T C A w1 hs hsr; have HSR := Lib.hid hsr; clear hs hb1 h1 hbN hsr hbb)
    | (go_at_call 22; refine hd.mono ?_; rintro e w2 ⟨rfl, hb2, hst⟩; have HSR2 := Lib.hid (HSR.out.bar hb2); have H2 := Lib.hid (hb2.keep (by have := HBN.out; omega) H1.out); have HB2 := Lib.hid (HB1.out.trans (hb2.below (Nat.le_of_lt HBN.out) (by have := lt_of_heap H1.out; omega))); have HST := Lib.hid hst; clear hb2 hst hd H1 HB1 HSR))
  rw [HN.out]
  obtain ⟨g0, hst0⟩ := tk_start HSR2.out HST.out
  obtain ⟨B, hB⟩ : ∃ B, w2.heap.size = B := ⟨_, rfl⟩
  rw [hB] at hst0 ⊢
  have HST0 := Lib.hid hst0
  have HNb := Lib.hid (show N ≠ b by have := HBN.out; omega)
  clear hst0 HST HD hB
  have hlen65 := HSR2.out.len
  obtain ⟨pC, cC, rfl⟩ := HSR2.out.char
  obtain ⟨ga, na, rfl, hpl⟩ := HSR2.out.place
  have HPl := Lib.hid hpl
  clear hpl
  go_loopg [6, 7] g0 (fun g lv tv wr => TkRel b B cs T (.slice pC cs.length cC) (.slice (some ⟨ga, 0, none⟩) (cs.length + 1) na) w2 R g lv tv wr)
  case atStart => exact HST0.out
  case round =>
    obtain ⟨⟨lp, ln, lc, rfl⟩, hcase⟩ := hrel
    rcases hcase with ⟨t, p, j, hg, hDF, hj, htx, htk, rfl, hpp, hS⟩ | ⟨hg, er, hRe, he1, he2, ⟨o, rfl⟩, j, hs, hbar⟩
    · by_cases hjl : j < cs.length
      · obtain ⟨c0, c1, c2, c3, c4⟩ := hS.sn.cells
        have hml2 : (j : Int) < (cs.length : Int) + 1 := by omega
        have hlt : (j : Int) < (cs.length : Int) := by omega
        have HS0 := Lib.hid hS
        clear hS
        go_wp2
        go_region_held3 (fun w' => w'.cell? ⟨b, 4, none⟩ = some (.int .i64 ((0 : Nat) : Int)) ∧ w'.cell? ⟨b, 3, none⟩ = some (.int .i64 (j : Int)) ∧ w'.cell? ⟨b, 1, none⟩ = some (.slice pC cs.length cC))
          (first | assumption | go_keep)
          (fail)
        rename_i hHeld
        clear hHeld
        have hS1 := HS0.out.below ((Below.refl _ _).drew)
        clear HS0 c0 c1 c2 c3 c4
        generalize wr.drew = wx at hS1 ⊢
        obtain ⟨c0, c1, c2, c3, c4⟩ := hS1.sn.cells
        obtain ⟨p0, p1⟩ := HPl.out j hj wx hS1.bar
        have hszb : b < wx.heap.size := lt_of_heap hS1.sn
        have HS0 := Lib.hid hS1
        clear hS1
        go_wp2
        go_region_held3 (fun w' => w'.cell? ⟨b, 2, none⟩ = some (.slice (some ⟨ga, 0, none⟩) (cs.length + 1) na) ∧ w'.cell? ⟨b, 3, none⟩ = some (.int .i64 (j : Int)) ∧ w'.cell? ⟨ga, j * 2, none⟩ = some (.int .i64 ((pl cs j).1 : Int)) ∧ w'.cell? ⟨ga, j * 2 + 1, none⟩ = some (.int .i64 ((pl cs j).2 : Int)))
          (first | assumption | go_keep)
          (fail)
        rename_i hHeld
        clear hHeld
        have hF0 := TkF.mk0 (P := pl cs j) HS0.out
        obtain ⟨f, hf⟩ : ∃ f, wx.heap.size = f := ⟨_, rfl⟩
        rw [hf] at hF0 ⊢
        generalize (wx.alloc (.cells #[.int .i64 ((pl cs j).1 : Int), .int .i64 ((pl cs j).2 : Int)] 29)).drew = wa at hF0 ⊢
        have HSZ := Lib.hid (show (bs (U.n8 t.text)).size ≤ 262144 by have := n8_len4 t.text; have := bs_size (U.n8 t.text); omega)
        have HPP := Lib.hid hpp
        obtain ⟨_, _, _, b3, b4⟩ := hF0.s.sn.cells
        have g3 := hF0.s.sn.free 3
        have HS := Lib.hid hF0
        clear hF0 c0 c1 c2 c3 c4 p0 p1 HS0 hf hszb hpp
        cases ht1 : K.sees [60, 63] (S cs j) with
        | true =>
          have hpart : K.part (S cs j) t = onS t (K.instruction (S cs j)) := by rw [part_eq, ht1]; rfl
          have hcall := fun W (h1 : Sn b T (.slice pC cs.length cC) (.slice (some ⟨ga, 0, none⟩) (cs.length + 1) na) j 0 (0, 0) W) (h2 : Sr b cs T (.slice pC cs.length cC) (.slice (some ⟨ga, 0, none⟩) (cs.length + 1) na) W) => instr_rf h1 h2 (sees_excl ht1) ht1
          have HH1 := Lib.hid (here_q (b := b) (T := T) (C := (.slice pC cs.length cC)) (A := (.slice (some ⟨ga, 0, none⟩) (cs.length + 1) na)) hj [60, 63] (by unfold Small; decide) (by decide) ⟨#[60, 63]⟩ rfl true ht1)
          cases hI : K.instruction (S cs j) with
          | error er =>
            have hc2 : ∀ W, Sn b T (.slice pC cs.length cC) (.slice (some ⟨ga, 0, none⟩) (cs.length + 1) na) j 0 (0, 0) W → Sr b cs T (.slice pC cs.length cC) (.slice (some ⟨ga, 0, none⟩) (cs.length + 1) na) W → Calls Tryz.prog 24 #[.pointer (some ⟨b, 0, none⟩)] W (RPost b cs T (.slice pC cs.length cC) (.slice (some ⟨ga, 0, none⟩) (cs.length + 1) na) W 5 unitV isUnit (.error er : Except K.Er (Unit × K.St))) := fun W h1 h2 => by have h := hcall W h1 h2; rw [hI] at h; exact h
            have hre : R = .error er := hDF.symm.trans (dfs_err hjl (by rw [hpart, hI]; rfl))
            have HC24 := Lib.hid hc2
            have HRES := Lib.hid hre
            clear hcall hc2 hre hDF hpart hI ht1
            have hq1 : (bs (U.n8 t.text)).size ≤ 9223372036854775807 := by have := HSZ.out; omega
            have hq2 : ¬ ((bs (U.n8 t.text)).size > 9223372036854775807) := by omega
            by_cases htx0 : t.text = []
            · have hte := text_none htx0
              have HTX := Lib.hid htx0
              clear htx0
              go_wp2_with (first
                | (go_at_call 23; (first | (with_reducible refine (HH1.out _ HS.out.s.sn HS.out.s.sr).mono ?_) | (with_reducible refine (HH1.out _ (HS.out.drewN _).s.sn (HS.out.drewN _).s.sr).mono ?_)); rintro e w9 ⟨rfl, n9, rfl⟩)
                | (go_at_call 24; refine (HC24.out _ (HS.out.drewN _).s.sn (HS.out.drewN _).s.sr).mono ?_; rintro e w5 ⟨hb5, z, j5, rfl, hz, _, h1, h2, hs5⟩; have hz : z = .tuple #[] := hz; subst hz; have HE := Lib.hid (And.intro h1 h2); have hT := (HS.out.drewN _).step hs5 hb5; clear HS; have HS := Lib.hid hT; clear hT hs5 hb5 h1 h2))
              go_roundg (0)
              case measure => omega
              case rel => exact ⟨⟨_, _, _, rfl⟩, .inr ⟨rfl, er, HRES.out, HE.out.1, HE.out.2, ⟨_, rfl⟩, _, HS.out.s.sn, HS.out.s.bar⟩⟩
            · have hte := text_some htx0
              have HTX := Lib.hid htx0
              clear htx0
              go_wp2_with (first
                | (go_at_call 23; (first | (with_reducible refine (HH1.out _ HS.out.s.sn HS.out.s.sr).mono ?_) | (with_reducible refine (HH1.out _ (HS.out.drewN _).s.sn (HS.out.drewN _).s.sr).mono ?_)); rintro e w9 ⟨rfl, n9, rfl⟩)
                | (go_at_call 24; refine (HC24.out _ (HS.out.drewN _).s.sn (HS.out.drewN _).s.sr).mono ?_; rintro e w5 ⟨hb5, z, j5, rfl, hz, _, h1, h2, hs5⟩; have hz : z = .tuple #[] := hz; subst hz; have HE := Lib.hid (And.intro h1 h2); have hT := (HS.out.drewN _).step hs5 hb5; clear HS; have HS := Lib.hid hT; clear hT hs5 hb5 h1 h2))
              go_roundg (0)
              case measure => omega
              case rel => exact ⟨⟨_, _, _, rfl⟩, .inr ⟨rfl, er, HRES.out, HE.out.1, HE.out.2, ⟨_, rfl⟩, _, HS.out.s.sn, HS.out.s.bar⟩⟩
          | ok s1 =>
            obtain ⟨j1, rfl, _, hj1⟩ := S_goes (instruction_goes hI) hj
            have hc2 : ∀ W, Sn b T (.slice pC cs.length cC) (.slice (some ⟨ga, 0, none⟩) (cs.length + 1) na) j 0 (0, 0) W → Sr b cs T (.slice pC cs.length cC) (.slice (some ⟨ga, 0, none⟩) (cs.length + 1) na) W → Calls Tryz.prog 24 #[.pointer (some ⟨b, 0, none⟩)] W (RPost b cs T (.slice pC cs.length cC) (.slice (some ⟨ga, 0, none⟩) (cs.length + 1) na) W 5 unitV isUnit (.ok ((), S cs j1) : Except K.Er (Unit × K.St))) := fun W h1 h2 => by have h := hcall W h1 h2; rw [hI] at h; exact h
            obtain ⟨hd1, hjj⟩ := dfs_ok hjl hj1 (t1 := t) (by rw [hpart, hI]; rfl)
            have HC24 := Lib.hid hc2
            have HRES := Lib.hid (hd1.symm.trans hDF)
            clear hcall hc2 hd1 hDF hpart hI ht1
            have hq1 : (bs (U.n8 t.text)).size ≤ 9223372036854775807 := by have := HSZ.out; omega
            have hq2 : ¬ ((bs (U.n8 t.text)).size > 9223372036854775807) := by omega
            by_cases htx0 : t.text = []
            · have hte := text_none htx0
              have HTX := Lib.hid htx0
              clear htx0
              go_wp2_with (first
                | (go_at_call 23; (first | (with_reducible refine (HH1.out _ HS.out.s.sn HS.out.s.sr).mono ?_) | (with_reducible refine (HH1.out _ (HS.out.drewN _).s.sn (HS.out.drewN _).s.sr).mono ?_)); rintro e w9 ⟨rfl, n9, rfl⟩)
                | (go_at_call 24; refine (HC24.out _ (HS.out.drewN _).s.sn (HS.out.drewN _).s.sr).mono ?_; rintro e w5 ⟨hb5, j5, hj5, hj5l, rfl, hs5⟩; have hkk := S_inj hj1 hj5l hj5; subst hkk; have hT := (HS.out.drewN _).step hs5 hb5; clear HS; have HS := Lib.hid hT; clear hT hs5 hb5 hj5 hj5l))
              go_roundg (cs.length - j1 + 1)
              case measure => omega
              case rel => exact ⟨⟨_, _, _, rfl⟩, .inl ⟨t, p, j1, rfl, HRES.out, hj1, by omega, by omega, by rw [cat_nil], HPP.out, HS.out.s⟩⟩
            · have hte := text_some htx0
              have HTX := Lib.hid htx0
              clear htx0
              go_wp2_with (first
                | (go_at_call 23; (first | (with_reducible refine (HH1.out _ HS.out.s.sn HS.out.s.sr).mono ?_) | (with_reducible refine (HH1.out _ (HS.out.drewN _).s.sn (HS.out.drewN _).s.sr).mono ?_)); rintro e w9 ⟨rfl, n9, rfl⟩)
                | (go_at_call 24; refine (HC24.out _ (HS.out.drewN _).s.sn (HS.out.drewN _).s.sr).mono ?_; rintro e w5 ⟨hb5, j5, hj5, hj5l, rfl, hs5⟩; have hkk := S_inj hj1 hj5l hj5; subst hkk; have hT := (HS.out.drewN _).step hs5 hb5; clear HS; have HS := Lib.hid hT; clear hT hs5 hb5 hj5 hj5l))
              go_roundg (cs.length - j1 + 1)
              case measure => omega
              case rel => exact ⟨⟨_, _, _, rfl⟩, .inl ⟨t, p, j1, rfl, HRES.out, hj1, by omega, by omega, by rw [cat_nil], HPP.out, HS.out.s⟩⟩
        | false =>
          cases ht2 : K.sees [60, 33, 45, 45] (S cs j) with
          | true =>
            have hpart : K.part (S cs j) t = onS t (K.comment (S cs j)) := by rw [part_eq, ht1, ht2]; rfl
            have hcall := fun W (h1 : Sn b T (.slice pC cs.length cC) (.slice (some ⟨ga, 0, none⟩) (cs.length + 1) na) j 0 (0, 0) W) (h2 : Sr b cs T (.slice pC cs.length cC) (.slice (some ⟨ga, 0, none⟩) (cs.length + 1) na) W) => comment_rf h1 h2 ht2
            have HH1 := Lib.hid (here_q (b := b) (T := T) (C := (.slice pC cs.length cC)) (A := (.slice (some ⟨ga, 0, none⟩) (cs.length + 1) na)) hj [60, 63] (by unfold Small; decide) (by decide) ⟨#[60, 63]⟩ rfl false ht1)
            have HH2 := Lib.hid (here_q (b := b) (T := T) (C := (.slice pC cs.length cC)) (A := (.slice (some ⟨ga, 0, none⟩) (cs.length + 1) na)) hj [60, 33, 45, 45] (by unfold Small; decide) (by decide) ⟨#[60, 33, 45, 45]⟩ rfl true ht2)
            cases hI : K.comment (S cs j) with
            | error er =>
              have hc2 : ∀ W, Sn b T (.slice pC cs.length cC) (.slice (some ⟨ga, 0, none⟩) (cs.length + 1) na) j 0 (0, 0) W → Sr b cs T (.slice pC cs.length cC) (.slice (some ⟨ga, 0, none⟩) (cs.length + 1) na) W → Calls Tryz.prog 24 #[.pointer (some ⟨b, 0, none⟩)] W (RPost b cs T (.slice pC cs.length cC) (.slice (some ⟨ga, 0, none⟩) (cs.length + 1) na) W 5 unitV isUnit (.error er : Except K.Er (Unit × K.St))) := fun W h1 h2 => by have h := hcall W h1 h2; rw [hI] at h; exact h
              have hre : R = .error er := hDF.symm.trans (dfs_err hjl (by rw [hpart, hI]; rfl))
              have HC24 := Lib.hid hc2
              have HRES := Lib.hid hre
              clear hcall hc2 hre hDF hpart hI ht1 ht2
              have hq1 : (bs (U.n8 t.text)).size ≤ 9223372036854775807 := by have := HSZ.out; omega
              have hq2 : ¬ ((bs (U.n8 t.text)).size > 9223372036854775807) := by omega
              by_cases htx0 : t.text = []
              · have hte := text_none htx0
                have HTX := Lib.hid htx0
                clear htx0
                go_wp2_with (first
                  | (go_at_call 23; (first | (with_reducible refine (HH1.out _ HS.out.s.sn HS.out.s.sr).mono ?_) | (with_reducible refine (HH1.out _ (HS.out.drewN _).s.sn (HS.out.drewN _).s.sr).mono ?_) | (with_reducible refine (HH2.out _ HS.out.s.sn HS.out.s.sr).mono ?_) | (with_reducible refine (HH2.out _ (HS.out.drewN _).s.sn (HS.out.drewN _).s.sr).mono ?_)); rintro e w9 ⟨rfl, n9, rfl⟩)
                  | (go_at_call 24; refine (HC24.out _ (HS.out.drewN _).s.sn (HS.out.drewN _).s.sr).mono ?_; rintro e w5 ⟨hb5, z, j5, rfl, hz, _, h1, h2, hs5⟩; have hz : z = .tuple #[] := hz; subst hz; have HE := Lib.hid (And.intro h1 h2); have hT := (HS.out.drewN _).step hs5 hb5; clear HS; have HS := Lib.hid hT; clear hT hs5 hb5 h1 h2))
                go_roundg (0)
                case measure => omega
                case rel => exact ⟨⟨_, _, _, rfl⟩, .inr ⟨rfl, er, HRES.out, HE.out.1, HE.out.2, ⟨_, rfl⟩, _, HS.out.s.sn, HS.out.s.bar⟩⟩
              · have hte := text_some htx0
                have HTX := Lib.hid htx0
                clear htx0
                go_wp2_with (first
                  | (go_at_call 23; (first | (with_reducible refine (HH1.out _ HS.out.s.sn HS.out.s.sr).mono ?_) | (with_reducible refine (HH1.out _ (HS.out.drewN _).s.sn (HS.out.drewN _).s.sr).mono ?_) | (with_reducible refine (HH2.out _ HS.out.s.sn HS.out.s.sr).mono ?_) | (with_reducible refine (HH2.out _ (HS.out.drewN _).s.sn (HS.out.drewN _).s.sr).mono ?_)); rintro e w9 ⟨rfl, n9, rfl⟩)
                  | (go_at_call 24; refine (HC24.out _ (HS.out.drewN _).s.sn (HS.out.drewN _).s.sr).mono ?_; rintro e w5 ⟨hb5, z, j5, rfl, hz, _, h1, h2, hs5⟩; have hz : z = .tuple #[] := hz; subst hz; have HE := Lib.hid (And.intro h1 h2); have hT := (HS.out.drewN _).step hs5 hb5; clear HS; have HS := Lib.hid hT; clear hT hs5 hb5 h1 h2))
                go_roundg (0)
                case measure => omega
                case rel => exact ⟨⟨_, _, _, rfl⟩, .inr ⟨rfl, er, HRES.out, HE.out.1, HE.out.2, ⟨_, rfl⟩, _, HS.out.s.sn, HS.out.s.bar⟩⟩
            | ok s1 =>
              obtain ⟨j1, rfl, _, hj1⟩ := S_goes (comment_goes hI) hj
              have hc2 : ∀ W, Sn b T (.slice pC cs.length cC) (.slice (some ⟨ga, 0, none⟩) (cs.length + 1) na) j 0 (0, 0) W → Sr b cs T (.slice pC cs.length cC) (.slice (some ⟨ga, 0, none⟩) (cs.length + 1) na) W → Calls Tryz.prog 24 #[.pointer (some ⟨b, 0, none⟩)] W (RPost b cs T (.slice pC cs.length cC) (.slice (some ⟨ga, 0, none⟩) (cs.length + 1) na) W 5 unitV isUnit (.ok ((), S cs j1) : Except K.Er (Unit × K.St))) := fun W h1 h2 => by have h := hcall W h1 h2; rw [hI] at h; exact h
              obtain ⟨hd1, hjj⟩ := dfs_ok hjl hj1 (t1 := t) (by rw [hpart, hI]; rfl)
              have HC24 := Lib.hid hc2
              have HRES := Lib.hid (hd1.symm.trans hDF)
              clear hcall hc2 hd1 hDF hpart hI ht1 ht2
              have hq1 : (bs (U.n8 t.text)).size ≤ 9223372036854775807 := by have := HSZ.out; omega
              have hq2 : ¬ ((bs (U.n8 t.text)).size > 9223372036854775807) := by omega
              by_cases htx0 : t.text = []
              · have hte := text_none htx0
                have HTX := Lib.hid htx0
                clear htx0
                go_wp2_with (first
                  | (go_at_call 23; (first | (with_reducible refine (HH1.out _ HS.out.s.sn HS.out.s.sr).mono ?_) | (with_reducible refine (HH1.out _ (HS.out.drewN _).s.sn (HS.out.drewN _).s.sr).mono ?_) | (with_reducible refine (HH2.out _ HS.out.s.sn HS.out.s.sr).mono ?_) | (with_reducible refine (HH2.out _ (HS.out.drewN _).s.sn (HS.out.drewN _).s.sr).mono ?_)); rintro e w9 ⟨rfl, n9, rfl⟩)
                  | (go_at_call 24; refine (HC24.out _ (HS.out.drewN _).s.sn (HS.out.drewN _).s.sr).mono ?_; rintro e w5 ⟨hb5, j5, hj5, hj5l, rfl, hs5⟩; have hkk := S_inj hj1 hj5l hj5; subst hkk; have hT := (HS.out.drewN _).step hs5 hb5; clear HS; have HS := Lib.hid hT; clear hT hs5 hb5 hj5 hj5l))
                go_roundg (cs.length - j1 + 1)
                case measure => omega
                case rel => exact ⟨⟨_, _, _, rfl⟩, .inl ⟨t, p, j1, rfl, HRES.out, hj1, by omega, by omega, by rw [cat_nil], HPP.out, HS.out.s⟩⟩
              · have hte := text_some htx0
                have HTX := Lib.hid htx0
                clear htx0
                go_wp2_with (first
                  | (go_at_call 23; (first | (with_reducible refine (HH1.out _ HS.out.s.sn HS.out.s.sr).mono ?_) | (with_reducible refine (HH1.out _ (HS.out.drewN _).s.sn (HS.out.drewN _).s.sr).mono ?_) | (with_reducible refine (HH2.out _ HS.out.s.sn HS.out.s.sr).mono ?_) | (with_reducible refine (HH2.out _ (HS.out.drewN _).s.sn (HS.out.drewN _).s.sr).mono ?_)); rintro e w9 ⟨rfl, n9, rfl⟩)
                  | (go_at_call 24; refine (HC24.out _ (HS.out.drewN _).s.sn (HS.out.drewN _).s.sr).mono ?_; rintro e w5 ⟨hb5, j5, hj5, hj5l, rfl, hs5⟩; have hkk := S_inj hj1 hj5l hj5; subst hkk; have hT := (HS.out.drewN _).step hs5 hb5; clear HS; have HS := Lib.hid hT; clear hT hs5 hb5 hj5 hj5l))
                go_roundg (cs.length - j1 + 1)
                case measure => omega
                case rel => exact ⟨⟨_, _, _, rfl⟩, .inl ⟨t, p, j1, rfl, HRES.out, hj1, by omega, by omega, by rw [cat_nil], HPP.out, HS.out.s⟩⟩
          | false =>
            cases ht3 : K.sees [60, 33, 91, 67, 68, 65, 84, 65, 91] (S cs j) with
            | true =>
              have h9 : j + 9 ≤ cs.length := by
                have := (List.isPrefixOf_iff_prefix.1 ht3).length_le
                rw [S_eq] at this
                simp only [List.length_drop, List.length_cons, List.length_nil] at this
                omega
              have hpart : K.part (S cs j) t = onM t (pl cs j) (K.section_ (S cs j)) := by rw [part_eq, ht1, ht2, ht3]; rfl
              have HP := Lib.hid (HS.out.step (HS.out.s.sn.setz ((j : Int) + 9) (j + 9) (by omega)) (Bar.set _ 3 _))
              have hcall := fun W (h1 : Sn b T (.slice pC cs.length cC) (.slice (some ⟨ga, 0, none⟩) (cs.length + 1) na) (j + 9) 0 (0, 0) W) (h2 : Sr b cs T (.slice pC cs.length cC) (.slice (some ⟨ga, 0, none⟩) (cs.length + 1) na) W) => to_rf h1 h2 h9 [93, 93, 62] (by unfold Small; decide) (by decide) (by decide) ⟨#[93, 93, 62]⟩ rfl
              have HH1 := Lib.hid (here_q (b := b) (T := T) (C := (.slice pC cs.length cC)) (A := (.slice (some ⟨ga, 0, none⟩) (cs.length + 1) na)) hj [60, 63] (by unfold Small; decide) (by decide) ⟨#[60, 63]⟩ rfl false ht1)
              have HH2 := Lib.hid (here_q (b := b) (T := T) (C := (.slice pC cs.length cC)) (A := (.slice (some ⟨ga, 0, none⟩) (cs.length + 1) na)) hj [60, 33, 45, 45] (by unfold Small; decide) (by decide) ⟨#[60, 33, 45, 45]⟩ rfl false ht2)
              have HH3 := Lib.hid (here_q (b := b) (T := T) (C := (.slice pC cs.length cC)) (A := (.slice (some ⟨ga, 0, none⟩) (cs.length + 1) na)) hj [60, 33, 91, 67, 68, 65, 84, 65, 91] (by unfold Small; decide) (by decide) ⟨#[60, 33, 91, 67, 68, 65, 84, 65, 91]⟩ rfl true ht3)
              have hsec : K.section_ (S cs j) = K.upTo [93, 93, 62] (S cs (j + 9)) := by unfold K.section_; rw [S_skip]
              cases hI : K.upTo [93, 93, 62] (S cs (j + 9)) with
              | error er =>
                have hI' := hsec.trans hI
                have hc2 : ∀ W, Sn b T (.slice pC cs.length cC) (.slice (some ⟨ga, 0, none⟩) (cs.length + 1) na) (j + 9) 0 (0, 0) W → Sr b cs T (.slice pC cs.length cC) (.slice (some ⟨ga, 0, none⟩) (cs.length + 1) na) W → Calls Tryz.prog 25 #[.pointer (some ⟨b, 0, none⟩), .string ⟨#[93, 93, 62]⟩] W (RPost b cs T (.slice pC cs.length cC) (.slice (some ⟨ga, 0, none⟩) (cs.length + 1) na) W 0 strN (badStr 300000) (.error er : Except K.Er (List Nat × K.St))) := fun W h1 h2 => by have h := hcall W h1 h2; rw [hI] at h; exact h
                have hre : R = .error er := hDF.symm.trans (dfs_err hjl (by rw [hpart, hI']; rfl))
                have HCX := Lib.hid hc2
                have HRES := Lib.hid hre
                clear hcall hc2 hre hDF hpart hI hI' ht1 ht2 ht3
                have hq1 : (bs (U.n8 t.text)).size ≤ 9223372036854775807 := by have := HSZ.out; omega
                have hq2 : ¬ ((bs (U.n8 t.text)).size > 9223372036854775807) := by omega
                by_cases htx0 : t.text = []
                · have hte := text_none htx0
                  have HTX := Lib.hid htx0
                  clear htx0
                  go_wp2_with (first
                    | (go_at_call 23; (first | (with_reducible refine (HH1.out _ HS.out.s.sn HS.out.s.sr).mono ?_) | (with_reducible refine (HH1.out _ (HS.out.drewN _).s.sn (HS.out.drewN _).s.sr).mono ?_) | (with_reducible refine (HH2.out _ HS.out.s.sn HS.out.s.sr).mono ?_) | (with_reducible refine (HH2.out _ (HS.out.drewN _).s.sn (HS.out.drewN _).s.sr).mono ?_) | (with_reducible refine (HH3.out _ HS.out.s.sn HS.out.s.sr).mono ?_) | (with_reducible refine (HH3.out _ (HS.out.drewN _).s.sn (HS.out.drewN _).s.sr).mono ?_)); rintro e w9 ⟨rfl, n9, rfl⟩)
                    | (go_at_call 25; refine (HCX.out _ (HP.out.drewN _).s.sn (HP.out.drewN _).s.sr).mono ?_; rintro e w5 ⟨hb5, z, j5, rfl, ⟨o5, rfl, ho5⟩, _, h1, h2, hs5⟩; have HE := Lib.hid (And.intro h1 h2); have hT := (HP.out.drewN _).step hs5 hb5; obtain ⟨v0, v1⟩ := hT.cells; obtain ⟨_, _, x0, x1⟩ := hT.s.cells; clear HS HP; have HS := Lib.hid hT; clear hT hs5 hb5 h1 h2; have hcat : ¬ ((bs (U.n8 t.text)).size + o5.size > 9223372036854775807) := (by have := HSZ.out; omega)))
                  all_goals
                    go_roundg (0)
                    case measure => omega
                    case rel =>
                      first
                        | exact ⟨⟨_, _, _, rfl⟩, .inr ⟨rfl, er, HRES.out, HE.out.1, HE.out.2, ⟨_, rfl⟩, _, HS.out.s.sn, HS.out.s.bar⟩⟩
                        | exact ⟨⟨_, _, _, rfl⟩, .inr ⟨rfl, er, HRES.out, HE.out.1, HE.out.2, ⟨_, rfl⟩, _, (HS.out.s.setAt (pl cs j)).sn, (HS.out.s.setAt (pl cs j)).bar⟩⟩
                · have hte := text_some htx0
                  have HTX := Lib.hid htx0
                  clear htx0
                  go_wp2_with (first
                    | (go_at_call 23; (first | (with_reducible refine (HH1.out _ HS.out.s.sn HS.out.s.sr).mono ?_) | (with_reducible refine (HH1.out _ (HS.out.drewN _).s.sn (HS.out.drewN _).s.sr).mono ?_) | (with_reducible refine (HH2.out _ HS.out.s.sn HS.out.s.sr).mono ?_) | (with_reducible refine (HH2.out _ (HS.out.drewN _).s.sn (HS.out.drewN _).s.sr).mono ?_) | (with_reducible refine (HH3.out _ HS.out.s.sn HS.out.s.sr).mono ?_) | (with_reducible refine (HH3.out _ (HS.out.drewN _).s.sn (HS.out.drewN _).s.sr).mono ?_)); rintro e w9 ⟨rfl, n9, rfl⟩)
                    | (go_at_call 25; refine (HCX.out _ (HP.out.drewN _).s.sn (HP.out.drewN _).s.sr).mono ?_; rintro e w5 ⟨hb5, z, j5, rfl, ⟨o5, rfl, ho5⟩, _, h1, h2, hs5⟩; have HE := Lib.hid (And.intro h1 h2); have hT := (HP.out.drewN _).step hs5 hb5; obtain ⟨v0, v1⟩ := hT.cells; obtain ⟨_, _, x0, x1⟩ := hT.s.cells; clear HS HP; have HS := Lib.hid hT; clear hT hs5 hb5 h1 h2; have hcat : ¬ ((bs (U.n8 t.text)).size + o5.size > 9223372036854775807) := (by have := HSZ.out; omega)))
                  go_roundg (0)
                  case measure => omega
                  case rel => exact ⟨⟨_, _, _, rfl⟩, .inr ⟨rfl, er, HRES.out, HE.out.1, HE.out.2, ⟨_, rfl⟩, _, HS.out.s.sn, HS.out.s.bar⟩⟩
              | ok q =>
                obtain ⟨x, s1⟩ := q
                have hI' := hsec.trans hI
                obtain ⟨j1, rfl, _, hj1⟩ := S_goes (section_goes hI') hj
                have hxl := section_len h9 hj1 hI'
                have hc2 : ∀ W, Sn b T (.slice pC cs.length cC) (.slice (some ⟨ga, 0, none⟩) (cs.length + 1) na) (j + 9) 0 (0, 0) W → Sr b cs T (.slice pC cs.length cC) (.slice (some ⟨ga, 0, none⟩) (cs.length + 1) na) W → Calls Tryz.prog 25 #[.pointer (some ⟨b, 0, none⟩), .string ⟨#[93, 93, 62]⟩] W (RPost b cs T (.slice pC cs.length cC) (.slice (some ⟨ga, 0, none⟩) (cs.length + 1) na) W 0 strN (badStr 300000) (.ok (x, S cs j1) : Except K.Er (List Nat × K.St))) := fun W h1 h2 => by have h := hcall W h1 h2; rw [hI] at h; exact h
                obtain ⟨hd1, hjj⟩ := dfs_ok hjl hj1 (t1 := K.say t x (pl cs j)) (by rw [hpart, hI']; rfl)
                have HCX := Lib.hid hc2
                have HRES := Lib.hid (hd1.symm.trans hDF)
                have hcat : ¬ ((bs (U.n8 t.text)).size + (bs (U.n8 x)).size > 9223372036854775807) := (by have := HSZ.out; have := n8_len4 x; have := bs_size (U.n8 x); omega)
                have heq : bs (U.n8 t.text) ++ bs (U.n8 x) = bs (U.n8 (t.text ++ x)) := by rw [U.n8_append, bs_append]
                have HEQ := Lib.hid heq
                clear hcall hc2 hd1 hDF hpart hI hI' heq ht1 ht2 ht3
                have hq1 : (bs (U.n8 t.text)).size ≤ 9223372036854775807 := by have := HSZ.out; omega
                have hq2 : ¬ ((bs (U.n8 t.text)).size > 9223372036854775807) := by omega
                by_cases htx0 : t.text = []
                · have hte := text_none htx0
                  have HTX := Lib.hid htx0
                  clear htx0
                  by_cases hx0 : x = []
                  · have hxe := text_none hx0
                    have HX := Lib.hid hx0
                    clear hx0
                    go_wp2_with (first
                      | (go_at_call 23; (first | (with_reducible refine (HH1.out _ HS.out.s.sn HS.out.s.sr).mono ?_) | (with_reducible refine (HH1.out _ (HS.out.drewN _).s.sn (HS.out.drewN _).s.sr).mono ?_) | (with_reducible refine (HH2.out _ HS.out.s.sn HS.out.s.sr).mono ?_) | (with_reducible refine (HH2.out _ (HS.out.drewN _).s.sn (HS.out.drewN _).s.sr).mono ?_) | (with_reducible refine (HH3.out _ HS.out.s.sn HS.out.s.sr).mono ?_) | (with_reducible refine (HH3.out _ (HS.out.drewN _).s.sn (HS.out.drewN _).s.sr).mono ?_)); rintro e w9 ⟨rfl, n9, rfl⟩)
                      | (go_at_call 25; refine (HCX.out _ (HP.out.drewN _).s.sn (HP.out.drewN _).s.sr).mono ?_; rintro e w5 ⟨hb5, j5, hj5, hj5l, rfl, hs5⟩; have hkk := S_inj hj1 hj5l hj5; subst hkk; have hT := (HP.out.drewN _).step hs5 hb5; obtain ⟨v0, v1⟩ := hT.cells; obtain ⟨_, _, x0, x1⟩ := hT.s.cells; clear HS HP; have HS := Lib.hid hT; clear hT hs5 hb5 hj5 hj5l))
                    go_roundg (cs.length - j1 + 1)
                    case measure => omega
                    case rel => exact ⟨⟨_, _, _, rfl⟩, .inl ⟨K.say t x (pl cs j), p, j1, rfl, HRES.out, hj1, by show (t.text ++ x).length ≤ j1; rw [List.length_append]; omega, by show t.toks.length ≤ _; omega, by rw [HEQ.out]; rfl, fun h => absurd (by show t.text ++ x = []; rw [HTX.out, HX.out]; rfl) h, HS.out.s⟩⟩
                  · have hxe := text_some hx0
                    clear hx0
                    go_wp2_with (first
                      | (go_at_call 23; (first | (with_reducible refine (HH1.out _ HS.out.s.sn HS.out.s.sr).mono ?_) | (with_reducible refine (HH1.out _ (HS.out.drewN _).s.sn (HS.out.drewN _).s.sr).mono ?_) | (with_reducible refine (HH2.out _ HS.out.s.sn HS.out.s.sr).mono ?_) | (with_reducible refine (HH2.out _ (HS.out.drewN _).s.sn (HS.out.drewN _).s.sr).mono ?_) | (with_reducible refine (HH3.out _ HS.out.s.sn HS.out.s.sr).mono ?_) | (with_reducible refine (HH3.out _ (HS.out.drewN _).s.sn (HS.out.drewN _).s.sr).mono ?_)); rintro e w9 ⟨rfl, n9, rfl⟩)
                      | (go_at_call 25; refine (HCX.out _ (HP.out.drewN _).s.sn (HP.out.drewN _).s.sr).mono ?_; rintro e w5 ⟨hb5, j5, hj5, hj5l, rfl, hs5⟩; have hkk := S_inj hj1 hj5l hj5; subst hkk; have hT := (HP.out.drewN _).step hs5 hb5; obtain ⟨v0, v1⟩ := hT.cells; obtain ⟨_, _, x0, x1⟩ := hT.s.cells; clear HS HP; have HS := Lib.hid hT; clear hT hs5 hb5 hj5 hj5l))
                    go_roundg (cs.length - j1 + 1)
                    case measure => omega
                    case rel => exact ⟨⟨_, _, _, rfl⟩, .inl ⟨K.say t x (pl cs j), pl cs j, j1, rfl, HRES.out, hj1, by show (t.text ++ x).length ≤ j1; rw [List.length_append]; omega, by show t.toks.length ≤ _; omega, by rw [HEQ.out]; rfl, fun _ => by show pl cs j = if t.text = [] then pl cs j else t.place; rw [if_pos HTX.out], HS.out.s.setAt (pl cs j)⟩⟩
                · have hte := text_some htx0
                  have HTX := Lib.hid htx0
                  clear htx0
                  go_wp2_with (first
                    | (go_at_call 23; (first | (with_reducible refine (HH1.out _ HS.out.s.sn HS.out.s.sr).mono ?_) | (with_reducible refine (HH1.out _ (HS.out.drewN _).s.sn (HS.out.drewN _).s.sr).mono ?_) | (with_reducible refine (HH2.out _ HS.out.s.sn HS.out.s.sr).mono ?_) | (with_reducible refine (HH2.out _ (HS.out.drewN _).s.sn (HS.out.drewN _).s.sr).mono ?_) | (with_reducible refine (HH3.out _ HS.out.s.sn HS.out.s.sr).mono ?_) | (with_reducible refine (HH3.out _ (HS.out.drewN _).s.sn (HS.out.drewN _).s.sr).mono ?_)); rintro e w9 ⟨rfl, n9, rfl⟩)
                    | (go_at_call 25; refine (HCX.out _ (HP.out.drewN _).s.sn (HP.out.drewN _).s.sr).mono ?_; rintro e w5 ⟨hb5, j5, hj5, hj5l, rfl, hs5⟩; have hkk := S_inj hj1 hj5l hj5; subst hkk; have hT := (HP.out.drewN _).step hs5 hb5; obtain ⟨v0, v1⟩ := hT.cells; obtain ⟨_, _, x0, x1⟩ := hT.s.cells; clear HS HP; have HS := Lib.hid hT; clear hT hs5 hb5 hj5 hj5l))
                  go_roundg (cs.length - j1 + 1)
                  case measure => omega
                  case rel => exact ⟨⟨_, _, _, rfl⟩, .inl ⟨K.say t x (pl cs j), p, j1, rfl, HRES.out, hj1, by show (t.text ++ x).length ≤ j1; rw [List.length_append]; omega, by show t.toks.length ≤ _; omega, by rw [HEQ.out]; rfl, fun _ => by show p = if t.text = [] then pl cs j else t.place; rw [if_neg HTX.out]; exact HPP.out HTX.out, HS.out.s⟩⟩
            | false =>
              cases ht4 : K.sees [60, 33, 68, 79, 67, 84, 89, 80, 69] (S cs j) with
              | true =>
                have hpart : K.part (S cs j) t = .error (23, pl cs j) := by rw [part_eq, ht1, ht2, ht3, ht4]; rfl
                have HH1 := Lib.hid (here_q (b := b) (T := T) (C := (.slice pC cs.length cC)) (A := (.slice (some ⟨ga, 0, none⟩) (cs.length + 1) na)) hj [60, 63] (by unfold Small; decide) (by decide) ⟨#[60, 63]⟩ rfl false ht1)
                have HH2 := Lib.hid (here_q (b := b) (T := T) (C := (.slice pC cs.length cC)) (A := (.slice (some ⟨ga, 0, none⟩) (cs.length + 1) na)) hj [60, 33, 45, 45] (by unfold Small; decide) (by decide) ⟨#[60, 33, 45, 45]⟩ rfl false ht2)
                have HH3 := Lib.hid (here_q (b := b) (T := T) (C := (.slice pC cs.length cC)) (A := (.slice (some ⟨ga, 0, none⟩) (cs.length + 1) na)) hj [60, 33, 91, 67, 68, 65, 84, 65, 91] (by unfold Small; decide) (by decide) ⟨#[60, 33, 91, 67, 68, 65, 84, 65, 91]⟩ rfl false ht3)
                have HH4 := Lib.hid (here_q (b := b) (T := T) (C := (.slice pC cs.length cC)) (A := (.slice (some ⟨ga, 0, none⟩) (cs.length + 1) na)) hj [60, 33, 68, 79, 67, 84, 89, 80, 69] (by unfold Small; decide) (by decide) ⟨#[60, 33, 68, 79, 67, 84, 89, 80, 69]⟩ rfl true ht4)
                have hre : R = .error (23, pl cs j) := hDF.symm.trans (dfs_err hjl hpart)
                have hmn : min j cs.length = j := by omega
                have hc2 := fun W (h1 : Sn b T (.slice pC cs.length cC) (.slice (some ⟨ga, 0, none⟩) (cs.length + 1) na) j 0 (0, 0) W) (h2 : Sr b cs T (.slice pC cs.length cC) (.slice (some ⟨ga, 0, none⟩) (cs.length + 1) na) W) => bad_ok h1 h2 j (by omega) 23
                rw [hmn] at hc2
                have HCX := Lib.hid hc2
                have HRES := Lib.hid hre
                clear hc2 hre hDF hpart ht1 ht2 ht3 ht4
                have hq1 : (bs (U.n8 t.text)).size ≤ 9223372036854775807 := by have := HSZ.out; omega
                have hq2 : ¬ ((bs (U.n8 t.text)).size > 9223372036854775807) := by omega
                by_cases htx0 : t.text = []
                · have hte := text_none htx0
                  have HTX := Lib.hid htx0
                  clear htx0
                  go_wp2_with (first
                    | (go_at_call 23; (first | (with_reducible refine (HH1.out _ HS.out.s.sn HS.out.s.sr).mono ?_) | (with_reducible refine (HH1.out _ (HS.out.drewN _).s.sn (HS.out.drewN _).s.sr).mono ?_) | (with_reducible refine (HH2.out _ HS.out.s.sn HS.out.s.sr).mono ?_) | (with_reducible refine (HH2.out _ (HS.out.drewN _).s.sn (HS.out.drewN _).s.sr).mono ?_) | (with_reducible refine (HH3.out _ HS.out.s.sn HS.out.s.sr).mono ?_) | (with_reducible refine (HH3.out _ (HS.out.drewN _).s.sn (HS.out.drewN _).s.sr).mono ?_) | (with_reducible refine (HH4.out _ HS.out.s.sn HS.out.s.sr).mono ?_) | (with_reducible refine (HH4.out _ (HS.out.drewN _).s.sn (HS.out.drewN _).s.sr).mono ?_)); rintro e w9 ⟨rfl, n9, rfl⟩)
                    | (go_at_call 26; refine (HCX.out _ (HS.out.drewN _).s.sn (HS.out.drewN _).s.sr).mono ?_; rintro e w5 ⟨rfl, hs5, hb5⟩; have hT := (HS.out.drewN _).step hs5 hb5; clear HS; have HS := Lib.hid hT; clear hT hs5 hb5))
                  go_roundg (0)
                  case measure => omega
                  case rel => exact ⟨⟨_, _, _, rfl⟩, .inr ⟨rfl, (23, pl cs j), HRES.out, by show 1 ≤ 23; decide, by show 23 ≤ 100; decide, ⟨_, rfl⟩, _, HS.out.s.sn, HS.out.s.bar⟩⟩
                · have hte := text_some htx0
                  have HTX := Lib.hid htx0
                  clear htx0
                  go_wp2_with (first
                    | (go_at_call 23; (first | (with_reducible refine (HH1.out _ HS.out.s.sn HS.out.s.sr).mono ?_) | (with_reducible refine (HH1.out _ (HS.out.drewN _).s.sn (HS.out.drewN _).s.sr).mono ?_) | (with_reducible refine (HH2.out _ HS.out.s.sn HS.out.s.sr).mono ?_) | (with_reducible refine (HH2.out _ (HS.out.drewN _).s.sn (HS.out.drewN _).s.sr).mono ?_) | (with_reducible refine (HH3.out _ HS.out.s.sn HS.out.s.sr).mono ?_) | (with_reducible refine (HH3.out _ (HS.out.drewN _).s.sn (HS.out.drewN _).s.sr).mono ?_) | (with_reducible refine (HH4.out _ HS.out.s.sn HS.out.s.sr).mono ?_) | (with_reducible refine (HH4.out _ (HS.out.drewN _).s.sn (HS.out.drewN _).s.sr).mono ?_)); rintro e w9 ⟨rfl, n9, rfl⟩)
                    | (go_at_call 26; refine (HCX.out _ (HS.out.drewN _).s.sn (HS.out.drewN _).s.sr).mono ?_; rintro e w5 ⟨rfl, hs5, hb5⟩; have hT := (HS.out.drewN _).step hs5 hb5; clear HS; have HS := Lib.hid hT; clear hT hs5 hb5))
                  go_roundg (0)
                  case measure => omega
                  case rel => exact ⟨⟨_, _, _, rfl⟩, .inr ⟨rfl, (23, pl cs j), HRES.out, by show 1 ≤ 23; decide, by show 23 ≤ 100; decide, ⟨_, rfl⟩, _, HS.out.s.sn, HS.out.s.bar⟩⟩
              | false =>
                cases ht5 : K.sees [60, 33] (S cs j) with
                | true =>
                  have hpart : K.part (S cs j) t = .error (21, pl cs j) := by rw [part_eq, ht1, ht2, ht3, ht4, ht5]; rfl
                  have HH1 := Lib.hid (here_q (b := b) (T := T) (C := (.slice pC cs.length cC)) (A := (.slice (some ⟨ga, 0, none⟩) (cs.length + 1) na)) hj [60, 63] (by unfold Small; decide) (by decide) ⟨#[60, 63]⟩ rfl false ht1)
                  have HH2 := Lib.hid (here_q (b := b) (T := T) (C := (.slice pC cs.length cC)) (A := (.slice (some ⟨ga, 0, none⟩) (cs.length + 1) na)) hj [60, 33, 45, 45] (by unfold Small; decide) (by decide) ⟨#[60, 33, 45, 45]⟩ rfl false ht2)
                  have HH3 := Lib.hid (here_q (b := b) (T := T) (C := (.slice pC cs.length cC)) (A := (.slice (some ⟨ga, 0, none⟩) (cs.length + 1) na)) hj [60, 33, 91, 67, 68, 65, 84, 65, 91] (by unfold Small; decide) (by decide) ⟨#[60, 33, 91, 67, 68, 65, 84, 65, 91]⟩ rfl false ht3)
                  have HH4 := Lib.hid (here_q (b := b) (T := T) (C := (.slice pC cs.length cC)) (A := (.slice (some ⟨ga, 0, none⟩) (cs.length + 1) na)) hj [60, 33, 68, 79, 67, 84, 89, 80, 69] (by unfold Small; decide) (by decide) ⟨#[60, 33, 68, 79, 67, 84, 89, 80, 69]⟩ rfl false ht4)
                  have HH5 := Lib.hid (here_q (b := b) (T := T) (C := (.slice pC cs.length cC)) (A := (.slice (some ⟨ga, 0, none⟩) (cs.length + 1) na)) hj [60, 33] (by unfold Small; decide) (by decide) ⟨#[60, 33]⟩ rfl true ht5)
                  have hre : R = .error (21, pl cs j) := hDF.symm.trans (dfs_err hjl hpart)
                  have hmn : min j cs.length = j := by omega
                  have hc2 := fun W (h1 : Sn b T (.slice pC cs.length cC) (.slice (some ⟨ga, 0, none⟩) (cs.length + 1) na) j 0 (0, 0) W) (h2 : Sr b cs T (.slice pC cs.length cC) (.slice (some ⟨ga, 0, none⟩) (cs.length + 1) na) W) => bad_ok h1 h2 j (by omega) 21
                  rw [hmn] at hc2
                  have HCX := Lib.hid hc2
                  have HRES := Lib.hid hre
                  clear hc2 hre hDF hpart ht1 ht2 ht3 ht4 ht5
                  have hq1 : (bs (U.n8 t.text)).size ≤ 9223372036854775807 := by have := HSZ.out; omega
                  have hq2 : ¬ ((bs (U.n8 t.text)).size > 9223372036854775807) := by omega
                  by_cases htx0 : t.text = []
                  · have hte := text_none htx0
                    have HTX := Lib.hid htx0
                    clear htx0
                    go_wp2_with (first
                      | (go_at_call 23; (first | (with_reducible refine (HH1.out _ HS.out.s.sn HS.out.s.sr).mono ?_) | (with_reducible refine (HH1.out _ (HS.out.drewN _).s.sn (HS.out.drewN _).s.sr).mono ?_) | (with_reducible refine (HH2.out _ HS.out.s.sn HS.out.s.sr).mono ?_) | (with_reducible refine (HH2.out _ (HS.out.drewN _).s.sn (HS.out.drewN _).s.sr).mono ?_) | (with_reducible refine (HH3.out _ HS.out.s.sn HS.out.s.sr).mono ?_) | (with_reducible refine (HH3.out _ (HS.out.drewN _).s.sn (HS.out.drewN _).s.sr).mono ?_) | (with_reducible refine (HH4.out _ HS.out.s.sn HS.out.s.sr).mono ?_) | (with_reducible refine (HH4.out _ (HS.out.drewN _).s.sn (HS.out.drewN _).s.sr).mono ?_) | (with_reducible refine (HH5.out _ HS.out.s.sn HS.out.s.sr).mono ?_) | (with_reducible refine (HH5.out _ (HS.out.drewN _).s.sn (HS.out.drewN _).s.sr).mono ?_)); rintro e w9 ⟨rfl, n9, rfl⟩)
                      | (go_at_call 26; refine (HCX.out _ (HS.out.drewN _).s.sn (HS.out.drewN _).s.sr).mono ?_; rintro e w5 ⟨rfl, hs5, hb5⟩; have hT := (HS.out.drewN _).step hs5 hb5; clear HS; have HS := Lib.hid hT; clear hT hs5 hb5))
                    go_roundg (0)
                    case measure => omega
                    case rel => exact ⟨⟨_, _, _, rfl⟩, .inr ⟨rfl, (21, pl cs j), HRES.out, by show 1 ≤ 21; decide, by show 21 ≤ 100; decide, ⟨_, rfl⟩, _, HS.out.s.sn, HS.out.s.bar⟩⟩
                  · have hte := text_some htx0
                    have HTX := Lib.hid htx0
                    clear htx0
                    go_wp2_with (first
                      | (go_at_call 23; (first | (with_reducible refine (HH1.out _ HS.out.s.sn HS.out.s.sr).mono ?_) | (with_reducible refine (HH1.out _ (HS.out.drewN _).s.sn (HS.out.drewN _).s.sr).mono ?_) | (with_reducible refine (HH2.out _ HS.out.s.sn HS.out.s.sr).mono ?_) | (with_reducible refine (HH2.out _ (HS.out.drewN _).s.sn (HS.out.drewN _).s.sr).mono ?_) | (with_reducible refine (HH3.out _ HS.out.s.sn HS.out.s.sr).mono ?_) | (with_reducible refine (HH3.out _ (HS.out.drewN _).s.sn (HS.out.drewN _).s.sr).mono ?_) | (with_reducible refine (HH4.out _ HS.out.s.sn HS.out.s.sr).mono ?_) | (with_reducible refine (HH4.out _ (HS.out.drewN _).s.sn (HS.out.drewN _).s.sr).mono ?_) | (with_reducible refine (HH5.out _ HS.out.s.sn HS.out.s.sr).mono ?_) | (with_reducible refine (HH5.out _ (HS.out.drewN _).s.sn (HS.out.drewN _).s.sr).mono ?_)); rintro e w9 ⟨rfl, n9, rfl⟩)
                      | (go_at_call 26; refine (HCX.out _ (HS.out.drewN _).s.sn (HS.out.drewN _).s.sr).mono ?_; rintro e w5 ⟨rfl, hs5, hb5⟩; have hT := (HS.out.drewN _).step hs5 hb5; clear HS; have HS := Lib.hid hT; clear hT hs5 hb5))
                    go_roundg (0)
                    case measure => omega
                    case rel => exact ⟨⟨_, _, _, rfl⟩, .inr ⟨rfl, (21, pl cs j), HRES.out, by show 1 ≤ 21; decide, by show 21 ≤ 100; decide, ⟨_, rfl⟩, _, HS.out.s.sn, HS.out.s.bar⟩⟩
                | false =>
                  cases ht6 : K.sees [60] (S cs j) with
                  | true =>
                    have HH1 := Lib.hid (here_q (b := b) (T := T) (C := (.slice pC cs.length cC)) (A := (.slice (some ⟨ga, 0, none⟩) (cs.length + 1) na)) hj [60, 63] (by unfold Small; decide) (by decide) ⟨#[60, 63]⟩ rfl false ht1)
                    have HH2 := Lib.hid (here_q (b := b) (T := T) (C := (.slice pC cs.length cC)) (A := (.slice (some ⟨ga, 0, none⟩) (cs.length + 1) na)) hj [60, 33, 45, 45] (by unfold Small; decide) (by decide) ⟨#[60, 33, 45, 45]⟩ rfl false ht2)
                    have HH3 := Lib.hid (here_q (b := b) (T := T) (C := (.slice pC cs.length cC)) (A := (.slice (some ⟨ga, 0, none⟩) (cs.length + 1) na)) hj [60, 33, 91, 67, 68, 65, 84, 65, 91] (by unfold Small; decide) (by decide) ⟨#[60, 33, 91, 67, 68, 65, 84, 65, 91]⟩ rfl false ht3)
                    have HH4 := Lib.hid (here_q (b := b) (T := T) (C := (.slice pC cs.length cC)) (A := (.slice (some ⟨ga, 0, none⟩) (cs.length + 1) na)) hj [60, 33, 68, 79, 67, 84, 89, 80, 69] (by unfold Small; decide) (by decide) ⟨#[60, 33, 68, 79, 67, 84, 89, 80, 69]⟩ rfl false ht4)
                    have HH5 := Lib.hid (here_q (b := b) (T := T) (C := (.slice pC cs.length cC)) (A := (.slice (some ⟨ga, 0, none⟩) (cs.length + 1) na)) hj [60, 33] (by unfold Small; decide) (by decide) ⟨#[60, 33]⟩ rfl false ht5)
                    have HH6 := Lib.hid (here_q (b := b) (T := T) (C := (.slice pC cs.length cC)) (A := (.slice (some ⟨ga, 0, none⟩) (cs.length + 1) na)) hj [60] (by unfold Small; decide) (by decide) ⟨#[60]⟩ rfl true ht6)
                    obtain ⟨RT, hRT⟩ : ∃ RT : Except K.Er (K.Tk × K.St), RT = (if K.sees [60, 47] (S cs j) = true then K.endTag (S cs j) else K.startTag (S cs j)) := ⟨_, rfl⟩
                    have hcall : ∀ W, Sn b T (.slice pC cs.length cC) (.slice (some ⟨ga, 0, none⟩) (cs.length + 1) na) j 0 (0, 0) W → Sr b cs T (.slice pC cs.length cC) (.slice (some ⟨ga, 0, none⟩) (cs.length + 1) na) W → Calls Tryz.prog 27 #[.pointer (some ⟨b, 0, none⟩)] W (TPost b cs T (.slice pC cs.length cC) (.slice (some ⟨ga, 0, none⟩) (cs.length + 1) na) W.heap.size W RT) := by
                      intro W h1 h2
                      rw [hRT]
                      cases h7 : K.sees [60, 47] (S cs j) with
                      | true => exact endTag_rf h1 h2 h7 rfl
                      | false => exact startTag_rf h1 h2 h7 ht6 rfl
                    have hpart : K.part (S cs j) t = onT t RT := by
                      rw [part_eq, ht1, ht2, ht3, ht4, ht5, ht6, hRT]
                      cases h7 : K.sees [60, 47] (S cs j) <;> rfl
                    have hgs : ∀ k s1, RT = .ok (k, s1) → Goes (S cs j) s1 := by
                      intro k s1 h
                      rw [hRT] at h
                      split at h
                      · exact (endTag_good h).2.2.2
                      · exact (startTag_good h).2.2.2
                    cases RT with
                    | error er =>
                      have hre : R = .error er := hDF.symm.trans (dfs_err hjl (by rw [hpart]; rfl))
                      have HCX := Lib.hid hcall
                      have HRES := Lib.hid hre
                      clear hcall hre hDF hpart hgs hRT ht1 ht2 ht3 ht4 ht5 ht6
                      have hq1 : (bs (U.n8 t.text)).size ≤ 9223372036854775807 := by have := HSZ.out; omega
                      have hq2 : ¬ ((bs (U.n8 t.text)).size > 9223372036854775807) := by omega
                      by_cases htx0 : t.text = []
                      · have hte := text_none htx0
                        have HTX := Lib.hid htx0
                        clear htx0
                        go_wp2_with (first
                          | (go_at_call 23; (first | (with_reducible refine (HH1.out _ HS.out.s.sn HS.out.s.sr).mono ?_) | (with_reducible refine (HH1.out _ (HS.out.drewN _).s.sn (HS.out.drewN _).s.sr).mono ?_) | (with_reducible refine (HH2.out _ HS.out.s.sn HS.out.s.sr).mono ?_) | (with_reducible refine (HH2.out _ (HS.out.drewN _).s.sn (HS.out.drewN _).s.sr).mono ?_) | (with_reducible refine (HH3.out _ HS.out.s.sn HS.out.s.sr).mono ?_) | (with_reducible refine (HH3.out _ (HS.out.drewN _).s.sn (HS.out.drewN _).s.sr).mono ?_) | (with_reducible refine (HH4.out _ HS.out.s.sn HS.out.s.sr).mono ?_) | (with_reducible refine (HH4.out _ (HS.out.drewN _).s.sn (HS.out.drewN _).s.sr).mono ?_) | (with_reducible refine (HH5.out _ HS.out.s.sn HS.out.s.sr).mono ?_) | (with_reducible refine (HH5.out _ (HS.out.drewN _).s.sn (HS.out.drewN _).s.sr).mono ?_) | (with_reducible refine (HH6.out _ HS.out.s.sn HS.out.s.sr).mono ?_) | (with_reducible refine (HH6.out _ (HS.out.drewN _).s.sn (HS.out.drewN _).s.sr).mono ?_)); rintro e w9 ⟨rfl, n9, rfl⟩)
                          | (go_at_call 27; refine (HCX.out _ (HS.out.drewN _).s.sn (HS.out.drewN _).s.sr).mono ?_; rintro e w5 ⟨hb5, ⟨z, rfl, d0, d1, d2, d3, d4, d5, d6, d7, d8, rfl⟩, h1, h2, j5, _, hs5⟩; have HE := Lib.hid (And.intro h1 h2); have hT := (HS.out.drewN _).step hs5 hb5; obtain ⟨xs, ho, ht⟩ := hT.s.list; obtain ⟨a0, a1, _, _⟩ := hT.s.cells; have hszB := hT.s.size; have HO := Lib.hid ho; have HT := Lib.hid ht; clear HS; have HS := Lib.hid hT; clear hT hs5 hb5 h1 h2 ho ht)
                          | (at_builtin; refine wpList_append_lies _ rfl _ _ 23 rfl B 38 i38 _ 7 88 Tryz.underlying23 hi0 hz0 hz1 hz2 rfl (by decide) _ t.toks.length xs rfl ((HO.out.alloc _).alloc _) ⟨w5.heap.size + 1, 0, none⟩ 1 1 [.int .i64 d0, .string d1, .slice d2 d3 d4, .string d5, .int .i64 d6, .int .i64 d7, .bool d8] rfl rfl (by rw [show w5.heap.size + 1 = (w5.alloc (.cells #[.int .i64 d0, .string d1, .slice d2 d3 d4, .string d5, .int .i64 d6, .int .i64 d7, .bool d8] 38)).heap.size by simp]; exact World.news_of_block (heap_alloc_new _ _)) (oneCell7 _ _ _ _ _ _ _ _ _) (by decide) (by unfold maxLen; omega) (by omega) (by have := HS.out.s.size; simp; omega) _ rfl ?_; intro g1 cap1 w6 hown1 hgrow1 hat1 hlt1; have hW := HS.out.s.below ((Below.refl w5.heap.size w5).alloc (Nat.le_refl _) (.cells #[.int .i64 d0, .string d1, .slice d2 d3 d4, .string d5, .int .i64 d6, .int .i64 d7, .bool d8] 38)); have HG := Lib.hid (hW.growBadN rfl (HO.out.alloc _) hgrow1); clear hown1 hgrow1 hat1 hlt1 hW))
                        go_roundg (0)
                        case measure => omega
                        case rel => exact ⟨⟨_, _, _, rfl⟩, .inr ⟨rfl, er, HRES.out, HE.out.1, HE.out.2, ⟨_, rfl⟩, _, HG.out.1, HG.out.2⟩⟩
                      · have hte := text_some htx0
                        have HTX := Lib.hid htx0
                        clear htx0
                        have hpe := HPP.out HTX.out
                        subst hpe
                        go_wp2_with (first
                          | (go_at_call 23; (first | (with_reducible refine (HH1.out _ HS.out.s.sn HS.out.s.sr).mono ?_) | (with_reducible refine (HH1.out _ (HS.out.drewN _).s.sn (HS.out.drewN _).s.sr).mono ?_) | (with_reducible refine (HH2.out _ HS.out.s.sn HS.out.s.sr).mono ?_) | (with_reducible refine (HH2.out _ (HS.out.drewN _).s.sn (HS.out.drewN _).s.sr).mono ?_) | (with_reducible refine (HH3.out _ HS.out.s.sn HS.out.s.sr).mono ?_) | (with_reducible refine (HH3.out _ (HS.out.drewN _).s.sn (HS.out.drewN _).s.sr).mono ?_) | (with_reducible refine (HH4.out _ HS.out.s.sn HS.out.s.sr).mono ?_) | (with_reducible refine (HH4.out _ (HS.out.drewN _).s.sn (HS.out.drewN _).s.sr).mono ?_) | (with_reducible refine (HH5.out _ HS.out.s.sn HS.out.s.sr).mono ?_) | (with_reducible refine (HH5.out _ (HS.out.drewN _).s.sn (HS.out.drewN _).s.sr).mono ?_) | (with_reducible refine (HH6.out _ HS.out.s.sn HS.out.s.sr).mono ?_) | (with_reducible refine (HH6.out _ (HS.out.drewN _).s.sn (HS.out.drewN _).s.sr).mono ?_)); rintro e w9 ⟨rfl, n9, rfl⟩)
                          | (go_at_call 27; refine (HCX.out _ (HS.out.drewN _).s.sn (HS.out.drewN _).s.sr).mono ?_; rintro e w5 ⟨hb5, ⟨z, rfl, d0, d1, d2, d3, d4, d5, d6, d7, d8, rfl⟩, h1, h2, j5, _, hs5⟩; have HE := Lib.hid (And.intro h1 h2); have hT := (HS.out.drewN _).step hs5 hb5; obtain ⟨xs, ho, ht⟩ := hT.s.list; obtain ⟨a0, a1, _, _⟩ := hT.s.cells; have hszB := hT.s.size; have HO := Lib.hid ho; have HT := Lib.hid ht; clear HS; have HS := Lib.hid hT; clear hT hs5 hb5 h1 h2 ho ht)
                          | (at_builtin; refine wpList_append_lies _ rfl _ _ 23 rfl B 38 i38 _ 7 88 Tryz.underlying23 hi0 hz0 hz1 hz2 rfl (by decide) _ t.toks.length xs rfl ((HO.out.alloc _).alloc _) ⟨w5.heap.size + 1, 0, none⟩ 1 1 [.int .i64 3, .string ⟨#[]⟩, .slice none 0 0, .string (bs (U.n8 t.text)), .int .i64 (t.place.1 : Int), .int .i64 (t.place.2 : Int), .bool false] rfl rfl (by rw [show w5.heap.size + 1 = (w5.alloc (.cells #[.int .i64 d0, .string d1, .slice d2 d3 d4, .string d5, .int .i64 d6, .int .i64 d7, .bool d8] 38)).heap.size by simp]; exact World.news_of_block (heap_alloc_new _ _)) (oneCell7 _ _ _ _ _ _ _ _ _) (by decide) (by unfold maxLen; omega) (by omega) (by have := HS.out.s.size; simp; omega) _ rfl ?_; intro g1 cap1 w6 hown1 hgrow1 hat1 hlt1; have hal := (Below.refl w5.heap.size w5).alloc (Nat.le_refl _) (.cells #[.int .i64 d0, .string d1, .slice d2 d3 d4, .string d5, .int .i64 d6, .int .i64 d7, .bool d8] 38); have hW := HS.out.s.below hal; have hg6 := hW.growN rfl (HO.out.alloc _) (HT.out.keep (KeepT.bel hal)) ⟨3, [], [], t.text, t.place, false⟩ (.slice none 0 0) ⟨rfl, .inl ⟨rfl, rfl⟩⟩ hown1 hgrow1; obtain ⟨hT6, ht6⟩ := hg6; have hX6 := tok_kept HO.out hgrow1; obtain ⟨y0, y1, y2, y3, y4, y5, y6⟩ := cells7 hX6; have hszw := lt_of_heap hX6; have HS6 := Lib.hid hT6; have HT6 := Lib.hid ht6; have HO6 := Lib.hid hown1; clear hT6 ht6 hown1 hgrow1 hat1 hlt1 hal hW hX6)
                          | (at_builtin; refine wpList_append_lies _ rfl _ _ 23 rfl B 38 i38 _ 7 88 Tryz.underlying23 hi0 hz0 hz1 hz2 rfl (by decide) _ (t.toks.length + 1) _ rfl (HO6.out.alloc _) ⟨w6.heap.size, 0, none⟩ 1 1 [.int .i64 d0, .string d1, .slice d2 d3 d4, .string d5, .int .i64 d6, .int .i64 d7, .bool d8] rfl rfl (World.news_of_block (heap_alloc_new _ _)) (oneCell7 _ _ _ _ _ _ _ _ _) (by decide) (by unfold maxLen; omega) (by omega) (by have := HS6.out.size; simp; omega) _ rfl ?_; intro g2 cap2 w7 hown2 hgrow2 hat2 hlt2; have HG := Lib.hid (HS6.out.growBadN (by rw [List.length_append]; rfl) HO6.out hgrow2); clear hown2 hgrow2 hat2 hlt2))
                        go_roundg (0)
                        case measure => omega
                        case rel => exact ⟨⟨_, _, _, rfl⟩, .inr ⟨rfl, er, HRES.out, HE.out.1, HE.out.2, ⟨_, rfl⟩, _, HG.out.1, HG.out.2⟩⟩
                    | ok q =>
                      obtain ⟨k, s1⟩ := q
                      obtain ⟨j1, rfl, _, hj1⟩ := S_goes (hgs _ _ rfl) hj
                      obtain ⟨hd1, hjj⟩ := dfs_ok hjl hj1 (t1 := K.tag t k) (by rw [hpart]; rfl)
                      have HCX := Lib.hid hcall
                      have HRES := Lib.hid (hd1.symm.trans hDF)
                      clear hcall hd1 hDF hpart hgs hRT ht1 ht2 ht3 ht4 ht5 ht6
                      have hq1 : (bs (U.n8 t.text)).size ≤ 9223372036854775807 := by have := HSZ.out; omega
                      have hq2 : ¬ ((bs (U.n8 t.text)).size > 9223372036854775807) := by omega
                      by_cases htx0 : t.text = []
                      · have hte := text_none htx0
                        have HTX := Lib.hid htx0
                        clear htx0
                        have HEN := Lib.hid (show K.endText t = t.toks by unfold K.endText; rw [if_pos HTX.out])
                        go_wp2_with (first
                          | (go_at_call 23; (first | (with_reducible refine (HH1.out _ HS.out.s.sn HS.out.s.sr).mono ?_) | (with_reducible refine (HH1.out _ (HS.out.drewN _).s.sn (HS.out.drewN _).s.sr).mono ?_) | (with_reducible refine (HH2.out _ HS.out.s.sn HS.out.s.sr).mono ?_) | (with_reducible refine (HH2.out _ (HS.out.drewN _).s.sn (HS.out.drewN _).s.sr).mono ?_) | (with_reducible refine (HH3.out _ HS.out.s.sn HS.out.s.sr).mono ?_) | (with_reducible refine (HH3.out _ (HS.out.drewN _).s.sn (HS.out.drewN _).s.sr).mono ?_) | (with_reducible refine (HH4.out _ HS.out.s.sn HS.out.s.sr).mono ?_) | (with_reducible refine (HH4.out _ (HS.out.drewN _).s.sn (HS.out.drewN _).s.sr).mono ?_) | (with_reducible refine (HH5.out _ HS.out.s.sn HS.out.s.sr).mono ?_) | (with_reducible refine (HH5.out _ (HS.out.drewN _).s.sn (HS.out.drewN _).s.sr).mono ?_) | (with_reducible refine (HH6.out _ HS.out.s.sn HS.out.s.sr).mono ?_) | (with_reducible refine (HH6.out _ (HS.out.drewN _).s.sn (HS.out.drewN _).s.sr).mono ?_)); rintro e w9 ⟨rfl, n9, rfl⟩)
                          | (go_at_call 27; refine (HCX.out _ (HS.out.drewN _).s.sn (HS.out.drewN _).s.sr).mono ?_; rintro e w5 ⟨hb5, av, j5, rfl, hj5, hj5l, hav, hs5⟩; obtain ⟨pv, nv, cv, rfl⟩ := own_shape hav; have hkk := S_inj hj1 hj5l hj5; subst hkk; have hT := (HS.out.drewN _).step hs5 hb5; have HAV := Lib.hid (own_le hav (Nat.le_of_lt (HS.out.drewN _).s.size)); obtain ⟨xs, ho, ht⟩ := hT.s.list; obtain ⟨a0, a1, _, _⟩ := hT.s.cells; have hszB := hT.s.size; have HO := Lib.hid ho; have HT := Lib.hid ht; clear HS; have HS := Lib.hid hT; clear hT hs5 hb5 hj5 hj5l hav ho ht)
                          | (at_builtin; refine wpList_append_lies _ rfl _ _ 23 rfl B 38 i38 _ 7 88 Tryz.underlying23 hi0 hz0 hz1 hz2 rfl (by decide) _ t.toks.length xs rfl ((HO.out.alloc _).alloc _) ⟨w5.heap.size + 1, 0, none⟩ 1 1 [.int .i64 (k.kind : Int), .string (bs (U.n8 k.name)), .slice pv nv cv, .string (bs (U.n8 k.text)), .int .i64 (k.place.1 : Int), .int .i64 (k.place.2 : Int), .bool k.empty] rfl rfl (by rw [show w5.heap.size + 1 = (w5.alloc (.cells #[.int .i64 (k.kind : Int), .string (bs (U.n8 k.name)), .slice pv nv cv, .string (bs (U.n8 k.text)), .int .i64 (k.place.1 : Int), .int .i64 (k.place.2 : Int), .bool k.empty] 38)).heap.size by simp]; exact World.news_of_block (heap_alloc_new _ _)) (oneCell7 _ _ _ _ _ _ _ _ _) (by decide) (by unfold maxLen; omega) (by omega) (by have := HS.out.s.size; simp; omega) _ rfl ?_; intro g1 cap1 w6 hown1 hgrow1 hat1 hlt1; have hal := (Below.refl w5.heap.size w5).alloc (Nat.le_refl _) (.cells #[.int .i64 (k.kind : Int), .string (bs (U.n8 k.name)), .slice pv nv cv, .string (bs (U.n8 k.text)), .int .i64 (k.place.1 : Int), .int .i64 (k.place.2 : Int), .bool k.empty] 38); have hW := HS.out.s.below hal; have hg6 := hW.growN rfl (HO.out.alloc _) (HT.out.keep (KeepT.bel hal)) k (.slice pv nv cv) (HAV.out.alloc _) hown1 hgrow1; have HS6 := Lib.hid hg6.1; clear hown1 hgrow1 hat1 hlt1 hal hW hg6))
                        go_roundg (cs.length - j1 + 1)
                        case measure => omega
                        case rel => exact ⟨⟨_, _, _, rfl⟩, .inl ⟨K.tag t k, p, j1, rfl, HRES.out, hj1, Nat.zero_le _, by show (K.endText t ++ [k]).length ≤ _; rw [HEN.out]; simp only [List.length_append, List.length_cons, List.length_nil]; omega, by first | rfl | (congr 1), fun h => absurd rfl h, by show TkS b B cs T (.slice pC cs.length cC) (.slice (some ⟨ga, 0, none⟩) (cs.length + 1) na) w2 (K.endText t ++ [k]) _ _ j1 0 (0, 0) _; rw [HEN.out]; exact HS6.out⟩⟩
                      · have hte := text_some htx0
                        have HTX := Lib.hid htx0
                        clear htx0
                        have hpe := HPP.out HTX.out
                        subst hpe
                        have HEN := Lib.hid (show K.endText t = t.toks ++ [⟨3, [], [], t.text, t.place, false⟩] by unfold K.endText; rw [if_neg HTX.out])
                        go_wp2_with (first
                          | (go_at_call 23; (first | (with_reducible refine (HH1.out _ HS.out.s.sn HS.out.s.sr).mono ?_) | (with_reducible refine (HH1.out _ (HS.out.drewN _).s.sn (HS.out.drewN _).s.sr).mono ?_) | (with_reducible refine (HH2.out _ HS.out.s.sn HS.out.s.sr).mono ?_) | (with_reducible refine (HH2.out _ (HS.out.drewN _).s.sn (HS.out.drewN _).s.sr).mono ?_) | (with_reducible refine (HH3.out _ HS.out.s.sn HS.out.s.sr).mono ?_) | (with_reducible refine (HH3.out _ (HS.out.drewN _).s.sn (HS.out.drewN _).s.sr).mono ?_) | (with_reducible refine (HH4.out _ HS.out.s.sn HS.out.s.sr).mono ?_) | (with_reducible refine (HH4.out _ (HS.out.drewN _).s.sn (HS.out.drewN _).s.sr).mono ?_) | (with_reducible refine (HH5.out _ HS.out.s.sn HS.out.s.sr).mono ?_) | (with_reducible refine (HH5.out _ (HS.out.drewN _).s.sn (HS.out.drewN _).s.sr).mono ?_) | (with_reducible refine (HH6.out _ HS.out.s.sn HS.out.s.sr).mono ?_) | (with_reducible refine (HH6.out _ (HS.out.drewN _).s.sn (HS.out.drewN _).s.sr).mono ?_)); rintro e w9 ⟨rfl, n9, rfl⟩)
                          | (go_at_call 27; refine (HCX.out _ (HS.out.drewN _).s.sn (HS.out.drewN _).s.sr).mono ?_; rintro e w5 ⟨hb5, av, j5, rfl, hj5, hj5l, hav, hs5⟩; obtain ⟨pv, nv, cv, rfl⟩ := own_shape hav; have hkk := S_inj hj1 hj5l hj5; subst hkk; have hT := (HS.out.drewN _).step hs5 hb5; have HAV := Lib.hid (own_le hav (Nat.le_of_lt (HS.out.drewN _).s.size)); obtain ⟨xs, ho, ht⟩ := hT.s.list; obtain ⟨a0, a1, _, _⟩ := hT.s.cells; have hszB := hT.s.size; have HO := Lib.hid ho; have HT := Lib.hid ht; clear HS; have HS := Lib.hid hT; clear hT hs5 hb5 hj5 hj5l hav ho ht)
                          | (at_builtin; refine wpList_append_lies _ rfl _ _ 23 rfl B 38 i38 _ 7 88 Tryz.underlying23 hi0 hz0 hz1 hz2 rfl (by decide) _ t.toks.length xs rfl ((HO.out.alloc _).alloc _) ⟨w5.heap.size + 1, 0, none⟩ 1 1 [.int .i64 3, .string ⟨#[]⟩, .slice none 0 0, .string (bs (U.n8 t.text)), .int .i64 (t.place.1 : Int), .int .i64 (t.place.2 : Int), .bool false] rfl rfl (by rw [show w5.heap.size + 1 = (w5.alloc (.cells #[.int .i64 (k.kind : Int), .string (bs (U.n8 k.name)), .slice pv nv cv, .string (bs (U.n8 k.text)), .int .i64 (k.place.1 : Int), .int .i64 (k.place.2 : Int), .bool k.empty] 38)).heap.size by simp]; exact World.news_of_block (heap_alloc_new _ _)) (oneCell7 _ _ _ _ _ _ _ _ _) (by decide) (by unfold maxLen; omega) (by omega) (by have := HS.out.s.size; simp; omega) _ rfl ?_; intro g1 cap1 w6 hown1 hgrow1 hat1 hlt1; have hal := (Below.refl w5.heap.size w5).alloc (Nat.le_refl _) (.cells #[.int .i64 (k.kind : Int), .string (bs (U.n8 k.name)), .slice pv nv cv, .string (bs (U.n8 k.text)), .int .i64 (k.place.1 : Int), .int .i64 (k.place.2 : Int), .bool k.empty] 38); have hW := HS.out.s.below hal; have hg6 := hW.growN rfl (HO.out.alloc _) (HT.out.keep (KeepT.bel hal)) ⟨3, [], [], t.text, t.place, false⟩ (.slice none 0 0) ⟨rfl, .inl ⟨rfl, rfl⟩⟩ hown1 hgrow1; obtain ⟨hT6, ht6⟩ := hg6; have hX6 := tok_kept HO.out hgrow1; obtain ⟨y0, y1, y2, y3, y4, y5, y6⟩ := cells7 hX6; have hszw := lt_of_heap hX6; have HS6 := Lib.hid hT6; have HT6 := Lib.hid ht6; have HO6 := Lib.hid hown1; have HAV6 := Lib.hid ((own_growE (HO.out.alloc _) (by simp; omega) hgrow1).2 40 (by decide) |>.own (HAV.out.alloc _)); clear hT6 ht6 hown1 hgrow1 hat1 hlt1 hal hW hX6)
                          | (at_builtin; refine wpList_append_lies _ rfl _ _ 23 rfl B 38 i38 _ 7 88 Tryz.underlying23 hi0 hz0 hz1 hz2 rfl (by decide) _ (t.toks.length + 1) _ rfl (HO6.out.alloc _) ⟨w6.heap.size, 0, none⟩ 1 1 [.int .i64 (k.kind : Int), .string (bs (U.n8 k.name)), .slice pv nv cv, .string (bs (U.n8 k.text)), .int .i64 (k.place.1 : Int), .int .i64 (k.place.2 : Int), .bool k.empty] rfl rfl (World.news_of_block (heap_alloc_new _ _)) (oneCell7 _ _ _ _ _ _ _ _ _) (by decide) (by unfold maxLen; omega) (by omega) (by have := HS6.out.size; simp; omega) _ rfl ?_; intro g2 cap2 w7 hown2 hgrow2 hat2 hlt2; have HS7 := Lib.hid (HS6.out.growN (by rw [List.length_append]; rfl) HO6.out HT6.out k (.slice pv nv cv) HAV6.out hown2 hgrow2).1; clear hown2 hgrow2 hat2 hlt2))
                        go_roundg (cs.length - j1 + 1)
                        case measure => omega
                        case rel => exact ⟨⟨_, _, _, rfl⟩, .inl ⟨K.tag t k, t.place, j1, rfl, HRES.out, hj1, Nat.zero_le _, by show (K.endText t ++ [k]).length ≤ _; rw [HEN.out]; simp only [List.length_append, List.length_cons, List.length_nil]; omega, by first | rfl | (congr 1), fun h => absurd rfl h, by show TkS b B cs T (.slice pC cs.length cC) (.slice (some ⟨ga, 0, none⟩) (cs.length + 1) na) w2 (K.endText t ++ [k]) _ _ j1 0 (0, 0) _; rw [HEN.out]; exact HS7.out⟩⟩
                  | false =>
                    have ht7 : K.sees [60, 47] (S cs j) = false := by
                      rw [sees_step] at ht6 ⊢
                      rw [sees_empty, Bool.and_true] at ht6
                      rw [ht6]; rfl
                    have hpart : K.part (S cs j) t = onM t (pl cs j) (K.words (S cs j)) := by rw [part_eq, ht1, ht2, ht3, ht4, ht5, ht6, ht7]; rfl
                    have HP := HS
                    have hcall := fun W (h1 : Sn b T (.slice pC cs.length cC) (.slice (some ⟨ga, 0, none⟩) (cs.length + 1) na) j 0 (0, 0) W) (h2 : Sr b cs T (.slice pC cs.length cC) (.slice (some ⟨ga, 0, none⟩) (cs.length + 1) na) W) => words_rf h1 h2 hj
                    have HH1 := Lib.hid (here_q (b := b) (T := T) (C := (.slice pC cs.length cC)) (A := (.slice (some ⟨ga, 0, none⟩) (cs.length + 1) na)) hj [60, 63] (by unfold Small; decide) (by decide) ⟨#[60, 63]⟩ rfl false ht1)
                    have HH2 := Lib.hid (here_q (b := b) (T := T) (C := (.slice pC cs.length cC)) (A := (.slice (some ⟨ga, 0, none⟩) (cs.length + 1) na)) hj [60, 33, 45, 45] (by unfold Small; decide) (by decide) ⟨#[60, 33, 45, 45]⟩ rfl false ht2)
                    have HH3 := Lib.hid (here_q (b := b) (T := T) (C := (.slice pC cs.length cC)) (A := (.slice (some ⟨ga, 0, none⟩) (cs.length + 1) na)) hj [60, 33, 91, 67, 68, 65, 84, 65, 91] (by unfold Small; decide) (by decide) ⟨#[60, 33, 91, 67, 68, 65, 84, 65, 91]⟩ rfl false ht3)
                    have HH4 := Lib.hid (here_q (b := b) (T := T) (C := (.slice pC cs.length cC)) (A := (.slice (some ⟨ga, 0, none⟩) (cs.length + 1) na)) hj [60, 33, 68, 79, 67, 84, 89, 80, 69] (by unfold Small; decide) (by decide) ⟨#[60, 33, 68, 79, 67, 84, 89, 80, 69]⟩ rfl false ht4)
                    have HH5 := Lib.hid (here_q (b := b) (T := T) (C := (.slice pC cs.length cC)) (A := (.slice (some ⟨ga, 0, none⟩) (cs.length + 1) na)) hj [60, 33] (by unfold Small; decide) (by decide) ⟨#[60, 33]⟩ rfl false ht5)
                    have HH6 := Lib.hid (here_q (b := b) (T := T) (C := (.slice pC cs.length cC)) (A := (.slice (some ⟨ga, 0, none⟩) (cs.length + 1) na)) hj [60] (by unfold Small; decide) (by decide) ⟨#[60]⟩ rfl false ht6)
                    cases hI : K.words (S cs j) with
                    | error er =>
                      have hI' := hI
                      have hc2 : ∀ W, Sn b T (.slice pC cs.length cC) (.slice (some ⟨ga, 0, none⟩) (cs.length + 1) na) (j) 0 (0, 0) W → Sr b cs T (.slice pC cs.length cC) (.slice (some ⟨ga, 0, none⟩) (cs.length + 1) na) W → Calls Tryz.prog 28 #[.pointer (some ⟨b, 0, none⟩)] W (RPost b cs T (.slice pC cs.length cC) (.slice (some ⟨ga, 0, none⟩) (cs.length + 1) na) W 2 strN (badStr 300000) (.error er : Except K.Er (List Nat × K.St))) := fun W h1 h2 => by have h := hcall W h1 h2; rw [hI] at h; exact h
                      have hre : R = .error er := hDF.symm.trans (dfs_err hjl (by rw [hpart, hI']; rfl))
                      have HCX := Lib.hid hc2
                      have HRES := Lib.hid hre
                      clear hcall hc2 hre hDF hpart hI hI' ht1 ht2 ht3 ht4 ht5 ht6
                      have hq1 : (bs (U.n8 t.text)).size ≤ 9223372036854775807 := by have := HSZ.out; omega
                      have hq2 : ¬ ((bs (U.n8 t.text)).size > 9223372036854775807) := by omega
                      by_cases htx0 : t.text = []
                      · have hte := text_none htx0
                        have HTX := Lib.hid htx0
                        clear htx0
                        go_wp2_with (first
                          | (go_at_call 23; (first | (with_reducible refine (HH1.out _ HS.out.s.sn HS.out.s.sr).mono ?_) | (with_reducible refine (HH1.out _ (HS.out.drewN _).s.sn (HS.out.drewN _).s.sr).mono ?_) | (with_reducible refine (HH2.out _ HS.out.s.sn HS.out.s.sr).mono ?_) | (with_reducible refine (HH2.out _ (HS.out.drewN _).s.sn (HS.out.drewN _).s.sr).mono ?_) | (with_reducible refine (HH3.out _ HS.out.s.sn HS.out.s.sr).mono ?_) | (with_reducible refine (HH3.out _ (HS.out.drewN _).s.sn (HS.out.drewN _).s.sr).mono ?_) | (with_reducible refine (HH4.out _ HS.out.s.sn HS.out.s.sr).mono ?_) | (with_reducible refine (HH4.out _ (HS.out.drewN _).s.sn (HS.out.drewN _).s.sr).mono ?_) | (with_reducible refine (HH5.out _ HS.out.s.sn HS.out.s.sr).mono ?_) | (with_reducible refine (HH5.out _ (HS.out.drewN _).s.sn (HS.out.drewN _).s.sr).mono ?_) | (with_reducible refine (HH6.out _ HS.out.s.sn HS.out.s.sr).mono ?_) | (with_reducible refine (HH6.out _ (HS.out.drewN _).s.sn (HS.out.drewN _).s.sr).mono ?_)); rintro e w9 ⟨rfl, n9, rfl⟩)
                          | (go_at_call 28; refine (HCX.out _ (HP.out.drewN _).s.sn (HP.out.drewN _).s.sr).mono ?_; rintro e w5 ⟨hb5, z, j5, rfl, ⟨o5, rfl, ho5⟩, _, h1, h2, hs5⟩; have HE := Lib.hid (And.intro h1 h2); have hT := (HP.out.drewN _).step hs5 hb5; obtain ⟨v0, v1⟩ := hT.cells; obtain ⟨_, _, x0, x1⟩ := hT.s.cells; clear HS HP; have HS := Lib.hid hT; clear hT hs5 hb5 h1 h2; have hcat : ¬ ((bs (U.n8 t.text)).size + o5.size > 9223372036854775807) := (by have := HSZ.out; omega)))
                        all_goals
                          go_roundg (0)
                          case measure => omega
                          case rel =>
                            first
                              | exact ⟨⟨_, _, _, rfl⟩, .inr ⟨rfl, er, HRES.out, HE.out.1, HE.out.2, ⟨_, rfl⟩, _, HS.out.s.sn, HS.out.s.bar⟩⟩
                              | exact ⟨⟨_, _, _, rfl⟩, .inr ⟨rfl, er, HRES.out, HE.out.1, HE.out.2, ⟨_, rfl⟩, _, (HS.out.s.setAt (pl cs j)).sn, (HS.out.s.setAt (pl cs j)).bar⟩⟩
                      · have hte := text_some htx0
                        have HTX := Lib.hid htx0
                        clear htx0
                        go_wp2_with (first
                          | (go_at_call 23; (first | (with_reducible refine (HH1.out _ HS.out.s.sn HS.out.s.sr).mono ?_) | (with_reducible refine (HH1.out _ (HS.out.drewN _).s.sn (HS.out.drewN _).s.sr).mono ?_) | (with_reducible refine (HH2.out _ HS.out.s.sn HS.out.s.sr).mono ?_) | (with_reducible refine (HH2.out _ (HS.out.drewN _).s.sn (HS.out.drewN _).s.sr).mono ?_) | (with_reducible refine (HH3.out _ HS.out.s.sn HS.out.s.sr).mono ?_) | (with_reducible refine (HH3.out _ (HS.out.drewN _).s.sn (HS.out.drewN _).s.sr).mono ?_) | (with_reducible refine (HH4.out _ HS.out.s.sn HS.out.s.sr).mono ?_) | (with_reducible refine (HH4.out _ (HS.out.drewN _).s.sn (HS.out.drewN _).s.sr).mono ?_) | (with_reducible refine (HH5.out _ HS.out.s.sn HS.out.s.sr).mono ?_) | (with_reducible refine (HH5.out _ (HS.out.drewN _).s.sn (HS.out.drewN _).s.sr).mono ?_) | (with_reducible refine (HH6.out _ HS.out.s.sn HS.out.s.sr).mono ?_) | (with_reducible refine (HH6.out _ (HS.out.drewN _).s.sn (HS.out.drewN _).s.sr).mono ?_)); rintro e w9 ⟨rfl, n9, rfl⟩)
                          | (go_at_call 28; refine (HCX.out _ (HP.out.drewN _).s.sn (HP.out.drewN _).s.sr).mono ?_; rintro e w5 ⟨hb5, z, j5, rfl, ⟨o5, rfl, ho5⟩, _, h1, h2, hs5⟩; have HE := Lib.hid (And.intro h1 h2); have hT := (HP.out.drewN _).step hs5 hb5; obtain ⟨v0, v1⟩ := hT.cells; obtain ⟨_, _, x0, x1⟩ := hT.s.cells; clear HS HP; have HS := Lib.hid hT; clear hT hs5 hb5 h1 h2; have hcat : ¬ ((bs (U.n8 t.text)).size + o5.size > 9223372036854775807) := (by have := HSZ.out; omega)))
                        go_roundg (0)
                        case measure => omega
                        case rel => exact ⟨⟨_, _, _, rfl⟩, .inr ⟨rfl, er, HRES.out, HE.out.1, HE.out.2, ⟨_, rfl⟩, _, HS.out.s.sn, HS.out.s.bar⟩⟩
                    | ok q =>
                      obtain ⟨x, s1⟩ := q
                      have hI' := hI
                      obtain ⟨j1, rfl, _, hj1⟩ := S_goes (words_goes hI') hj
                      have hxl := words_len hj hj1 hI'
                      have hc2 : ∀ W, Sn b T (.slice pC cs.length cC) (.slice (some ⟨ga, 0, none⟩) (cs.length + 1) na) (j) 0 (0, 0) W → Sr b cs T (.slice pC cs.length cC) (.slice (some ⟨ga, 0, none⟩) (cs.length + 1) na) W → Calls Tryz.prog 28 #[.pointer (some ⟨b, 0, none⟩)] W (RPost b cs T (.slice pC cs.length cC) (.slice (some ⟨ga, 0, none⟩) (cs.length + 1) na) W 2 strN (badStr 300000) (.ok (x, S cs j1) : Except K.Er (List Nat × K.St))) := fun W h1 h2 => by have h := hcall W h1 h2; rw [hI] at h; exact h
                      obtain ⟨hd1, hjj⟩ := dfs_ok hjl hj1 (t1 := K.say t x (pl cs j)) (by rw [hpart, hI']; rfl)
                      have HCX := Lib.hid hc2
                      have HRES := Lib.hid (hd1.symm.trans hDF)
                      have hcat : ¬ ((bs (U.n8 t.text)).size + (bs (U.n8 x)).size > 9223372036854775807) := (by have := HSZ.out; have := n8_len4 x; have := bs_size (U.n8 x); omega)
                      have heq : bs (U.n8 t.text) ++ bs (U.n8 x) = bs (U.n8 (t.text ++ x)) := by rw [U.n8_append, bs_append]
                      have HEQ := Lib.hid heq
                      clear hcall hc2 hd1 hDF hpart hI hI' heq ht1 ht2 ht3 ht4 ht5 ht6
                      have hq1 : (bs (U.n8 t.text)).size ≤ 9223372036854775807 := by have := HSZ.out; omega
                      have hq2 : ¬ ((bs (U.n8 t.text)).size > 9223372036854775807) := by omega
                      by_cases htx0 : t.text = []
                      · have hte := text_none htx0
                        have HTX := Lib.hid htx0
                        clear htx0
                        by_cases hx0 : x = []
                        · have hxe := text_none hx0
                          have HX := Lib.hid hx0
                          clear hx0
                          go_wp2_with (first
                            | (go_at_call 23; (first | (with_reducible refine (HH1.out _ HS.out.s.sn HS.out.s.sr).mono ?_) | (with_reducible refine (HH1.out _ (HS.out.drewN _).s.sn (HS.out.drewN _).s.sr).mono ?_) | (with_reducible refine (HH2.out _ HS.out.s.sn HS.out.s.sr).mono ?_) | (with_reducible refine (HH2.out _ (HS.out.drewN _).s.sn (HS.out.drewN _).s.sr).mono ?_) | (with_reducible refine (HH3.out _ HS.out.s.sn HS.out.s.sr).mono ?_) | (with_reducible refine (HH3.out _ (HS.out.drewN _).s.sn (HS.out.drewN _).s.sr).mono ?_) | (with_reducible refine (HH4.out _ HS.out.s.sn HS.out.s.sr).mono ?_) | (with_reducible refine (HH4.out _ (HS.out.drewN _).s.sn (HS.out.drewN _).s.sr).mono ?_) | (with_reducible refine (HH5.out _ HS.out.s.sn HS.out.s.sr).mono ?_) | (with_reducible refine (HH5.out _ (HS.out.drewN _).s.sn (HS.out.drewN _).s.sr).mono ?_) | (with_reducible refine (HH6.out _ HS.out.s.sn HS.out.s.sr).mono ?_) | (with_reducible refine (HH6.out _ (HS.out.drewN _).s.sn (HS.out.drewN _).s.sr).mono ?_)); rintro e w9 ⟨rfl, n9, rfl⟩)
                            | (go_at_call 28; refine (HCX.out _ (HP.out.drewN _).s.sn (HP.out.drewN _).s.sr).mono ?_; rintro e w5 ⟨hb5, j5, hj5, hj5l, rfl, hs5⟩; have hkk := S_inj hj1 hj5l hj5; subst hkk; have hT := (HP.out.drewN _).step hs5 hb5; obtain ⟨v0, v1⟩ := hT.cells; obtain ⟨_, _, x0, x1⟩ := hT.s.cells; clear HS HP; have HS := Lib.hid hT; clear hT hs5 hb5 hj5 hj5l))
                          go_roundg (cs.length - j1 + 1)
                          case measure => omega
                          case rel => exact ⟨⟨_, _, _, rfl⟩, .inl ⟨K.say t x (pl cs j), p, j1, rfl, HRES.out, hj1, by show (t.text ++ x).length ≤ j1; rw [List.length_append]; omega, by show t.toks.length ≤ _; omega, by rw [HEQ.out]; rfl, fun h => absurd (by show t.text ++ x = []; rw [HTX.out, HX.out]; rfl) h, HS.out.s⟩⟩
                        · have hxe := text_some hx0
                          clear hx0
                          go_wp2_with (first
                            | (go_at_call 23; (first | (with_reducible refine (HH1.out _ HS.out.s.sn HS.out.s.sr).mono ?_) | (with_reducible refine (HH1.out _ (HS.out.drewN _).s.sn (HS.out.drewN _).s.sr).mono ?_) | (with_reducible refine (HH2.out _ HS.out.s.sn HS.out.s.sr).mono ?_) | (with_reducible refine (HH2.out _ (HS.out.drewN _).s.sn (HS.out.drewN _).s.sr).mono ?_) | (with_reducible refine (HH3.out _ HS.out.s.sn HS.out.s.sr).mono ?_) | (with_reducible refine (HH3.out _ (HS.out.drewN _).s.sn (HS.out.drewN _).s.sr).mono ?_) | (with_reducible refine (HH4.out _ HS.out.s.sn HS.out.s.sr).mono ?_) | (with_reducible refine (HH4.out _ (HS.out.drewN _).s.sn (HS.out.drewN _).s.sr).mono ?_) | (with_reducible refine (HH5.out _ HS.out.s.sn HS.out.s.sr).mono ?_) | (with_reducible refine (HH5.out _ (HS.out.drewN _).s.sn (HS.out.drewN _).s.sr).mono ?_) | (with_reducible refine (HH6.out _ HS.out.s.sn HS.out.s.sr).mono ?_) | (with_reducible refine (HH6.out _ (HS.out.drewN _).s.sn (HS.out.drewN _).s.sr).mono ?_)); rintro e w9 ⟨rfl, n9, rfl⟩)
                            | (go_at_call 28; refine (HCX.out _ (HP.out.drewN _).s.sn (HP.out.drewN _).s.sr).mono ?_; rintro e w5 ⟨hb5, j5, hj5, hj5l, rfl, hs5⟩; have hkk := S_inj hj1 hj5l hj5; subst hkk; have hT := (HP.out.drewN _).step hs5 hb5; obtain ⟨v0, v1⟩ := hT.cells; obtain ⟨_, _, x0, x1⟩ := hT.s.cells; clear HS HP; have HS := Lib.hid hT; clear hT hs5 hb5 hj5 hj5l))
                          go_roundg (cs.length - j1 + 1)
                          case measure => omega
                          case rel => exact ⟨⟨_, _, _, rfl⟩, .inl ⟨K.say t x (pl cs j), pl cs j, j1, rfl, HRES.out, hj1, by show (t.text ++ x).length ≤ j1; rw [List.length_append]; omega, by show t.toks.length ≤ _; omega, by rw [HEQ.out]; rfl, fun _ => by show pl cs j = if t.text = [] then pl cs j else t.place; rw [if_pos HTX.out], HS.out.s.setAt (pl cs j)⟩⟩
                      · have hte := text_some htx0
                        have HTX := Lib.hid htx0
                        clear htx0
                        go_wp2_with (first
                          | (go_at_call 23; (first | (with_reducible refine (HH1.out _ HS.out.s.sn HS.out.s.sr).mono ?_) | (with_reducible refine (HH1.out _ (HS.out.drewN _).s.sn (HS.out.drewN _).s.sr).mono ?_) | (with_reducible refine (HH2.out _ HS.out.s.sn HS.out.s.sr).mono ?_) | (with_reducible refine (HH2.out _ (HS.out.drewN _).s.sn (HS.out.drewN _).s.sr).mono ?_) | (with_reducible refine (HH3.out _ HS.out.s.sn HS.out.s.sr).mono ?_) | (with_reducible refine (HH3.out _ (HS.out.drewN _).s.sn (HS.out.drewN _).s.sr).mono ?_) | (with_reducible refine (HH4.out _ HS.out.s.sn HS.out.s.sr).mono ?_) | (with_reducible refine (HH4.out _ (HS.out.drewN _).s.sn (HS.out.drewN _).s.sr).mono ?_) | (with_reducible refine (HH5.out _ HS.out.s.sn HS.out.s.sr).mono ?_) | (with_reducible refine (HH5.out _ (HS.out.drewN _).s.sn (HS.out.drewN _).s.sr).mono ?_) | (with_reducible refine (HH6.out _ HS.out.s.sn HS.out.s.sr).mono ?_) | (with_reducible refine (HH6.out _ (HS.out.drewN _).s.sn (HS.out.drewN _).s.sr).mono ?_)); rintro e w9 ⟨rfl, n9, rfl⟩)
                          | (go_at_call 28; refine (HCX.out _ (HP.out.drewN _).s.sn (HP.out.drewN _).s.sr).mono ?_; rintro e w5 ⟨hb5, j5, hj5, hj5l, rfl, hs5⟩; have hkk := S_inj hj1 hj5l hj5; subst hkk; have hT := (HP.out.drewN _).step hs5 hb5; obtain ⟨v0, v1⟩ := hT.cells; obtain ⟨_, _, x0, x1⟩ := hT.s.cells; clear HS HP; have HS := Lib.hid hT; clear hT hs5 hb5 hj5 hj5l))
                        go_roundg (cs.length - j1 + 1)
                        case measure => omega
                        case rel => exact ⟨⟨_, _, _, rfl⟩, .inl ⟨K.say t x (pl cs j), p, j1, rfl, HRES.out, hj1, by show (t.text ++ x).length ≤ j1; rw [List.length_append]; omega, by show t.toks.length ≤ _; omega, by rw [HEQ.out]; rfl, fun _ => by show p = if t.text = [] then pl cs j else t.place; rw [if_neg HTX.out]; exact HPP.out HTX.out, HS.out.s⟩⟩
      · skip
        have hge : ¬ (j : Int) < (cs.length : Int) := by omega
        obtain ⟨c0, c1, c2, c3, c4⟩ := hS.sn.cells
        have HS0 := Lib.hid hS
        clear hS
        go_wp2
        go_region_held3 (fun w' => w'.cell? ⟨b, 4, none⟩ = some (.int .i64 ((0 : Nat) : Int)) ∧ w'.cell? ⟨b, 3, none⟩ = some (.int .i64 (j : Int)) ∧ w'.cell? ⟨b, 1, none⟩ = some (.slice pC cs.length cC))
          (first | assumption | go_keep)
          (fail)
        rename_i hHeld
        clear hHeld
        have hS1 := HS0.out.below ((Below.refl _ _).drew)
        clear HS0 c0 c1 c2 c3 c4
        generalize wr.drew = wx at hS1 ⊢
        have hre : R = .ok (K.endText t) := hDF.symm.trans (dfs_end (by omega))
        have hNw := hS1.bar.keep HNb.out H2.out
        have n0 : wx.cell? ⟨N, 0, none⟩ = some (.int .i64 0) := by rw [Lib.cell_of_heap hNw]; rfl
        have n1 : wx.cell? ⟨N, 1, none⟩ = some (.int .i64 0) := by rw [Lib.cell_of_heap hNw]; rfl
        have m0 : wx.frozen? ⟨N, 0, none⟩ = false := Lib.frozen_of_heap hNw _
        have m1 : wx.frozen? ⟨N, 1, none⟩ = false := Lib.frozen_of_heap hNw _
        have hbw : Below N w wx := HB2.out.trans (hS1.bar.below (Nat.le_of_lt HBN.out) (by have := lt_of_heap H2.out; omega))
        obtain ⟨c0, c1, c2, c3, c4⟩ := hS1.sn.cells
        obtain ⟨a0, a1, _, _⟩ := hS1.cells
        obtain ⟨xs, ho, ht⟩ := hS1.list
        have hNB : N ≤ B := by have := HBN.out; have := hS1.hb; omega
        have HS := Lib.hid hS1
        have HRES := Lib.hid hre
        have HBW := Lib.hid hbw
        have HO := Lib.hid ho
        have HT := Lib.hid ht
        have HNW := Lib.hid hNw
        clear hS1 hre hbw ho ht hDF hNw
        by_cases htx0 : t.text = []
        · have hte := text_none htx0
          have hen : K.endText t = t.toks := by unfold K.endText; rw [if_pos htx0]
          have HEN := Lib.hid hen
          clear hen htx0
          go_wp2
          refine bodyPost_ret (v := .tuple #[.slice lp ln lc, .agg #[.int .i64 0, .int .i64 0], .int .i64 0]) ?_ rfl ?_
          · obtain ⟨v0, v1⟩ := ret_cells HNW.out rfl (.int .i64 0) (.int .i64 0)
            simp [results, Tryz.results10, go_sem, v0, v1]
          · rw [HRES.out, HEN.out]
            exact ⟨ret_below HBW.out _ _, _, rfl, list_ret HNW.out HO.out HT.out hNB⟩
        · have hte := text_some htx0
          have hpe := hpp htx0
          have hen : K.endText t = t.toks ++ [⟨3, [], [], t.text, t.place, false⟩] := by unfold K.endText; rw [if_neg htx0]
          subst hpe
          have HEN := Lib.hid hen
          clear hen htx0
          go_wp2_with (at_builtin; refine wpList_append_lies _ rfl _ _ 23 rfl B 38 i38 _ 7 88 Tryz.underlying23 hi0 hz0 hz1 hz2 rfl (by decide) _ t.toks.length xs rfl (HO.out.alloc _) ⟨wx.heap.size, 0, none⟩ 1 1 [.int .i64 3, .string ⟨#[]⟩, .slice none 0 0, .string (bs (U.n8 t.text)), .int .i64 (t.place.1 : Int), .int .i64 (t.place.2 : Int), .bool false] rfl rfl (World.news_of_block (heap_alloc_new _ _)) (oneCell7 _ _ _ _ _ _ _ _ _) (by decide) (by unfold maxLen; omega) (by omega) (by have := HS.out.size; simp; omega) _ rfl ?_; intro g1 cap1 w6 hown1 hgrow1 hat1 hlt1; obtain ⟨hT6, ht6⟩ := HS.out.grow HO.out HT.out ⟨3, [], [], t.text, t.place, false⟩ (.slice none 0 0) ⟨rfl, .inl ⟨rfl, rfl⟩⟩ hown1 hgrow1; have hN6 := (own_growE HO.out (Nat.le_of_lt HS.out.size) hgrow1).2 29 (by decide) _ _ HNW.out; have n0 : w6.cell? ⟨N, 0, none⟩ = some (.int .i64 0) := (by rw [Lib.cell_of_heap hN6]; rfl); have n1 : w6.cell? ⟨N, 1, none⟩ = some (.int .i64 0) := (by rw [Lib.cell_of_heap hN6]; rfl); have m0 : w6.frozen? ⟨N, 0, none⟩ = false := Lib.frozen_of_heap hN6 _; have m1 : w6.frozen? ⟨N, 1, none⟩ = false := Lib.frozen_of_heap hN6 _; have HB6 := Lib.hid (HBW.out.trans ((own_growE HO.out (Nat.le_of_lt HS.out.size) hgrow1).1.mono hNB)); have HO6 := Lib.hid hown1; have HT6 := Lib.hid ht6; have HN6 := Lib.hid hN6; clear hT6 hown1 hgrow1 hat1 hlt1 ht6 hN6)
          refine bodyPost_ret (v := .tuple #[.slice (some ⟨g1, 0, none⟩) (t.toks.length + 1) cap1, .agg #[.int .i64 0, .int .i64 0], .int .i64 0]) ?_ rfl ?_
          · obtain ⟨v0, v1⟩ := ret_cells HN6.out rfl (.int .i64 0) (.int .i64 0)
            simp [results, Tryz.results10, go_sem, v0, v1]
          · rw [HRES.out, HEN.out]
            exact ⟨ret_below HB6.out _ _, _, rfl, list_ret HN6.out (by rw [List.length_append]; exact HO6.out) HT6.out hNB⟩
    · skip
      obtain ⟨_, _, _, _, c4⟩ := hs.cells
      have c5 : wr.cell? ⟨b, 5, none⟩ = some (.int .i64 (er.2.1 : Int)) := by rw [Lib.cell_of_heap hs]; rfl
      have c6 : wr.cell? ⟨b, 6, none⟩ = some (.int .i64 (er.2.2 : Int)) := by rw [Lib.cell_of_heap hs]; rfl
      have hne : ((er.1 : Int) == 0) = false := by rw [beq_eq_false_iff_ne]; omega
      have hNw := hbar.keep HNb.out H2.out
      have n0 : wr.cell? ⟨N, 0, none⟩ = some (.int .i64 0) := by rw [Lib.cell_of_heap hNw]; rfl
      have n1 : wr.cell? ⟨N, 1, none⟩ = some (.int .i64 0) := by rw [Lib.cell_of_heap hNw]; rfl
      have m0 : wr.frozen? ⟨N, 0, none⟩ = false := Lib.frozen_of_heap hNw _
      have m1 : wr.frozen? ⟨N, 1, none⟩ = false := Lib.frozen_of_heap hNw _
      have hbw : Below N w wr := HB2.out.trans (hbar.below (Nat.le_of_lt HBN.out) (by have := lt_of_heap H2.out; omega))
      have hNb : N ≠ b := HNb.out
      have hbN : b ≠ N := fun h => HNb.out h.symm
      have HRES := Lib.hid hRe
      have HBW := Lib.hid hbw
      have HNW := Lib.hid hNw
      clear hs hbar hRe hbw hNw
      have HC4 := Lib.hid c4
      go_wp2
      refine wp_region_noPanic ?_
      refine wp_region_held_drew (S := (fun w' => w'.cell? ⟨b, 4, none⟩ = some (.int .i64 (er.1 : Int)))) (by kernel_rfl) ?_ (fun hHeld => ?_)
      · (try dsimp only); exact HC4.out
      refine' wpAnyH_take (i := 0) (oi := _) (v := _) ?hi0 (by kernel_rfl) (by kernel_rfl) (by kernel_rfl) (fun _ _ _ h => h) ?hy0 (by assumption) ?rs0
      case hi0 => simp only [List.getElem?_toArray, List.getElem?_cons_succ, List.getElem?_cons_zero]; exact rfl
      case hy0 => refine Or.inl ⟨by rfl, ?_⟩; intro w hSw; (try dsimp only at hSw); go_simp; first | done | with_reducible rfl
      (try simp only [Act.put, List.setIfInBounds_toArray, List.set_cons_zero, List.set_cons_succ])
      refine' wpAnyH_take (i := 1) (oi := _) (v := _) ?hi1 (by kernel_rfl) (by kernel_rfl) (by kernel_rfl) (fun _ _ _ h => h) ?hy1 (by assumption) ?rs1
      case hi1 => simp only [List.getElem?_toArray, List.getElem?_cons_succ, List.getElem?_cons_zero]; exact rfl
      case hy1 => refine Or.inl ⟨by rfl, ?_⟩; intro w hSw; (try dsimp only at hSw); go_simp; first | done | with_reducible rfl
      (try simp only [Act.put, List.setIfInBounds_toArray, List.set_cons_zero, List.set_cons_succ])
      refine' wpAnyH_take (i := 2) (oi := _) (v := _) ?hi2 (by kernel_rfl) (by kernel_rfl) (by kernel_rfl) (fun _ _ _ h => h) ?hy2 (by assumption) ?rs2
      case hi2 => simp only [List.getElem?_toArray, List.getElem?_cons_succ, List.getElem?_cons_zero]; exact rfl
      case hy2 => refine Or.inl ⟨by rfl, ?_⟩; intro w hSw; (try dsimp only at hSw); go_simp; first | done | with_reducible rfl
      (try simp only [Act.put, List.setIfInBounds_toArray, List.set_cons_zero, List.set_cons_succ])
      refine' wpAnyH_take (i := 3) (oi := _) (v := _) ?hi3 (by kernel_rfl) (by kernel_rfl) (by kernel_rfl) (fun _ _ _ h => h) ?hy3 (by assumption) ?rs3
      case hi3 => simp only [List.getElem?_toArray, List.getElem?_cons_succ, List.getElem?_cons_zero]; exact rfl
      case hy3 => refine Or.inl ⟨by rfl, ?_⟩; intro w hSw; (try dsimp only at hSw); go_simp; first | done | with_reducible rfl
      (try simp only [Act.put, List.setIfInBounds_toArray, List.set_cons_zero, List.set_cons_succ])
      refine' wpAnyH_take (i := 4) (oi := _) (v := _) ?hi4 (by kernel_rfl) (by kernel_rfl) (by kernel_rfl) (fun _ _ _ h => h) ?hy4 (by assumption) ?rs4
      case hi4 => simp only [List.getElem?_toArray, List.getElem?_cons_succ, List.getElem?_cons_zero]; exact rfl
      case hy4 => refine Or.inl ⟨by rfl, ?_⟩; intro w hSw; (try dsimp only at hSw); go_simp; first | done | with_reducible rfl
      (try simp only [Act.put, List.setIfInBounds_toArray, List.set_cons_zero, List.set_cons_succ])
      refine' wpAnyH_take (i := 5) (oi := _) (v := _) ?hi5 (by kernel_rfl) (by kernel_rfl) (by kernel_rfl) (fun _ _ _ h => h) ?hy5 (by assumption) ?rs5
      case hi5 => simp only [List.getElem?_toArray, List.getElem?_cons_succ, List.getElem?_cons_zero]; exact rfl
      case hy5 => refine Or.inl ⟨by rfl, ?_⟩; intro w hSw; (try dsimp only at hSw); go_simp; first | done | with_reducible rfl
      (try simp only [Act.put, List.setIfInBounds_toArray, List.set_cons_zero, List.set_cons_succ])
      refine' wpAnyH_take (i := 6) (oi := _) (v := undef) ?hi6 (by kernel_rfl) (by kernel_rfl) (by kernel_rfl) (fun _ _ _ h => h) ?hy6 (by assumption) ?rs6
      case hi6 => simp only [List.getElem?_toArray, List.getElem?_cons_succ, List.getElem?_cons_zero]; exact rfl
      case hy6 => exact Or.inr ⟨by rfl, rfl⟩
      (try simp only [Act.put, List.setIfInBounds_toArray, List.set_cons_zero, List.set_cons_succ])
      refine' wpAnyH_take (i := 7) (oi := _) (v := undef) ?hi7 (by kernel_rfl) (by kernel_rfl) (by kernel_rfl) (fun _ _ _ h => h) ?hy7 (by assumption) ?rs7
      case hi7 => simp only [List.getElem?_toArray, List.getElem?_cons_succ, List.getElem?_cons_zero]; exact rfl
      case hy7 => exact Or.inr ⟨by rfl, rfl⟩
      (try simp only [Act.put, List.setIfInBounds_toArray, List.set_cons_zero, List.set_cons_succ])
      refine' wpAnyH_take (i := 8) (oi := _) (v := undef) ?hi8 (by kernel_rfl) (by kernel_rfl) (by kernel_rfl) (fun _ _ _ h => h) ?hy8 (by assumption) ?rs8
      case hi8 => simp only [List.getElem?_toArray, List.getElem?_cons_succ, List.getElem?_cons_zero]; exact rfl
      case hy8 => exact Or.inr ⟨by rfl, rfl⟩
      (try simp only [Act.put, List.setIfInBounds_toArray, List.set_cons_zero, List.set_cons_succ])
      refine' wpAnyH_take (i := 9) (oi := _) (v := undef) ?hi9 (by kernel_rfl) (by kernel_rfl) (by kernel_rfl) (fun _ _ _ h => h) ?hy9 (by assumption) ?rs9
      case hi9 => simp only [List.getElem?_toArray, List.getElem?_cons_succ, List.getElem?_cons_zero]; exact rfl
      case hy9 => exact Or.inr ⟨by rfl, rfl⟩
      (try simp only [Act.put, List.setIfInBounds_toArray, List.set_cons_zero, List.set_cons_succ])
      refine' wpAnyH_take (i := 10) (oi := _) (v := undef) ?hi10 (by kernel_rfl) (by kernel_rfl) (by kernel_rfl) (fun _ _ _ h => h) ?hy10 (by assumption) ?rs10
      case hi10 => simp only [List.getElem?_toArray, List.getElem?_cons_succ, List.getElem?_cons_zero]; exact rfl
      case hy10 => exact Or.inr ⟨by rfl, rfl⟩
      (try simp only [Act.put, List.setIfInBounds_toArray, List.set_cons_zero, List.set_cons_succ])
      refine' wpAnyH_take (i := 11) (oi := _) (v := undef) ?hi11 (by kernel_rfl) (by kernel_rfl) (by kernel_rfl) (fun _ _ _ h => h) ?hy11 (by assumption) ?rs11
      case hi11 => simp only [List.getElem?_toArray, List.getElem?_cons_succ, List.getElem?_cons_zero]; exact rfl
      case hy11 => exact Or.inr ⟨by rfl, rfl⟩
      (try simp only [Act.put, List.setIfInBounds_toArray, List.set_cons_zero, List.set_cons_succ])
      refine' wpAnyH_take (i := 12) (oi := _) (v := undef) ?hi12 (by kernel_rfl) (by kernel_rfl) (by kernel_rfl) (fun _ _ _ h => h) ?hy12 (by assumption) ?rs12
      case hi12 => simp only [List.getElem?_toArray, List.getElem?_cons_succ, List.getElem?_cons_zero]; exact rfl
      case hy12 => exact Or.inr ⟨by rfl, rfl⟩
      (try simp only [Act.put, List.setIfInBounds_toArray, List.set_cons_zero, List.set_cons_succ])
      refine' wpAnyH_take (i := 13) (oi := _) (v := undef) ?hi13 (by kernel_rfl) (by kernel_rfl) (by kernel_rfl) (fun _ _ _ h => h) ?hy13 (by assumption) ?rs13
      case hi13 => simp only [List.getElem?_toArray, List.getElem?_cons_succ, List.getElem?_cons_zero]; exact rfl
      case hy13 => exact Or.inr ⟨by rfl, rfl⟩
      (try simp only [Act.put, List.setIfInBounds_toArray, List.set_cons_zero, List.set_cons_succ])
      refine' wpAnyH_take (i := 14) (oi := _) (v := undef) ?hi14 (by kernel_rfl) (by kernel_rfl) (by kernel_rfl) (fun _ _ _ h => h) ?hy14 (by assumption) ?rs14
      case hi14 => simp only [List.getElem?_toArray, List.getElem?_cons_succ, List.getElem?_cons_zero]; exact rfl
      case hy14 => exact Or.inr ⟨by rfl, rfl⟩
      (try simp only [Act.put, List.setIfInBounds_toArray, List.set_cons_zero, List.set_cons_succ])
      refine' wpAnyH_take (i := 15) (oi := _) (v := undef) ?hi15 (by kernel_rfl) (by kernel_rfl) (by kernel_rfl) (fun _ _ _ h => h) ?hy15 (by assumption) ?rs15
      case hi15 => simp only [List.getElem?_toArray, List.getElem?_cons_succ, List.getElem?_cons_zero]; exact rfl
      case hy15 => exact Or.inr ⟨by rfl, rfl⟩
      (try simp only [Act.put, List.setIfInBounds_toArray, List.set_cons_zero, List.set_cons_succ])
      refine' wpAnyH_take (i := 16) (oi := _) (v := _) ?hi16 (by kernel_rfl) (by kernel_rfl) (by kernel_rfl) (fun _ _ _ h => h) ?hy16 (by assumption) ?rs16
      case hi16 => simp only [List.getElem?_toArray, List.getElem?_cons_succ, List.getElem?_cons_zero]; exact rfl
      case hy16 => refine Or.inl ⟨by rfl, ?_⟩; intro w hSw; (try dsimp only at hSw); go_simp; first | done | with_reducible rfl
      (try simp only [Act.put, List.setIfInBounds_toArray, List.set_cons_zero, List.set_cons_succ])
      refine wpAnyH_done (by kernel_rfl) ?_ _
      refine NoPanic.normal ?_
      go_wp2
      go_region_law (fail)
      all_goals
        go_wp2
        refine bodyPost_ret (v := .tuple #[.slice none 0 0, .agg #[.int .i64 (er.2.1 : Int), .int .i64 (er.2.2 : Int)], .int .i64 (er.1 : Int)]) ?_ rfl ?_
        · obtain ⟨v0, v1⟩ := ret_cells HNW.out rfl (.int .i64 (er.2.1 : Int)) (.int .i64 (er.2.2 : Int))
          simp [results, Tryz.results10, go_sem, v0, v1]
        · rw [HRES.out]
          have h := ret_below HBW.out (.int .i64 (er.2.1 : Int)) (.int .i64 (er.2.2 : Int))
          exact ⟨⟨h.os, h.tape, h.output, h.size, h.block⟩, he1, rfl⟩
end Go.Proofs.YtdilngjolhmjnaaGreatDoor
