/- The document's own reading of a document's characters. Conditions: those that each theorem names. -/
import Derived.Test.YtdilngjolhmjnaaGreatDoorRg6
namespace Go.Proofs.YtdilngjolhmjnaaGreatDoor
open Go.RowKit Go.Shelf
set_option linter.all false

theorem info3 : (Tryz.prog.info? 3).map (fun i => (i.zero, i.size, i.bytes)) = some (some (.int .i64 0), 1, 8) := by kernel_rfl
theorem info9 : (Tryz.prog.info? 9).map (fun i => (i.zero, i.size, i.bytes)) = some (some (.string ⟨#[]⟩), 1, 16) := by kernel_rfl
theorem info29 : (Tryz.prog.info? 29).map (fun i => (i.zero, i.size, i.bytes)) = some (some (.agg #[.int .i64 0, .int .i64 0]), 2, 16) := by kernel_rfl
abbrev z64 : Array Value := #[.slice none 0 0, .slice none 0 0, .slice none 0 0, .int .i64 0, .int .i64 0, .int .i64 0, .int .i64 0]
/-- What a document's reading comes to. -/
def rdK (l : List UInt8) : Except K.Er (List Nat) := if 65536 < l.length then .error (2, (1, 1)) else CF l (1, 1) []
/-- How far Read has come. -/
def RdRel (l : List UInt8) (N : Nat) (w : World) (R : Except K.Er (List Nat)) (g : Nat) (iv : Value) (wr : World) : Prop :=
  ∃ (i : Nat) (acc : List Nat) (T C A : Value), iv = .int .i64 (i : Int) ∧ l.length - i = g ∧ i ≤ l.length ∧ CF (l.drop i) (K.advs (1, 1) acc) acc = R ∧ acc.length ≤ i ∧ K.Sc acc ∧
    RdS N w (K.advs (1, 1) acc) T C A 0 (0, 0) acc.length acc.length acc.length (txt acc) (chr acc) (pls (1, 1) acc) wr
theorem RdRel.mk' {l : List UInt8} {N : Nat} {w : World} {R : Except K.Er (List Nat)} {i : Nat} {acc : List Nat} {T C A : Value} {W : World} (h : RdS N w (K.advs (1, 1) acc) T C A 0 (0, 0) acc.length acc.length acc.length (txt acc) (chr acc) (pls (1, 1) acc) W) (z : Int) (hz : z = (i : Int)) (hi : i ≤ l.length) (hR : CF (l.drop i) (K.advs (1, 1) acc) acc = R) (ha : acc.length ≤ i) (hsc : K.Sc acc) : RdRel l N w R (l.length - i) (.int .i64 z) W :=
  ⟨i, acc, T, C, A, by rw [hz], rfl, hi, hR, ha, hsc, h⟩
theorem RdS.start (w : World) : RdS w.heap.size w (1, 1) (.slice none 0 0) (.slice none 0 0) (.slice none 0 0) 0 (0, 0) 0 0 0 [] [] [] ((w.alloc (.cells z64 64)).alloc (.cells #[.int .i64 1, .int .i64 1] 29)) := by
  have hb0 : Below w.heap.size w (w.alloc (.cells z64 64)) := (Below.refl _ _).alloc (Nat.le_refl _) _
  have hsz : (w.alloc (.cells z64 64)).heap.size = w.heap.size + 1 := heap_size w _
  have hb1 : Below (w.heap.size + 1) (w.alloc (.cells z64 64)) ((w.alloc (.cells z64 64)).alloc (.cells #[.int .i64 1, .int .i64 1] 29)) := (Below.refl _ _).alloc (Nat.le_of_eq hsz.symm) _
  have h0 := heap_new w (.cells z64 64)
  have h1 := heap_new (w.alloc (.cells z64 64)) (.cells #[.int .i64 1, .int .i64 1] 29)
  rw [hsz] at h1
  exact ⟨(hb1.block _ (by omega)).trans h0, h1, hb0.trans (hb1.mono (by omega)), ⟨rfl, .inl ⟨rfl, rfl⟩⟩, ⟨rfl, .inl ⟨rfl, rfl⟩⟩, ⟨rfl, .inl ⟨rfl, rfl⟩⟩⟩
theorem grown_drew {w w' : World} {r : Option Nat} (h : w.drew.grownBy w' r) : w.grownBy w' r := ⟨h.os, h.tape, h.output, h.size, h.block⟩
theorem advs_snoc (p : K.Pl) (l : List Nat) (c : Nat) : K.advs p (l ++ [c]) = K.adv (K.advs p l) c := by unfold K.advs; rw [List.foldl_append]; rfl
theorem pset1 (p : K.Pl) : (#[.int .i64 (p.1 : Int), .int .i64 (p.2 : Int)] : Array Value).setIfInBounds 1 (.int .i64 ((p.2 : Int) + 1)) = #[.int .i64 ((p.1 : Nat) : Int), .int .i64 ((p.2 + 1 : Nat) : Int)] := rfl
theorem pset0 (p : K.Pl) : (#[.int .i64 (p.1 : Int), .int .i64 ((p.2 + 1 : Nat) : Int)] : Array Value).setIfInBounds 0 (.int .i64 ((p.1 : Int) + 1)) = #[.int .i64 ((p.1 + 1 : Nat) : Int), .int .i64 ((p.2 + 1 : Nat) : Int)] := rfl
theorem sc_snoc {acc : List Nat} {c : Nat} (h : K.Sc acc) (hc : U.scalar c) : K.Sc (acc ++ [c]) := by
  intro x hx
  rcases List.mem_append.1 hx with hx | hx
  · exact h x hx
  · simp only [List.mem_singleton] at hx; rw [hx]; exact hc
theorem RdS.next {N : Nat} {w : World} {p' : K.Pl} {T C A : Value} {acc : List Nat} {c : Nat} {X : ByteArray} {W : World} (h : RdS N w p' T C A 0 (0, 0) (acc.length + 1) (acc.length + 1) (acc.length + 1) (txt acc ++ [.string X]) (chr acc ++ [.int .i64 (c : Int)]) (pls (1, 1) acc ++ [.int .i64 ((K.advs (1, 1) acc).1 : Int), .int .i64 ((K.advs (1, 1) acc).2 : Int)]) W) (hX : X = bs (U.enc c)) (hp : K.advs (1, 1) (acc ++ [c]) = p') :
    RdS N w (K.advs (1, 1) (acc ++ [c])) T C A 0 (0, 0) (acc ++ [c]).length (acc ++ [c]).length (acc ++ [c]).length (txt (acc ++ [c])) (chr (acc ++ [c])) (pls (1, 1) (acc ++ [c])) W := by
  rw [hp, txt_snoc, chr_snoc, pls_snoc, ← hX, List.length_append]
  exact h
theorem advs_le (l : List Nat) : (K.advs (1, 1) l).1 ≤ l.length + 1 ∧ (K.advs (1, 1) l).2 ≤ l.length + 1 := by
  have key : ∀ (l : List Nat) (p : K.Pl) (m : Nat), p.1 ≤ m → p.2 ≤ m → 1 ≤ m → (K.advs p l).1 ≤ l.length + m ∧ (K.advs p l).2 ≤ l.length + m := by
    intro l
    induction l with
    | nil => intro p m h1 h2 _; exact ⟨by simpa [K.advs] using h1, by simpa [K.advs] using h2⟩
    | cons c l ih =>
      intro p m h1 h2 h3
      obtain ⟨a1, a2⟩ := adv_le (c := c) h1 h2 (by omega)
      obtain ⟨b1, b2⟩ := ih (K.adv p c) (m + 1) a1 a2 (by omega)
      simp only [List.length_cons]
      exact ⟨by show (K.advs (K.adv p c) l).1 ≤ _; omega, by show (K.advs (K.adv p c) l).2 ≤ _; omega⟩
  have := key l (1, 1) 1 (Nat.le_refl _) (Nat.le_refl _) (Nat.le_refl _)
  exact this

set_option maxHeartbeats 8000000 in
set_option maxRecDepth 100000 in
theorem read_long (l : List UInt8) (hl : 65536 < l.length) (hs : l.length ≤ 140737488355328) (w : World) : Calls Tryz.prog 21 #[.string (bs l)] w (RdPost (.error (2, (1, 1))) w) := by
  have hsz := bs_size l
  have hgt : (65536 : Int) < ((bs l).size : Int) := by omega
  have h0 := RdS.start w
  obtain ⟨_, _, _, f4, f5, f6⟩ := sn_free h0.sn
  obtain ⟨k0, k1, _, _⟩ := h0.ats
  have HS := Lib.hid h0
  clear h0
  go_enter Tryz.func21, Tryz.ntmps21
  go_wp2
  go_ret
  have hb0 : ∀ x : Array Value, Below w.heap.size w (w.alloc (.cells x 64)) := fun x => (Below.refl _ _).alloc (Nat.le_refl _) _
  refine ⟨(hb0 _).alloc (by rw [heap_size]; omega) _, w.heap.size, Nat.le_refl _, rfl, by show 1 ≤ 2; decide, by show 2 ≤ 100; decide, .slice none 0 0, .slice none 0 0, .slice none 0 0, ?_⟩
  unfold Sn
  rw [Below.heap_alloc _ _ _ (by rw [heap_size]; omega)]
  exact heap_new w _

set_option maxHeartbeats 16000000 in
set_option maxRecDepth 100000 in
theorem read_chars (l : List UInt8) (hl : l.length ≤ 65536) (w : World) : Calls Tryz.prog 21 #[.string (bs l)] w (RdPost (CF l (1, 1) []) w) := by
  have hsz := bs_size l
  obtain ⟨R, hR⟩ : ∃ R, CF l (1, 1) [] = R := ⟨_, rfl⟩
  obtain ⟨N, hN⟩ : ∃ N, w.heap.size = N := ⟨_, rfl⟩
  have h0 := RdS.start w
  rw [hN] at h0
  have hst : RdRel l N w R l.length (.int .i64 0) ((w.alloc (.cells z64 64)).alloc (.cells #[.int .i64 1, .int .i64 1] 29)) := ⟨0, [], _, _, _, rfl, rfl, Nat.zero_le _, hR, Nat.le_refl _, (fun y hy => by cases hy), h0⟩
  rw [hR]
  have hle : ¬ (65536 : Int) < ((bs l).size : Int) := by omega
  obtain ⟨i3, h31, h32, h33, h34⟩ := info_parts info3
  obtain ⟨i9, h91, h92, h93, h94⟩ := info_parts info9
  obtain ⟨i29, h291, h292, h293, h294⟩ := info_parts info29
  have HST := Lib.hid hst
  have HN := Lib.hid hN
  clear hst hN hR h0
  go_enter Tryz.func21, Tryz.ntmps21
  go_wp2
  rw [HN.out]
  go_loopg [5] l.length (fun g iv wr => RdRel l N w R g iv wr)
  case atStart => exact HST.out
  case round =>
    obtain ⟨i, acc, T, C, A, rfl, hg, hi, hCF, hacc, hsc, hS⟩ := hrel
    obtain ⟨e0, e1, e2, _, _⟩ := hS.sn.cells
    obtain ⟨f0, f1, f2, f4, f5, f6⟩ := sn_free hS.sn
    obtain ⟨k0, k1, k2, k3⟩ := hS.ats
    have e5 : wr.cell? ⟨N, 5, none⟩ = some (.int .i64 0) := by rw [Lib.cell_of_heap hS.sn]; rfl
    have e6 : wr.cell? ⟨N, 6, none⟩ = some (.int .i64 0) := by rw [Lib.cell_of_heap hS.sn]; rfl
    have e4 : wr.cell? ⟨N, 4, none⟩ = some (.int .i64 0) := by rw [Lib.cell_of_heap hS.sn]; rfl
    have HS := Lib.hid hS
    have HSC := Lib.hid hsc
    have hal := advs_le acc
    clear hS hsc
    by_cases hlt : i < l.length
    · have hlts : (i : Int) < ((bs l).size : Int) := by omega
      have hne : l.drop i ≠ [] := by intro h; have := congrArg List.length h; rw [List.length_drop] at this; simp at this; omega
      obtain ⟨c, n, hcn⟩ : ∃ c n, U.dec (l.drop i) = (c, n) := ⟨_, _, rfl⟩
      have hna : nextAt (ls (bs l)) (i : Int) = (c, n) := by rw [nextAt_in _ i (by omega)]; exact hcn
      have hch := char_any (bs l) (by omega) (i : Int) c n hna wr
      have hnl := U.dec_le (l.drop i)
      rw [hcn, List.length_drop] at hnl
      clear hna
      cases n with
      | zero =>
        have hre : R = .error (10, K.advs (1, 1) acc) := hCF.symm.trans (CF_err hne (by unfold ch1; rw [hcn]; rfl))
        have HRE := Lib.hid hre
        clear hre hCF hne hcn
        go_wp2_with (go_at_call 31; refine hch.mono ?_; rintro e w' ⟨rfl, rfl⟩)
        go_ret
        rw [HRE.out]
        exact HS.out.fell (10, K.advs (1, 1) acc) (by show 1 ≤ 10; decide) (by show 10 ≤ 100; decide) HN.out
      | succ m =>
        obtain ⟨hs1, hen, hdr⟩ := U.enc_dec _ c m hcn
        have hc31 : c < 2147483648 := by unfold U.scalar at hs1; omega
        have hm0 : ((m : Int) + 1 == 0) = false := by rw [beq_eq_false_iff_ne]; omega
        by_cases h13 : c = 13
        · subst h13
          obtain rfl : m = 0 := by have : (U.enc 13).length = 1 := rfl; omega
          have hex : (⟨#[10]⟩ : ByteArray) = bs (U.enc 10) := rfl
          have hs10 : U.scalar 10 := by unfold U.scalar; omega
          have HEX := Lib.hid hex
          have HS1' := Lib.hid hs10
          by_cases hi1 : i + 1 < l.length
          · have hi2 : i + 1 < (bs l).size := by omega
            obtain ⟨b0, hb0⟩ : ∃ b0, l[i + 1] = b0 := ⟨_, rfl⟩
            have hget : (bs l)[i + 1] = b0 := (bs_get l (i + 1) hi2 hi1).trans hb0
            have hlt1 : (i : Int) + 1 < ((bs l).size : Int) := by omega
            have hb8 := UInt8.toNat_lt b0
            have htl : (l.drop i).tail.head? = some b0 := by rw [List.tail_drop, List.head?_drop, List.getElem?_eq_getElem hi1]; exact congrArg some hb0
            by_cases h1 : b0 = 10
            · subst h1
              have hre : CF (l.drop (i + 2)) (K.adv (K.advs (1, 1) acc) 10) (acc ++ [10]) = R := by
                rw [← hCF, CF_ok hne (c := 10) (n := 2) (by unfold ch1; rw [hcn, htl]; rfl), List.drop_drop]
              rw [← advs_snoc] at hre
              have HRE := Lib.hid hre
              clear hre hCF hne hcn hex hdr hs1 hen htl hb0 hs10
              go_wp2_with (first
                | (go_at_call 31; refine hch.mono ?_; rintro e w' ⟨rfl, rfl⟩)
                | (at_builtin; refine wpList_append_lies _ rfl _ _ 61 rfl (N + 2) 3 i3 _ 1 8 Tryz.underlying61 h31 h32 h33 h34 rfl (by decide) _ acc.length (chr acc) rfl (HS.out.rc.alloc _) ⟨wr.heap.size, 0, none⟩ 1 1 [.int .i64 (10 : Int)] rfl rfl (World.news_of_block (heap_alloc_new _ _)) (by simp [Value.oneCell']) (by decide) (by unfold maxLen; omega) (by omega) (by have := HS.out.size; simp; omega) _ rfl ?_; intro g1 cap1 w6 hown1 hgrow1 hat1 hlt1; obtain ⟨hbl1, _⟩ := own_growE HS.out.rc HS.out.size hgrow1; obtain ⟨s1, a1, _⟩ := HS.out.grown hbl1; obtain ⟨e0, e1, e2, _, _⟩ := s1.cells; obtain ⟨f0, f1, f2, _⟩ := sn_free s1; have HS1 := Lib.hid (HS.out.pushC hown1 hgrow1); clear hown1 hgrow1 hat1 hlt1 hbl1 s1 a1)
                | (at_builtin; refine wpList_append_lies _ rfl _ _ 60 rfl (N + 2) 9 i9 _ 1 16 Tryz.underlying60 h91 h92 h93 h94 rfl (by decide) _ acc.length (txt acc) rfl (HS1.out.rt.alloc _) ⟨w6.heap.size, 0, none⟩ 1 1 [.string ⟨#[10]⟩] rfl rfl (by rw [show w6.heap.size = (w6.setCell ⟨N, 1, none⟩ (.slice (some ⟨g1, 0, none⟩) (acc.length + 1) cap1)).heap.size by simp [World.setCell]]; exact World.news_of_block (heap_alloc_new _ _)) (by simp [Value.oneCell']) (by decide) (by unfold maxLen; omega) (by omega) (by have := HS1.out.size; simp [World.setCell] at this ⊢; omega) _ rfl ?_; intro g2 cap2 w7 hown2 hgrow2 hat2 hlt2; obtain ⟨hbl2, _⟩ := own_growE HS1.out.rt HS1.out.size hgrow2; obtain ⟨s2, a2, _⟩ := HS1.out.grown hbl2; obtain ⟨e0, e1, e2, _, _⟩ := s2.cells; obtain ⟨f0, f1, f2, _⟩ := sn_free s2; have HS2 := Lib.hid (HS1.out.pushT hown2 hgrow2); have k0 : w7.cell? ⟨N + 1, 0, none⟩ = some (.int .i64 ((K.advs (1, 1) acc).1 : Int)) := (by rw [Lib.cell_of_heap a2]; rfl); have k1 : w7.cell? ⟨N + 1, 1, none⟩ = some (.int .i64 ((K.advs (1, 1) acc).2 : Int)) := (by rw [Lib.cell_of_heap a2]; rfl); clear hown2 hgrow2 hat2 hlt2 hbl2 s2 a2))
              have h2 := HS2.out
              generalize hW7 : w7.setCell ⟨N, 0, none⟩ (.slice (some ⟨g2, 0, none⟩) (acc.length + 1) cap2) = W7 at h2 ⊢
              clear hW7 e0 e1 e2 f0 f1 f2 k0 k1 HS1 HS2
              obtain ⟨e0, e1, e2, _, _⟩ := h2.sn.cells
              obtain ⟨f0, f1, f2, _⟩ := sn_free h2.sn
              obtain ⟨k0, k1, k2, k3⟩ := h2.ats
              have hNl : N < W7.heap.size := by have := h2.size; omega
              have hNl1 : N + 1 < W7.heap.size := by have := h2.size; omega
              have HS2 := Lib.hid h2
              clear h2
              go_region_law (first
                | ((refine step_append_lies _ (by rfl) _ _ _ (by rfl) (N + 2) 29 i29 _ 2 16 Tryz.underlying62 h291 h292 h293 h294 rfl (by decide) A acc.length (pls (1, 1) acc) (by rfl) ((HS2.out.ra.alloc _).drew) ⟨W7.heap.size, 0, none⟩ 1 1 [.int .i64 ((K.advs (1, 1) acc).1 : Int), .int .i64 ((K.advs (1, 1) acc).2 : Int)] (by rfl) (by rfl) (World.news_of_block (cs := #[.int .i64 ((K.advs (1, 1) acc).1 : Int), .int .i64 ((K.advs (1, 1) acc).2 : Int)]) (t := 29) (fr := (0, 0)) (heap_alloc_new W7 _)) (by simp [Value.oneCell']) (by omega) (by unfold maxLen; omega) (by omega) (by have := HS2.out.size; simp; omega) (W7.heap.size + 1) (by simp) ?_; intro g3 cap3 w8 hown3 hgrow3 hat3 hlt3; have hgrow3' := grown_drew hgrow3; obtain ⟨hbl3, _⟩ := own_growE HS2.out.ra HS2.out.size hgrow3'; obtain ⟨s3, a3, _⟩ := HS2.out.grown hbl3; obtain ⟨_, _, e2', _, _⟩ := s3.cells; obtain ⟨_, _, f2', _⟩ := sn_free s3; have q0 : w8.cell? ⟨N + 1, 0, none⟩ = some (.int .i64 ((K.advs (1, 1) acc).1 : Int)) := (by rw [Lib.cell_of_heap a3]; rfl); have q1 : w8.cell? ⟨N + 1, 1, none⟩ = some (.int .i64 ((K.advs (1, 1) acc).2 : Int)) := (by rw [Lib.cell_of_heap a3]; rfl); have r0 : w8.frozen? ⟨N + 1, 0, none⟩ = false := Lib.frozen_of_heap a3 _; have r1 : w8.frozen? ⟨N + 1, 1, none⟩ = false := Lib.frozen_of_heap a3 _; have HS3 := Lib.hid (HS2.out.pushA hown3 hgrow3'); clear hown3 hgrow3 hgrow3' hat3 hlt3 hbl3 s3 a3)))
              all_goals
                go_wp2
                go_roundg (l.length - (i + 2))
                case measure => omega
                case rel =>
                  have h4 := ((HS3.out.setP 1 _ ((K.advs (1, 1) acc).1, (K.advs (1, 1) acc).2 + 1) (pset1 _)).setP 0 _ ((K.advs (1, 1) acc).1 + 1, (K.advs (1, 1) acc).2 + 1) (pset0 _)).setP 1 (.int .i64 1) ((K.advs (1, 1) acc).1 + 1, 1) rfl
                  have h5 := h4.next HEX.out (by rw [advs_snoc]; unfold K.adv; rw [if_pos rfl])
                  exact RdRel.mk' h5 _ (by omega) (by omega) HRE.out (by rw [List.length_append]; show acc.length + 1 ≤ _; omega) (sc_snoc HSC.out HS1'.out)
            · have hn10 : (((b0.toNat : Int)) == 10) = false := by
                rw [beq_eq_false_iff_ne]
                intro e
                exact h1 (UInt8.toNat_inj.1 (by have : (10 : UInt8).toNat = 10 := rfl; omega))
              have hre : CF (l.drop (i + 1)) (K.adv (K.advs (1, 1) acc) 10) (acc ++ [10]) = R := by
                rw [← hCF, CF_ok hne (c := 10) (n := 1) (by unfold ch1; rw [hcn, htl]; simp [h1]), List.drop_drop]
              rw [← advs_snoc] at hre
              have HRE := Lib.hid hre
              clear hre hCF hne hcn hex hdr hs1 hen htl hb0 hs10
              go_wp2_with (first
                | (go_at_call 31; refine hch.mono ?_; rintro e w' ⟨rfl, rfl⟩)
                | (at_builtin; refine wpList_append_lies _ rfl _ _ 61 rfl (N + 2) 3 i3 _ 1 8 Tryz.underlying61 h31 h32 h33 h34 rfl (by decide) _ acc.length (chr acc) rfl (HS.out.rc.alloc _) ⟨wr.heap.size, 0, none⟩ 1 1 [.int .i64 (10 : Int)] rfl rfl (World.news_of_block (heap_alloc_new _ _)) (by simp [Value.oneCell']) (by decide) (by unfold maxLen; omega) (by omega) (by have := HS.out.size; simp; omega) _ rfl ?_; intro g1 cap1 w6 hown1 hgrow1 hat1 hlt1; obtain ⟨hbl1, _⟩ := own_growE HS.out.rc HS.out.size hgrow1; obtain ⟨s1, a1, _⟩ := HS.out.grown hbl1; obtain ⟨e0, e1, e2, _, _⟩ := s1.cells; obtain ⟨f0, f1, f2, _⟩ := sn_free s1; have HS1 := Lib.hid (HS.out.pushC hown1 hgrow1); clear hown1 hgrow1 hat1 hlt1 hbl1 s1 a1)
                | (at_builtin; refine wpList_append_lies _ rfl _ _ 60 rfl (N + 2) 9 i9 _ 1 16 Tryz.underlying60 h91 h92 h93 h94 rfl (by decide) _ acc.length (txt acc) rfl (HS1.out.rt.alloc _) ⟨w6.heap.size, 0, none⟩ 1 1 [.string ⟨#[10]⟩] rfl rfl (by rw [show w6.heap.size = (w6.setCell ⟨N, 1, none⟩ (.slice (some ⟨g1, 0, none⟩) (acc.length + 1) cap1)).heap.size by simp [World.setCell]]; exact World.news_of_block (heap_alloc_new _ _)) (by simp [Value.oneCell']) (by decide) (by unfold maxLen; omega) (by omega) (by have := HS1.out.size; simp [World.setCell] at this ⊢; omega) _ rfl ?_; intro g2 cap2 w7 hown2 hgrow2 hat2 hlt2; obtain ⟨hbl2, _⟩ := own_growE HS1.out.rt HS1.out.size hgrow2; obtain ⟨s2, a2, _⟩ := HS1.out.grown hbl2; obtain ⟨e0, e1, e2, _, _⟩ := s2.cells; obtain ⟨f0, f1, f2, _⟩ := sn_free s2; have HS2 := Lib.hid (HS1.out.pushT hown2 hgrow2); have k0 : w7.cell? ⟨N + 1, 0, none⟩ = some (.int .i64 ((K.advs (1, 1) acc).1 : Int)) := (by rw [Lib.cell_of_heap a2]; rfl); have k1 : w7.cell? ⟨N + 1, 1, none⟩ = some (.int .i64 ((K.advs (1, 1) acc).2 : Int)) := (by rw [Lib.cell_of_heap a2]; rfl); clear hown2 hgrow2 hat2 hlt2 hbl2 s2 a2))
              have h2 := HS2.out
              generalize hW7 : w7.setCell ⟨N, 0, none⟩ (.slice (some ⟨g2, 0, none⟩) (acc.length + 1) cap2) = W7 at h2 ⊢
              clear hW7 e0 e1 e2 f0 f1 f2 k0 k1 HS1 HS2
              obtain ⟨e0, e1, e2, _, _⟩ := h2.sn.cells
              obtain ⟨f0, f1, f2, _⟩ := sn_free h2.sn
              obtain ⟨k0, k1, k2, k3⟩ := h2.ats
              have hNl : N < W7.heap.size := by have := h2.size; omega
              have hNl1 : N + 1 < W7.heap.size := by have := h2.size; omega
              have HS2 := Lib.hid h2
              clear h2
              go_region_law (first
                | ((refine step_append_lies _ (by rfl) _ _ _ (by rfl) (N + 2) 29 i29 _ 2 16 Tryz.underlying62 h291 h292 h293 h294 rfl (by decide) A acc.length (pls (1, 1) acc) (by rfl) ((HS2.out.ra.alloc _).drew) ⟨W7.heap.size, 0, none⟩ 1 1 [.int .i64 ((K.advs (1, 1) acc).1 : Int), .int .i64 ((K.advs (1, 1) acc).2 : Int)] (by rfl) (by rfl) (World.news_of_block (cs := #[.int .i64 ((K.advs (1, 1) acc).1 : Int), .int .i64 ((K.advs (1, 1) acc).2 : Int)]) (t := 29) (fr := (0, 0)) (heap_alloc_new W7 _)) (by simp [Value.oneCell']) (by omega) (by unfold maxLen; omega) (by omega) (by have := HS2.out.size; simp; omega) (W7.heap.size + 1) (by simp) ?_; intro g3 cap3 w8 hown3 hgrow3 hat3 hlt3; have hgrow3' := grown_drew hgrow3; obtain ⟨hbl3, _⟩ := own_growE HS2.out.ra HS2.out.size hgrow3'; obtain ⟨s3, a3, _⟩ := HS2.out.grown hbl3; obtain ⟨_, _, e2', _, _⟩ := s3.cells; obtain ⟨_, _, f2', _⟩ := sn_free s3; have q0 : w8.cell? ⟨N + 1, 0, none⟩ = some (.int .i64 ((K.advs (1, 1) acc).1 : Int)) := (by rw [Lib.cell_of_heap a3]; rfl); have q1 : w8.cell? ⟨N + 1, 1, none⟩ = some (.int .i64 ((K.advs (1, 1) acc).2 : Int)) := (by rw [Lib.cell_of_heap a3]; rfl); have r0 : w8.frozen? ⟨N + 1, 0, none⟩ = false := Lib.frozen_of_heap a3 _; have r1 : w8.frozen? ⟨N + 1, 1, none⟩ = false := Lib.frozen_of_heap a3 _; have HS3 := Lib.hid (HS2.out.pushA hown3 hgrow3'); clear hown3 hgrow3 hgrow3' hat3 hlt3 hbl3 s3 a3)))
              all_goals
                go_wp2
                go_roundg (l.length - (i + 1))
                case measure => omega
                case rel =>
                  have h4 := ((HS3.out.setP 1 _ ((K.advs (1, 1) acc).1, (K.advs (1, 1) acc).2 + 1) (pset1 _)).setP 0 _ ((K.advs (1, 1) acc).1 + 1, (K.advs (1, 1) acc).2 + 1) (pset0 _)).setP 1 (.int .i64 1) ((K.advs (1, 1) acc).1 + 1, 1) rfl
                  have h5 := h4.next HEX.out (by rw [advs_snoc]; unfold K.adv; rw [if_pos rfl])
                  exact RdRel.mk' h5 _ (by omega) (by omega) HRE.out (by rw [List.length_append]; show acc.length + 1 ≤ _; omega) (sc_snoc HSC.out HS1'.out)
          · have hge1 : ¬ (i : Int) + 1 < ((bs l).size : Int) := by omega
            have htl : (l.drop i).tail.head? = none := by rw [List.tail_drop, List.head?_drop, List.getElem?_eq_none (by omega)]
            have hre : CF (l.drop (i + 1)) (K.adv (K.advs (1, 1) acc) 10) (acc ++ [10]) = R := by
              rw [← hCF, CF_ok hne (c := 10) (n := 1) (by unfold ch1; rw [hcn, htl]; rfl), List.drop_drop]
            rw [← advs_snoc] at hre
            have HRE := Lib.hid hre
            clear hre hCF hne hcn hex hdr hs1 hen htl hs10
            go_wp2_with (first
              | (go_at_call 31; refine hch.mono ?_; rintro e w' ⟨rfl, rfl⟩)
              | (at_builtin; refine wpList_append_lies _ rfl _ _ 61 rfl (N + 2) 3 i3 _ 1 8 Tryz.underlying61 h31 h32 h33 h34 rfl (by decide) _ acc.length (chr acc) rfl (HS.out.rc.alloc _) ⟨wr.heap.size, 0, none⟩ 1 1 [.int .i64 (10 : Int)] rfl rfl (World.news_of_block (heap_alloc_new _ _)) (by simp [Value.oneCell']) (by decide) (by unfold maxLen; omega) (by omega) (by have := HS.out.size; simp; omega) _ rfl ?_; intro g1 cap1 w6 hown1 hgrow1 hat1 hlt1; obtain ⟨hbl1, _⟩ := own_growE HS.out.rc HS.out.size hgrow1; obtain ⟨s1, a1, _⟩ := HS.out.grown hbl1; obtain ⟨e0, e1, e2, _, _⟩ := s1.cells; obtain ⟨f0, f1, f2, _⟩ := sn_free s1; have HS1 := Lib.hid (HS.out.pushC hown1 hgrow1); clear hown1 hgrow1 hat1 hlt1 hbl1 s1 a1)
              | (at_builtin; refine wpList_append_lies _ rfl _ _ 60 rfl (N + 2) 9 i9 _ 1 16 Tryz.underlying60 h91 h92 h93 h94 rfl (by decide) _ acc.length (txt acc) rfl (HS1.out.rt.alloc _) ⟨w6.heap.size, 0, none⟩ 1 1 [.string ⟨#[10]⟩] rfl rfl (by rw [show w6.heap.size = (w6.setCell ⟨N, 1, none⟩ (.slice (some ⟨g1, 0, none⟩) (acc.length + 1) cap1)).heap.size by simp [World.setCell]]; exact World.news_of_block (heap_alloc_new _ _)) (by simp [Value.oneCell']) (by decide) (by unfold maxLen; omega) (by omega) (by have := HS1.out.size; simp [World.setCell] at this ⊢; omega) _ rfl ?_; intro g2 cap2 w7 hown2 hgrow2 hat2 hlt2; obtain ⟨hbl2, _⟩ := own_growE HS1.out.rt HS1.out.size hgrow2; obtain ⟨s2, a2, _⟩ := HS1.out.grown hbl2; obtain ⟨e0, e1, e2, _, _⟩ := s2.cells; obtain ⟨f0, f1, f2, _⟩ := sn_free s2; have HS2 := Lib.hid (HS1.out.pushT hown2 hgrow2); have k0 : w7.cell? ⟨N + 1, 0, none⟩ = some (.int .i64 ((K.advs (1, 1) acc).1 : Int)) := (by rw [Lib.cell_of_heap a2]; rfl); have k1 : w7.cell? ⟨N + 1, 1, none⟩ = some (.int .i64 ((K.advs (1, 1) acc).2 : Int)) := (by rw [Lib.cell_of_heap a2]; rfl); clear hown2 hgrow2 hat2 hlt2 hbl2 s2 a2))
            have h2 := HS2.out
            generalize hW7 : w7.setCell ⟨N, 0, none⟩ (.slice (some ⟨g2, 0, none⟩) (acc.length + 1) cap2) = W7 at h2 ⊢
            clear hW7 e0 e1 e2 f0 f1 f2 k0 k1 HS1 HS2
            obtain ⟨e0, e1, e2, _, _⟩ := h2.sn.cells
            obtain ⟨f0, f1, f2, _⟩ := sn_free h2.sn
            obtain ⟨k0, k1, k2, k3⟩ := h2.ats
            have hNl : N < W7.heap.size := by have := h2.size; omega
            have hNl1 : N + 1 < W7.heap.size := by have := h2.size; omega
            have HS2 := Lib.hid h2
            clear h2
            go_region_law (first
              | ((refine step_append_lies _ (by rfl) _ _ _ (by rfl) (N + 2) 29 i29 _ 2 16 Tryz.underlying62 h291 h292 h293 h294 rfl (by decide) A acc.length (pls (1, 1) acc) (by rfl) ((HS2.out.ra.alloc _).drew) ⟨W7.heap.size, 0, none⟩ 1 1 [.int .i64 ((K.advs (1, 1) acc).1 : Int), .int .i64 ((K.advs (1, 1) acc).2 : Int)] (by rfl) (by rfl) (World.news_of_block (cs := #[.int .i64 ((K.advs (1, 1) acc).1 : Int), .int .i64 ((K.advs (1, 1) acc).2 : Int)]) (t := 29) (fr := (0, 0)) (heap_alloc_new W7 _)) (by simp [Value.oneCell']) (by omega) (by unfold maxLen; omega) (by omega) (by have := HS2.out.size; simp; omega) (W7.heap.size + 1) (by simp) ?_; intro g3 cap3 w8 hown3 hgrow3 hat3 hlt3; have hgrow3' := grown_drew hgrow3; obtain ⟨hbl3, _⟩ := own_growE HS2.out.ra HS2.out.size hgrow3'; obtain ⟨s3, a3, _⟩ := HS2.out.grown hbl3; obtain ⟨_, _, e2', _, _⟩ := s3.cells; obtain ⟨_, _, f2', _⟩ := sn_free s3; have q0 : w8.cell? ⟨N + 1, 0, none⟩ = some (.int .i64 ((K.advs (1, 1) acc).1 : Int)) := (by rw [Lib.cell_of_heap a3]; rfl); have q1 : w8.cell? ⟨N + 1, 1, none⟩ = some (.int .i64 ((K.advs (1, 1) acc).2 : Int)) := (by rw [Lib.cell_of_heap a3]; rfl); have r0 : w8.frozen? ⟨N + 1, 0, none⟩ = false := Lib.frozen_of_heap a3 _; have r1 : w8.frozen? ⟨N + 1, 1, none⟩ = false := Lib.frozen_of_heap a3 _; have HS3 := Lib.hid (HS2.out.pushA hown3 hgrow3'); clear hown3 hgrow3 hgrow3' hat3 hlt3 hbl3 s3 a3)))
            all_goals
              go_wp2
              go_roundg (l.length - (i + 1))
              case measure => omega
              case rel =>
                have h4 := ((HS3.out.setP 1 _ ((K.advs (1, 1) acc).1, (K.advs (1, 1) acc).2 + 1) (pset1 _)).setP 0 _ ((K.advs (1, 1) acc).1 + 1, (K.advs (1, 1) acc).2 + 1) (pset0 _)).setP 1 (.int .i64 1) ((K.advs (1, 1) acc).1 + 1, 1) rfl
                have h5 := h4.next HEX.out (by rw [advs_snoc]; unfold K.adv; rw [if_pos rfl])
                exact RdRel.mk' h5 _ (by omega) (by omega) HRE.out (by rw [List.length_append]; show acc.length + 1 ≤ _; omega) (sc_snoc HSC.out HS1'.out)
        · have hn13 : ((c : Int) == 13) = false := by rw [beq_eq_false_iff_ne]; omega
          by_cases hA : K.allowed c = true
          · have hex : (bs l).extract i (i + (m + 1)) = bs (U.enc c) := by
              rw [bs_extract, show i + (m + 1) - i = m + 1 by omega, hdr]
              have := List.take_left (l₁ := U.enc c) (l₂ := (l.drop i).drop (m + 1))
              rw [hen] at this
              rw [this]
            have hal2 : ∀ W, Calls Tryz.prog 32 #[.int .i64 (c : Int)] W fun e w' => e = .returned (.bool true) ∧ W = w' := fun W => by have h := refAllowed_any c hc31 W; rw [hA] at h; exact h
            have hre : CF (l.drop (i + (m + 1))) (K.adv (K.advs (1, 1) acc) c) (acc ++ [c]) = R := by
              rw [← hCF, CF_ok hne (c := c) (n := m + 1) (by unfold ch1; rw [hcn]; simp [h13, hA]), List.drop_drop]
            rw [← advs_snoc] at hre
            have HRE := Lib.hid hre
            have HEX := Lib.hid hex
            have HS1' := Lib.hid hs1
            clear hre hCF hne hcn hex hdr hs1 hen
            go_wp2_with (first
              | (go_at_call 31; refine hch.mono ?_; rintro e w' ⟨rfl, rfl⟩)
              | (go_at_call 32; refine (hal2 _).mono ?_; rintro e w' ⟨rfl, rfl⟩)
              | (at_builtin; refine wpList_append_lies _ rfl _ _ 61 rfl (N + 2) 3 i3 _ 1 8 Tryz.underlying61 h31 h32 h33 h34 rfl (by decide) _ acc.length (chr acc) rfl (HS.out.rc.alloc _) ⟨wr.heap.size, 0, none⟩ 1 1 [.int .i64 (c : Int)] rfl rfl (World.news_of_block (heap_alloc_new _ _)) (by simp [Value.oneCell']) (by decide) (by unfold maxLen; omega) (by omega) (by have := HS.out.size; simp; omega) _ rfl ?_; intro g1 cap1 w6 hown1 hgrow1 hat1 hlt1; obtain ⟨hbl1, _⟩ := own_growE HS.out.rc HS.out.size hgrow1; obtain ⟨s1, a1, _⟩ := HS.out.grown hbl1; obtain ⟨e0, e1, e2, _, _⟩ := s1.cells; obtain ⟨f0, f1, f2, _⟩ := sn_free s1; have HS1 := Lib.hid (HS.out.pushC hown1 hgrow1); clear hown1 hgrow1 hat1 hlt1 hbl1 s1 a1)
              | (at_builtin; refine wpList_append_lies _ rfl _ _ 60 rfl (N + 2) 9 i9 _ 1 16 Tryz.underlying60 h91 h92 h93 h94 rfl (by decide) _ acc.length (txt acc) rfl (HS1.out.rt.alloc _) ⟨w6.heap.size, 0, none⟩ 1 1 [.string ((bs l).extract i (i + (m + 1)))] rfl rfl (by rw [show w6.heap.size = (w6.setCell ⟨N, 1, none⟩ (.slice (some ⟨g1, 0, none⟩) (acc.length + 1) cap1)).heap.size by simp [World.setCell]]; exact World.news_of_block (heap_alloc_new _ _)) (by simp [Value.oneCell']) (by decide) (by unfold maxLen; omega) (by omega) (by have := HS1.out.size; simp [World.setCell] at this ⊢; omega) _ rfl ?_; intro g2 cap2 w7 hown2 hgrow2 hat2 hlt2; obtain ⟨hbl2, _⟩ := own_growE HS1.out.rt HS1.out.size hgrow2; obtain ⟨s2, a2, _⟩ := HS1.out.grown hbl2; obtain ⟨e0, e1, e2, _, _⟩ := s2.cells; obtain ⟨f0, f1, f2, _⟩ := sn_free s2; have HS2 := Lib.hid (HS1.out.pushT hown2 hgrow2); have k0 : w7.cell? ⟨N + 1, 0, none⟩ = some (.int .i64 ((K.advs (1, 1) acc).1 : Int)) := (by rw [Lib.cell_of_heap a2]; rfl); have k1 : w7.cell? ⟨N + 1, 1, none⟩ = some (.int .i64 ((K.advs (1, 1) acc).2 : Int)) := (by rw [Lib.cell_of_heap a2]; rfl); clear hown2 hgrow2 hat2 hlt2 hbl2 s2 a2))
            have h2 := HS2.out
            generalize hW7 : w7.setCell ⟨N, 0, none⟩ (.slice (some ⟨g2, 0, none⟩) (acc.length + 1) cap2) = W7 at h2 ⊢
            clear hW7 e0 e1 e2 f0 f1 f2 k0 k1 HS1 HS2
            obtain ⟨e0, e1, e2, _, _⟩ := h2.sn.cells
            obtain ⟨f0, f1, f2, _⟩ := sn_free h2.sn
            obtain ⟨k0, k1, k2, k3⟩ := h2.ats
            have hNl : N < W7.heap.size := by have := h2.size; omega
            have hNl1 : N + 1 < W7.heap.size := by have := h2.size; omega
            have HS2 := Lib.hid h2
            clear h2
            go_region_law (first
              | ((refine step_append_lies _ (by rfl) _ _ _ (by rfl) (N + 2) 29 i29 _ 2 16 Tryz.underlying62 h291 h292 h293 h294 rfl (by decide) A acc.length (pls (1, 1) acc) (by rfl) ((HS2.out.ra.alloc _).drew) ⟨W7.heap.size, 0, none⟩ 1 1 [.int .i64 ((K.advs (1, 1) acc).1 : Int), .int .i64 ((K.advs (1, 1) acc).2 : Int)] (by rfl) (by rfl) (World.news_of_block (cs := #[.int .i64 ((K.advs (1, 1) acc).1 : Int), .int .i64 ((K.advs (1, 1) acc).2 : Int)]) (t := 29) (fr := (0, 0)) (heap_alloc_new W7 _)) (by simp [Value.oneCell']) (by omega) (by unfold maxLen; omega) (by omega) (by have := HS2.out.size; simp; omega) (W7.heap.size + 1) (by simp) ?_; intro g3 cap3 w8 hown3 hgrow3 hat3 hlt3; have hgrow3' := grown_drew hgrow3; obtain ⟨hbl3, _⟩ := own_growE HS2.out.ra HS2.out.size hgrow3'; obtain ⟨s3, a3, _⟩ := HS2.out.grown hbl3; obtain ⟨_, _, e2', _, _⟩ := s3.cells; obtain ⟨_, _, f2', _⟩ := sn_free s3; have q0 : w8.cell? ⟨N + 1, 0, none⟩ = some (.int .i64 ((K.advs (1, 1) acc).1 : Int)) := (by rw [Lib.cell_of_heap a3]; rfl); have q1 : w8.cell? ⟨N + 1, 1, none⟩ = some (.int .i64 ((K.advs (1, 1) acc).2 : Int)) := (by rw [Lib.cell_of_heap a3]; rfl); have r0 : w8.frozen? ⟨N + 1, 0, none⟩ = false := Lib.frozen_of_heap a3 _; have r1 : w8.frozen? ⟨N + 1, 1, none⟩ = false := Lib.frozen_of_heap a3 _; have HS3 := Lib.hid (HS2.out.pushA hown3 hgrow3'); clear hown3 hgrow3 hgrow3' hat3 hlt3 hbl3 s3 a3)))
            all_goals
              by_cases h10 : c = 10
              · have h10' : ((c : Int) == 10) = true := by rw [show ((c : Int)) = ((c : Nat) : Int) from rfl, h10]; rfl
                go_wp2
                go_roundg (l.length - (i + (m + 1)))
                case measure => omega
                case rel =>
                  have h4 := ((HS3.out.setP 1 _ ((K.advs (1, 1) acc).1, (K.advs (1, 1) acc).2 + 1) (pset1 _)).setP 0 _ ((K.advs (1, 1) acc).1 + 1, (K.advs (1, 1) acc).2 + 1) (pset0 _)).setP 1 (.int .i64 1) ((K.advs (1, 1) acc).1 + 1, 1) rfl
                  have h5 := h4.next HEX.out (by rw [advs_snoc]; unfold K.adv; rw [if_pos h10])
                  exact RdRel.mk' h5 _ (by omega) (by omega) HRE.out (by rw [List.length_append]; show acc.length + 1 ≤ _; omega) (sc_snoc HSC.out HS1'.out)
              · have h10' : ((c : Int) == 10) = false := by rw [beq_eq_false_iff_ne]; omega
                go_wp2
                go_roundg (l.length - (i + (m + 1)))
                case measure => omega
                case rel =>
                  have h4 := HS3.out.setP 1 _ ((K.advs (1, 1) acc).1, (K.advs (1, 1) acc).2 + 1) (pset1 _)
                  have h5 := h4.next HEX.out (by rw [advs_snoc]; unfold K.adv; rw [if_neg h10])
                  exact RdRel.mk' h5 _ (by omega) (by omega) HRE.out (by rw [List.length_append]; show acc.length + 1 ≤ _; omega) (sc_snoc HSC.out HS1'.out)
          · have hA' : K.allowed c = false := by simpa using hA
            have hal2 : ∀ W, Calls Tryz.prog 32 #[.int .i64 (c : Int)] W fun e w' => e = .returned (.bool false) ∧ W = w' := fun W => by have h := refAllowed_any c hc31 W; rw [hA'] at h; exact h
            have hre : R = .error (20, K.advs (1, 1) acc) := hCF.symm.trans (CF_err hne (by unfold ch1; rw [hcn]; simp [h13, hA']))
            have HRE := Lib.hid hre
            clear hre hCF hne hcn hdr hs1 hen
            go_wp2_with (first | (go_at_call 31; refine hch.mono ?_; rintro e w' ⟨rfl, rfl⟩) | (go_at_call 32; refine (hal2 _).mono ?_; rintro e w' ⟨rfl, rfl⟩))
            go_ret
            rw [HRE.out]
            exact HS.out.fell (20, K.advs (1, 1) acc) (by show 1 ≤ 20; decide) (by show 20 ≤ 100; decide) HN.out
    · have hie : i = l.length := by omega
      have hre : R = .ok acc := by rw [← hCF, hie, List.drop_length, CF_nil]
      have HRE := Lib.hid hre
      have hge : ¬ (i : Int) < ((bs l).size : Int) := by omega
      have hal65 : acc.length ≤ 65536 := by omega
      have hNl : N < wr.heap.size := by have := HS.out.size; omega
      have hNl1 : N + 1 < wr.heap.size := by have := HS.out.size; omega
      clear hre hCF e4 e5 e6 f4 f5 f6
      go_wp2
      go_region_law (first
        | ((refine step_append_lies _ (by rfl) _ _ _ (by rfl) (N + 2) 29 i29 _ 2 16 Tryz.underlying62 h291 h292 h293 h294 rfl (by decide) A acc.length (pls (1, 1) acc) (by rfl) ((HS.out.ra.alloc _).drew) ⟨wr.heap.size, 0, none⟩ 1 1 [.int .i64 ((K.advs (1, 1) acc).1 : Int), .int .i64 ((K.advs (1, 1) acc).2 : Int)] (by rfl) (by rfl) (World.news_of_block (cs := #[.int .i64 ((K.advs (1, 1) acc).1 : Int), .int .i64 ((K.advs (1, 1) acc).2 : Int)]) (t := 29) (fr := (0, 0)) (heap_alloc_new wr _)) (by simp [Value.oneCell']) (by omega) (by unfold maxLen; omega) (by omega) (by have := HS.out.size; simp; omega) (wr.heap.size + 1) (by simp) ?_; intro g3 cap3 w8 hown3 hgrow3 hat3 hlt3; have hgrow3' := grown_drew hgrow3; obtain ⟨hbl3, _⟩ := own_growE HS.out.ra HS.out.size hgrow3'; obtain ⟨s3, a3, _⟩ := HS.out.grown hbl3; obtain ⟨_, _, e2', _, _⟩ := s3.cells; obtain ⟨_, _, f2', _⟩ := sn_free s3; have HS3 := Lib.hid (HS.out.pushA hown3 hgrow3'); clear hown3 hgrow3 hgrow3' hat3 hlt3 hbl3 s3 a3)))
      all_goals
        go_wp2
        go_ret
        rw [HRE.out]
        exact HS3.out.done HSC.out hal65 HN.out
end Go.Proofs.YtdilngjolhmjnaaGreatDoor
