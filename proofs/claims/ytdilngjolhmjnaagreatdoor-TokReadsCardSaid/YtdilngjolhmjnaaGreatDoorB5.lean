/- The reader takes attributes, as the chapter says. Conditions: those that each theorem names. What values, names and attributes are made of: plain facts on what the chapter says. No conditions but those that each fact names. -/
import Derived.Test.YtdilngjolhmjnaaGreatDoorB2
namespace Go.Proofs.YtdilngjolhmjnaaGreatDoor
open Go.RowKit Go.Shelf
set_option linter.all false

/-- Attributes behind those that were taken. -/
def AF (s : K.St) (acc : List K.At) : Except K.Er (List K.At × K.St) := K.attrsF (s.1.length + 1) s acc
theorem attrs_AF (s : K.St) : K.attrs s = AF s [] := rfl
theorem blanks_lt {s : K.St} (h : ¬ K.nblank s = 0) : (K.blanks s).1.length < s.1.length := by
  have h1 : K.nblank s ≤ s.1.length := (List.takeWhile_prefix _).length_le
  show (s.1.drop (K.nblank s)).length < _
  rw [List.length_drop]
  omega
theorem attrsF_fuel : ∀ (f : Nat) (s : K.St) (acc : List K.At), s.1.length < f → K.attrsF (f + 1) s acc = K.attrsF f s acc
  | 0, s, acc, h => by omega
  | f + 1, s, acc, h => by
    rw [K.attrsF, K.attrsF]
    split
    · rfl
    · rename_i hn
      have hlt : (K.blanks s).1.length < s.1.length := blanks_lt (fun h0 => hn (.inl h0))
      cases ha : K.attr1 (K.blanks s) with
      | error e => rfl
      | ok q =>
        obtain ⟨a, s1⟩ := q
        have h1 := attr1_le ha value_le
        exact attrsF_fuel f s1 _ (by omega)
theorem attrsF_more (f : Nat) (s : K.St) (acc : List K.At) (h : s.1.length < f) : K.attrsF f s acc = AF s acc := by
  obtain ⟨k, rfl⟩ : ∃ k, f = s.1.length + 1 + k := ⟨f - (s.1.length + 1), by omega⟩
  clear h
  induction k with
  | zero => rfl
  | succ k ih => rw [show s.1.length + 1 + (k + 1) = (s.1.length + 1 + k) + 1 by omega, attrsF_fuel _ _ _ (by omega)]; exact ih
theorem AF_stop {s : K.St} (acc : List K.At) (h : K.nblank s = 0 ∨ ¬ K.beginsS (K.blanks s) = true) : AF s acc = .ok (acc, K.blanks s) := by
  unfold AF
  rw [K.attrsF, if_pos h]
theorem AF_err {s : K.St} (acc : List K.At) {er : K.Er} (h0 : ¬ K.nblank s = 0) (h1 : K.beginsS (K.blanks s) = true) (ha : K.attr1 (K.blanks s) = .error er) : AF s acc = .error er := by
  unfold AF
  rw [K.attrsF, if_neg (by rintro (h | h); exact h0 h; exact h h1), ha]
theorem AF_ok {s s1 : K.St} {a : K.At} (acc : List K.At) (h0 : ¬ K.nblank s = 0) (h1 : K.beginsS (K.blanks s) = true) (ha : K.attr1 (K.blanks s) = .ok (a, s1)) : AF s acc = AF s1 (acc ++ [a]) := by
  have hlt := blanks_lt h0
  have hle := attr1_le ha value_le
  conv => lhs; unfold AF
  rw [K.attrsF, if_neg (by rintro (h | h); exact h0 h; exact h h1), ha]
  exact attrsF_more _ _ _ (by omega)

/-- What the walk over attributes has come to. -/
def AttrRel (b mm B : Nat) (x : X6) (R : Except K.Er (List K.At × K.St)) (w : World) (g : Nat) (av : Value) (wr : World) : Prop :=
  ∃ (s : K.St) (acc : List K.At), s.1.length = g ∧ AF s acc = R ∧ Rd b s x wr ∧ Env b mm x wr ∧ Bar b w wr ∧ wr.ownsRow B 40 4 av acc.length (attrCells acc) ∧ acc.length + s.1.length ≤ 65536
/-- What taking attributes leaves, rows from block B on. -/
def AttrStepB (b : Nat) (x : X6) (B : Nat) (w : World) (r : Except K.Er (List K.At × K.St)) (e : Ending) (w' : World) : Prop := match r with
  | .ok (l, s) => ∃ av, e = .returned av ∧ w'.ownsRow B 40 4 av l.length (attrCells l) ∧ Rd b s x w' ∧ Bar b w w'
  | .error er => Fell er e w' ∧ Bar b w w'
theorem attrCells_one : ∀ (l : List K.At), ∀ u ∈ attrCells l, u.oneCell' = true
  | [], u, h => by cases h
  | a :: l, u, h => by
    simp only [attrCells, List.mem_cons] at h
    rcases h with rfl | rfl | rfl | rfl | h
    · rfl
    · rfl
    · rfl
    · rfl
    · exact attrCells_one l u h

set_option maxHeartbeats 8000000 in
set_option maxRecDepth 100000 in
theorem attrs_ok : AttrsOk := by
  intro b mm s x w h he
  obtain ⟨B, hB⟩ : ∃ B, w.heap.size = B := ⟨_, rfl⟩
  obtain ⟨R, hR⟩ : ∃ R, K.attrs s = R := ⟨_, rfl⟩
  have hlt := h.lt
  have hmlt := he.lt
  have h12 := he.hb
  have hst : AttrRel b mm B x R w s.1.length (.slice none 0 0) w := by
    have h1 := h.1.len
    have h2 := K.n8_length_le s.1
    exact ⟨s, [], rfl, hR, h, he, Bar.refl _ _, ⟨rfl, .inl ⟨rfl, rfl⟩⟩, by simp; omega⟩
  rw [hR, show AttrStep b x w R = AttrStepB b x B w R by subst hB; rfl]
  obtain ⟨i0, hi0, hz0, hz1, hz2⟩ := info_parts info40
  have HST := Lib.hid hst
  have HB := Lib.hid hB
  clear hR h he hst hB
  go_enter Tryz.func62, Tryz.ntmps62
  go_wp2
  go_loopg [3] s.1.length (fun g av wr => AttrRel b mm B x R w g av wr)
  case atStart => exact HST.out
  case round =>
    obtain ⟨s1, acc, hg, hAF, hRd, hEn, hBar, hown, hlen⟩ := hrel
    have hbl := blanks_any b s1 x wr hRd
    by_cases h0 : K.nblank s1 = 0
    · have hre : R = .ok (acc, K.blanks s1) := hAF.symm.trans (AF_stop acc (.inl h0))
      rw [show decide (0 < K.nblank s1) = false by simp [h0]] at hbl
      have HOwn := Lib.hid hown
      have HBar := Lib.hid hBar
      have HRd := Lib.hid hRd
      have HRE := Lib.hid hre
      clear hown hBar hRd hre hAF hEn hg h0
      go_wp2_with (go_at_call 83; refine hbl.mono ?_; rintro e w1 ⟨rfl, hR1, hB1⟩; have HR1 := Lib.hid hR1; have HB1 := Lib.hid hB1; clear hR1 hB1)
      go_ret
      rw [HRE.out]
      exact ⟨_, rfl, (KeepT.bar HB1.out HRd.out.2 (by decide)).own HOwn.out, HR1.out, HBar.out.trans HB1.out⟩
    · have hbg : ∀ W, Rd b (K.blanks s1) x W → Calls Tryz.prog 84 #[.pointer (some ⟨b, 0, none⟩)] W fun e w' => e = .returned (.bool (K.beginsS (K.blanks s1))) ∧ W = w' := fun W hW => beginsName_any b _ x W hW
      rw [show decide (0 < K.nblank s1) = true by simp; omega] at hbl
      cases h1 : K.beginsS (K.blanks s1) with
      | false =>
        rw [h1] at hbg
        have hre : R = .ok (acc, K.blanks s1) := hAF.symm.trans (AF_stop acc (.inr (by rw [h1]; decide)))
        have HOwn := Lib.hid hown
        have HBar := Lib.hid hBar
        have HRd := Lib.hid hRd
        have HRE := Lib.hid hre
        have HBG := Lib.hid hbg
        clear hown hBar hRd hre hAF hEn hg h0 h1 hbg
        go_wp2_with (first
          | (go_at_call 83; refine hbl.mono ?_; rintro e w1 ⟨rfl, hR1, hB1⟩; have hbn := HBG.out _ hR1; have HR1 := Lib.hid hR1; have HB1 := Lib.hid hB1; clear hR1 hB1)
          | (go_at_call 84; refine hbn.mono ?_; rintro e w2 ⟨rfl, rfl⟩))
        go_ret
        rw [HRE.out]
        exact ⟨_, rfl, (KeepT.bar HB1.out HRd.out.2 (by decide)).own HOwn.out, HR1.out, HBar.out.trans HB1.out⟩
      | true =>
        rw [h1] at hbg
        have hat : ∀ W, Rd b (K.blanks s1) x W → Env b mm x W → Calls Tryz.prog 85 #[.pointer (some ⟨b, 0, none⟩)] W (Step b x W attrVal (K.attr1 (K.blanks s1))) := fun W hW hE => attribute_any b mm _ x W hW hE
        cases ha : K.attr1 (K.blanks s1) with
        | error er =>
          rw [ha] at hat
          have hre : R = .error er := hAF.symm.trans (AF_err acc h0 h1 ha)
          have HBar := Lib.hid hBar
          have HRd := Lib.hid hRd
          have HEn := Lib.hid hEn
          have HRE := Lib.hid hre
          have HBG := Lib.hid hbg
          have HAT := Lib.hid hat
          clear hown hBar hRd hre hAF hEn hg h0 h1 hbg hat ha
          go_wp2_with (first
            | (go_at_call 83; refine hbl.mono ?_; rintro e w1 ⟨rfl, hR1, hB1⟩; have hbn := HBG.out _ hR1; have hatt := HAT.out _ hR1 (HEn.out.bar hB1 HRd.out.lt); have HR1 := Lib.hid hR1; have HB1 := Lib.hid hB1; clear hR1 hB1)
            | (go_at_call 84; refine hbn.mono ?_; rintro e w2 ⟨rfl, rfl⟩)
            | (go_at_call 85; refine hatt.mono ?_; rintro e w3 ⟨⟨fb, rfl, hfc⟩, hfb⟩))
          refine ⟨rfl, ?_⟩
          rw [HRE.out]
          exact ⟨⟨_, rfl, hfc⟩, (HBar.out.trans HB1.out).trans hfb⟩
        | ok q =>
          obtain ⟨a, s2⟩ := q
          rw [ha] at hat
          have hre : AF s2 (acc ++ [a]) = R := (AF_ok acc h0 h1 ha).symm.trans hAF
          have hlt2 : s2.1.length < s1.1.length := by have := attr1_le ha value_le; have := blanks_lt h0; omega
          have hsz0 := hBar.size
          have HBar := Lib.hid hBar
          have HOwn := Lib.hid hown
          have HRd := Lib.hid hRd
          have HEn := Lib.hid hEn
          have HRE := Lib.hid hre
          have HBG := Lib.hid hbg
          have HAT := Lib.hid hat
          clear hown hBar hRd hre hAF hEn h0 h1 hbg hat ha
          go_wp2_with (first
            | (go_at_call 83; refine hbl.mono ?_; rintro e w1 ⟨rfl, hR1, hB1⟩; have hbn := HBG.out _ hR1; have hatt := HAT.out _ hR1 (HEn.out.bar hB1 HRd.out.lt); have hE1 := HEn.out.bar hB1 HRd.out.lt; have HE1 := Lib.hid hE1; have HR1 := Lib.hid hR1; have HB1 := Lib.hid hB1; clear hR1 hB1 hE1)
            | (go_at_call 84; refine hbn.mono ?_; rintro e w2 ⟨rfl, rfl⟩)
            | (go_at_call 85; refine hatt.mono ?_; rintro e w3 ⟨rfl, hR3, hB3⟩; have HR3 := Lib.hid hR3; have HB3 := Lib.hid hB3; clear hR3 hB3)
            | (at_builtin; refine wpList_append_lies _ rfl _ _ 36 rfl B 40 i0 _ 4 48 Tryz.underlying36 hi0 hz0 hz1 hz2 rfl ?c0 _ acc.length (attrCells acc) rfl ?c1 ⟨w3.heap.size + 1, 0, none⟩ 1 1 (attrCells [a]) rfl rfl ?c2 ?c3 ?c4 ?c5 ?c6 ?c7 _ rfl ?_))
          case c0 => decide
          case c1 => exact (((KeepT.bar (HB1.out.trans HB3.out) HRd.out.2 (by decide)).own HOwn.out).alloc _).alloc _
          case c2 =>
            have hn := heap_alloc_new (w3.alloc (.cells #[.string (bs (U.n8 a.1)), .string (bs (U.n8 a.2.1)), .int .i64 (a.2.2.1 : Int), .int .i64 (a.2.2.2 : Int)] 40)) (.cells #[.string (bs (U.n8 a.1)), .string (bs (U.n8 a.2.1)), .int .i64 (a.2.2.1 : Int), .int .i64 (a.2.2.2 : Int)] 40)
            rw [heap_size] at hn
            exact World.news_of_block hn
          case c3 => exact attrCells_one [a]
          case c4 => decide
          case c5 => unfold maxLen; omega
          case c6 => omega
          case c7 => have := HB1.out.size; have := HB3.out.size; have := HB.out; simp; omega
          · intro g cap w6 hown6 hgrow hat6 hlt6
            have HO6 := Lib.hid hown6
            have HG6 := Lib.hid hgrow
            clear hown6 hgrow hat6 hlt6
            go_wp2
            go_roundg s2.1.length
            case measure => omega
            case rel =>
              have hown3 : w3.ownsRow B 40 4 u3 acc.length (attrCells acc) := (KeepT.bar (HB1.out.trans HB3.out) HRd.out.2 (by decide)).own HOwn.out
              have hbel : Below B w3 ((w3.alloc (.cells #[.string (bs (U.n8 a.1)), .string (bs (U.n8 a.2.1)), .int .i64 (a.2.2.1 : Int), .int .i64 (a.2.2.2 : Int)] 40)).alloc (.cells #[.string (bs (U.n8 a.1)), .string (bs (U.n8 a.2.1)), .int .i64 (a.2.2.1 : Int), .int .i64 (a.2.2.2 : Int)] 40)) :=
                ((Below.refl _ _).alloc (by have := HB1.out.size; have := HB3.out.size; have := HB.out; omega) _).alloc (by have := HB1.out.size; have := HB3.out.size; have := HB.out; simp; omega) _
              have hb6 : Below B w3 w6 := hbel.grown HG6.out (by have := HB1.out.size; have := HB3.out.size; have := HB.out; simp; omega) (fun j hj => (own_block hown3 j hj).1)
              have hE3 : Env b mm x w3 := HE1.out.bar HB3.out HR1.out.lt
              refine ⟨s2, acc ++ [a], rfl, HRE.out, rd_below HR3.out hb6 (by have := HB.out; omega), hE3.belN hb6 (by have := HB.out; omega) (by have := HB.out; omega), ((HBar.out.trans HB1.out).trans HB3.out).belN (by rw [HB.out]; exact hb6), ?_, by simp; omega⟩
              rw [attrCells_snoc, List.length_append]
              exact HO6.out
end Go.Proofs.YtdilngjolhmjnaaGreatDoor
namespace Go.Proofs.YtdilngjolhmjnaaGreatDoor
open Go.RowKit Go.Shelf
set_option linter.all false

theorem skip_sc {s : K.St} (h : K.Sc s.1) (n : Nat) : K.Sc (K.skip s n).1 := h.drop n
theorem ref_sc {s s1 : K.St} {d : Nat} (h : K.reference s = .ok (d, s1)) (hs : K.Sc s.1) : K.Sc s1.1 := by
  unfold K.reference at h
  cases hr : K.refOf s.1.tail with
  | none => rw [hr] at h; cases h
  | some q =>
    obtain ⟨c, n⟩ := q
    rw [hr] at h
    simp only [Except.ok.injEq, Prod.mk.injEq] at h
    rw [← h.2]
    exact skip_sc hs n
theorem valueF_facts (m : Nat) : ∀ (f : Nat) (s : K.St) (acc v : List Nat) (s' : K.St), K.valueF m f s acc = .ok (v, s') → K.Sc s.1 → K.Sc acc → K.Sc v ∧ K.Sc s'.1 ∧ v.length + s'.1.length ≤ acc.length + s.1.length
  | 0, _, _, _, _, h, _, _ => by unfold K.valueF at h; cases h
  | f + 1, ([], p), _, _, _, h, _, _ => by unfold K.valueF at h; cases h
  | f + 1, (c :: r, p), acc, v, s', h, hs, ha => by
    unfold K.valueF at h
    have hr : K.Sc r := K.Sc.tail hs
    split at h
    · simp only [Except.ok.injEq, Prod.mk.injEq] at h
      obtain ⟨rfl, rfl⟩ := h
      exact ⟨ha, hr, by simp⟩
    · split at h
      · cases hq : K.reference (c :: r, p) with
        | error e => rw [hq] at h; cases h
        | ok q =>
          obtain ⟨d, s1⟩ := q
          rw [hq] at h
          have h1 := ref_short hq
          have h2 := ref_scalar hq
          obtain ⟨k1, k2, k3⟩ := valueF_facts m f s1 _ _ _ h (ref_sc hq hs) (ha.append (fun y hy => by simp at hy; subst hy; exact h2))
          refine ⟨k1, k2, ?_⟩
          simp only [List.length_append, List.length_cons, List.length_nil] at k3 ⊢
          omega
      · split at h
        · cases h
        · have hd : U.scalar (if K.blank c then 32 else c) := by
            split
            · exact .inl (by decide)
            · exact K.Sc.head hs
          obtain ⟨k1, k2, k3⟩ := valueF_facts m f (r, K.adv p c) _ _ _ h hr (ha.append (fun y hy => by simp only [List.mem_singleton] at hy; subst hy; exact hd))
          refine ⟨k1, k2, ?_⟩
          simp only [List.length_append, List.length_cons, List.length_nil] at k3 ⊢
          omega
theorem value_facts {s s' : K.St} {v : List Nat} (h : K.value s = .ok (v, s')) (hs : K.Sc s.1) : K.Sc v ∧ K.Sc s'.1 ∧ v.length + s'.1.length ≤ s.1.length := by
  obtain ⟨l, p⟩ := s
  cases l with
  | nil => cases h
  | cons c r =>
    unfold K.value at h
    simp only at h
    split at h
    · obtain ⟨k1, k2, k3⟩ := valueF_facts c _ _ _ _ _ h (K.Sc.tail hs) (fun y hy => by cases hy)
      refine ⟨k1, k2, ?_⟩
      simp only [List.length_nil, List.length_cons] at k3 ⊢
      omega
    · cases h
theorem name_facts {s s1 : K.St} {n : List Nat} (h : K.name s = .ok (n, s1)) (hs : K.Sc s.1) : K.Sc n ∧ K.Sc s1.1 ∧ n ≠ [] := by
  unfold K.name at h
  split at h
  · rename_i hb
    split at h
    · cases h
    · simp only [Except.ok.injEq, Prod.mk.injEq] at h
      obtain ⟨rfl, rfl⟩ := h
      refine ⟨fun c hc => hs c ((List.takeWhile_prefix _).subset hc), skip_sc hs _, ?_⟩
      obtain ⟨l, p⟩ := s
      cases l with
      | nil => cases hb
      | cons c r =>
        have hg : K.goes c = true := by
          have : K.begins c = true := hb
          unfold K.goes
          rw [this]; rfl
        show List.takeWhile K.goes (c :: r) ≠ []
        rw [List.takeWhile_cons, if_pos hg]
        exact List.cons_ne_nil _ _
  · cases h
theorem want_sc {t : List Nat} {s s1 : K.St} (h : K.want t s = .ok s1) (hs : K.Sc s.1) : K.Sc s1.1 := by
  unfold K.want at h
  split at h
  · simp only [Except.ok.injEq] at h
    rw [← h]
    exact skip_sc hs _
  · cases h
/-- What an attribute is made of. -/
structure Good (n : Nat) (a : K.At) : Prop where
  name : K.Sc a.1
  some : a.1 ≠ []
  value : K.Sc a.2.1
  len : a.2.1.length ≤ n
theorem attr1_facts {s s1 : K.St} {a : K.At} (h : K.attr1 s = .ok (a, s1)) (hs : K.Sc s.1) : Good s.1.length a ∧ K.Sc s1.1 := by
  unfold K.attr1 at h
  cases hn : K.name s with
  | error e => rw [hn] at h; cases h
  | ok q =>
    obtain ⟨n, t1⟩ := q
    rw [hn] at h
    simp only at h
    obtain ⟨n1, n2, n3⟩ := name_facts hn hs
    have hn4 := name_le hn
    cases hw : K.want [61] (K.blanks t1) with
    | error e => rw [hw] at h; cases h
    | ok t2 =>
      rw [hw] at h
      simp only at h
      have hw2 := want_sc hw (skip_sc n2 _)
      have hw3 := want_le hw
      have hw4 : (K.blanks t1).1.length ≤ t1.1.length := skip_le _ _
      cases hvv : K.value (K.blanks t2) with
      | error e => rw [hvv] at h; cases h
      | ok q =>
        obtain ⟨v, t3⟩ := q
        rw [hvv] at h
        simp only [Except.ok.injEq, Prod.mk.injEq] at h
        obtain ⟨rfl, rfl⟩ := h
        obtain ⟨v1, v2, v3⟩ := value_facts hvv (skip_sc hw2 _)
        have hw5 : (K.blanks t2).1.length ≤ t2.1.length := skip_le _ _
        exact ⟨⟨n1, n3, v1, by simp only; omega⟩, v2⟩
theorem Good.mono {m n : Nat} {a : K.At} (h : Good m a) (hl : m ≤ n) : Good n a := ⟨h.name, h.some, h.value, Nat.le_trans h.len hl⟩
theorem attrsF_facts : ∀ (f : Nat) (s : K.St) (acc l : List K.At) (s' : K.St), K.attrsF f s acc = .ok (l, s') → K.Sc s.1 → ∀ n, s.1.length ≤ n → (∀ a ∈ acc, Good n a) → (∀ a ∈ l, Good n a) ∧ K.Sc s'.1
  | 0, s, acc, l, s', h, hs, n, hn, ha => by
    unfold K.attrsF at h
    simp only [Except.ok.injEq, Prod.mk.injEq] at h
    obtain ⟨rfl, rfl⟩ := h
    exact ⟨ha, hs⟩
  | f + 1, s, acc, l, s', h, hs, n, hn, ha => by
    unfold K.attrsF at h
    have hb : (K.blanks s).1.length ≤ s.1.length := skip_le _ _
    have hbs : K.Sc (K.blanks s).1 := skip_sc hs _
    split at h
    · simp only [Except.ok.injEq, Prod.mk.injEq] at h
      obtain ⟨rfl, rfl⟩ := h
      exact ⟨ha, hbs⟩
    · cases hq : K.attr1 (K.blanks s) with
      | error e => rw [hq] at h; cases h
      | ok q =>
        obtain ⟨a, s1⟩ := q
        rw [hq] at h
        have h1 := attr1_le hq value_le
        obtain ⟨g1, g2⟩ := attr1_facts hq hbs
        exact attrsF_facts f s1 _ _ _ h g2 n (by omega) (fun x hx => (List.mem_append.1 hx).elim (ha x) (fun hx => by simp only [List.mem_singleton] at hx; subst hx; exact g1.mono (by omega)))
theorem attrs_facts {s s' : K.St} {l : List K.At} (h : K.attrs s = .ok (l, s')) (hs : K.Sc s.1) : (∀ a ∈ l, Good s.1.length a) ∧ K.Sc s'.1 :=
  attrsF_facts _ _ _ _ _ h hs _ (Nat.le_refl _) (fun a ha => by cases ha)
theorem n8_eq_b8 {n t : List Nat} (hn : K.Sc n) (ht : Small t) : U.n8 n = K.b8 t ↔ n = t := by
  constructor
  · intro h
    have h1 := K.pre_n8 t n ht hn
    rw [h] at h1
    have h2 : t.isPrefixOf n = true := by rw [← h1]; simp
    obtain ⟨r, rfl⟩ := List.isPrefixOf_iff_prefix.1 h2
    rw [U.n8_append, K.n8_small t ht] at h
    have h3 : U.n8 r = [] := List.append_cancel_left (h.trans (List.append_nil _).symm)
    rw [K.n8_eq_nil.1 h3, List.append_nil]
  · rintro rfl
    exact K.n8_small n ht
end Go.Proofs.YtdilngjolhmjnaaGreatDoor
