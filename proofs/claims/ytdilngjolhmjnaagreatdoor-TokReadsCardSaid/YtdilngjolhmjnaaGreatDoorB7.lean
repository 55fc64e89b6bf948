/- Text up to the next <, as the chapter has it and as the reader takes it: plain facts. No conditions but those that each fact names. The reader takes the text ahead of the next <. Conditions: those that each theorem names. The reader takes what begins here. Conditions: those that each theorem names. -/
import Derived.Test.YtdilngjolhmjnaaGreatDoorB5
import Derived.Test.YtdilngjolhmjnaaGreatDoorB4
namespace Go.Proofs.YtdilngjolhmjnaaGreatDoor
open Go.RowKit Go.Shelf
set_option linter.all false

/-- Text behind what was read. -/
def WF (s : K.St) (acc : List Nat) : Except K.Er (List Nat × K.St) := K.wordsF (s.1.length + 1) s acc
theorem words_WF (s : K.St) : K.words s = WF s [] := rfl
theorem wordsF_fuel : ∀ (f : Nat) (s : K.St) (acc : List Nat), s.1.length < f → K.wordsF (f + 1) s acc = K.wordsF f s acc
  | 0, s, acc, h => by omega
  | f + 1, ([], p), acc, h => by rw [K.wordsF, K.wordsF] <;> simp
  | f + 1, (c :: r, p), acc, h => by
    simp only [List.length_cons] at h
    rw [K.wordsF, K.wordsF]
    split
    · rfl
    · split
      · rfl
      · split
        · cases hr : K.reference (c :: r, p) with
          | error e => rfl
          | ok q =>
            obtain ⟨d, s1⟩ := q
            have := ref_short hr
            exact wordsF_fuel f s1 _ (by omega)
        · exact wordsF_fuel f _ _ (by simp only; omega)
theorem wordsF_more (f : Nat) (s : K.St) (acc : List Nat) (h : s.1.length < f) : K.wordsF f s acc = WF s acc := by
  obtain ⟨k, rfl⟩ : ∃ k, f = s.1.length + 1 + k := ⟨f - (s.1.length + 1), by omega⟩
  clear h
  induction k with
  | zero => rfl
  | succ k ih => rw [show s.1.length + 1 + (k + 1) = (s.1.length + 1 + k) + 1 by omega, wordsF_fuel _ _ _ (by omega)]; exact ih
theorem WF_nil (p : K.Pl) (acc : List Nat) : WF ([], p) acc = .ok (acc, ([], p)) := rfl
theorem WF_lt (r : List Nat) (p : K.Pl) (acc : List Nat) : WF (60 :: r, p) acc = .ok (acc, (60 :: r, p)) := by
  unfold WF
  rw [K.wordsF, if_pos rfl]
theorem WF_ref (r : List Nat) (p : K.Pl) (acc : List Nat) : WF (38 :: r, p) acc = match K.reference (38 :: r, p) with
    | .ok (d, s) => WF s (acc ++ [d])
    | .error e => .error e := by
  unfold WF
  rw [K.wordsF, if_neg (by decide), if_neg (by show ¬ ([93, 93, 62] : List Nat).isPrefixOf (38 :: r) = true; simp [List.isPrefixOf]), if_pos rfl]
  cases hr : K.reference (38 :: r, p) with
  | error e => rfl
  | ok q =>
    obtain ⟨d, s1⟩ := q
    have := ref_short hr
    exact wordsF_more _ _ _ (by simp only [List.length_cons]; omega)
theorem WF_one {c : Nat} (h60 : c ≠ 60) (h38 : c ≠ 38) (r : List Nat) (p : K.Pl) (acc : List Nat) (hs : K.sees [93, 93, 62] (c :: r, p) = false) : WF (c :: r, p) acc = WF (r, K.adv p c) (acc ++ [c]) := by
  conv => lhs; unfold WF
  rw [K.wordsF, if_neg h60, if_neg (by rw [hs]; decide), if_neg h38]
  exact wordsF_more _ _ _ (by simp)
theorem WF_wrong {c : Nat} (h60 : c ≠ 60) (r : List Nat) (p : K.Pl) (acc : List Nat) (hs : K.sees [93, 93, 62] (c :: r, p) = true) : WF (c :: r, p) acc = .error (21, p) := by
  unfold WF
  rw [K.wordsF, if_neg h60, if_pos hs]
/-- What goes on behind a piece of text. -/
def Stops (t : List Nat) : Prop := ∀ c, t.head? = some c → c = 60 ∨ c = 38
theorem cross (a t : List Nat) (ht : Stops t) : ([93, 93, 62] : List Nat).isPrefixOf (a ++ t) = ([93, 93, 62] : List Nat).isPrefixOf a := by
  have h0 : ∀ (q : Nat) (u : List Nat), q = 93 ∨ q = 62 → (q :: u).isPrefixOf t = false := by
    intro q u hq
    cases t with
    | nil => rfl
    | cons c r =>
      have h1 := ht c rfl
      have h2 : (q == c) = false := by rw [beq_eq_false_iff_ne]; omega
      simp [List.isPrefixOf, h2]
  match a with
  | [] => exact h0 93 _ (.inl rfl)
  | [x] => show ((93 == x) && ([93, 62] : List Nat).isPrefixOf t) = ((93 == x) && false); rw [h0 93 _ (.inl rfl)]
  | [x, y] => show ((93 == x) && ((93 == y) && ([62] : List Nat).isPrefixOf t)) = ((93 == x) && ((93 == y) && false)); rw [h0 62 _ (.inr rfl)]
  | x :: y :: z :: r => rfl
theorem WF_chunk : ∀ (a t : List Nat) (p : K.Pl) (acc : List Nat), (∀ y ∈ a, y ≠ 60 ∧ y ≠ 38) → Stops t →
    WF (a ++ t, p) acc = match K.idx [93, 93, 62] a with
      | some k => .error (21, K.advs p (a.take k))
      | none => WF (t, K.advs p a) (acc ++ a)
  | [], t, p, acc, _, _ => by rw [List.append_nil]; rfl
  | c :: a, t, p, acc, ha, ht => by
    obtain ⟨h60, h38⟩ := ha c List.mem_cons_self
    have hc := cross (c :: a) t ht
    cases hs : ([93, 93, 62] : List Nat).isPrefixOf (c :: a) with
    | true =>
      have hi : K.idx [93, 93, 62] (c :: a) = some 0 := by unfold K.idx; rw [if_pos hs]
      rw [hi]
      exact WF_wrong h60 (a ++ t) p acc (hc.trans hs)
    | false =>
      have hi : K.idx [93, 93, 62] (c :: a) = (K.idx [93, 93, 62] a).map (· + 1) := by conv => lhs; unfold K.idx; rw [if_neg (by rw [hs]; decide)]
      rw [hi]
      have h1 : WF (c :: a ++ t, p) acc = WF (a ++ t, K.adv p c) (acc ++ [c]) := WF_one h60 h38 (a ++ t) p acc (hc.trans hs)
      rw [h1, WF_chunk a t (K.adv p c) (acc ++ [c]) (fun y hy => ha y (List.mem_cons_of_mem _ hy)) ht]
      cases K.idx [93, 93, 62] a with
      | some k => rfl
      | none =>
        simp only [Option.map_none]
        rw [List.append_assoc]
        rfl
theorem stops_drop (l : List Nat) : Stops (l.drop (notIn [60, 38] l).length) := by
  intro c hc
  have h : ∀ (l : List Nat), (l.drop (notIn [60, 38] l).length).head? = some c → c = 60 ∨ c = 38 := by
    intro l
    induction l with
    | nil => intro h; cases h
    | cons x l ih =>
      intro h
      unfold notIn at h ih
      rw [List.takeWhile_cons] at h
      split at h
      · exact ih h
      · rename_i hx
        simp only [List.length_nil, List.drop_zero, List.head?_cons, Option.some.injEq] at h
        subst h
        simp at hx
        omega
  exact h l hc
/-- A piece that the reader takes is a piece of the chapter's text. -/
theorem WF_unref (s : K.St) (acc : List Nat) : WF s acc = match unref s with
    | .error e => .error e
    | .ok (m, s1) => WF s1 (acc ++ m) := by
  obtain ⟨l, p⟩ := s
  have hm : l.take (notIn [60, 38] l).length = notIn [60, 38] l := takeWhile_take _ _
  have hsp : l = notIn [60, 38] l ++ l.drop (notIn [60, 38] l).length := by conv => lhs; rw [← List.take_append_drop (notIn [60, 38] l).length l, hm]
  have hne : ∀ y ∈ notIn [60, 38] l, y ≠ 60 ∧ y ≠ 38 := by
    intro y hy
    have := List.all_eq_true.1 List.all_takeWhile y hy
    simpa using this
  have h := WF_chunk (notIn [60, 38] l) (l.drop (notIn [60, 38] l).length) p acc hne (stops_drop l)
  rw [← hsp] at h
  rw [h]
  unfold unref
  simp only
  cases hi : K.idx [93, 93, 62] (notIn [60, 38] l) with
  | some k =>
    obtain ⟨_, hk⟩ := idx_pre hi
    show Except.error (21, K.advs p ((notIn [60, 38] l).take k)) = Except.error (21, K.advs p (l.take k))
    have : (notIn [60, 38] l).take k = l.take k := by conv => lhs; rw [← hm]; rw [List.take_take, Nat.min_eq_left hk]
    rw [this]
  | none =>
    show WF (l.drop (notIn [60, 38] l).length, K.advs p (notIn [60, 38] l)) (acc ++ notIn [60, 38] l) = WF (K.skip (l, p) (notIn [60, 38] l).length) (acc ++ notIn [60, 38] l)
    unfold K.skip
    simp only
    rw [hm]
end Go.Proofs.YtdilngjolhmjnaaGreatDoor
namespace Go.Proofs.YtdilngjolhmjnaaGreatDoor
open Go.RowKit Go.Shelf
set_option linter.all false

theorem encode_enc (d : Nat) (hs : U.scalar d) : Utf8.encode (d : Int) = bs (U.enc d) := by
  have hv : Utf8.valid (d : Int) = true := by
    unfold U.scalar at hs
    simp [Utf8.valid]
    omega
  unfold Utf8.encode U.enc
  rw [if_pos hv]
  simp only [Int.toNat_natCast]
  by_cases h1 : d < 128
  · rw [if_pos h1, if_pos h1]; rfl
  · rw [if_neg h1, if_neg h1]
    by_cases h2 : d < 2048
    · rw [if_pos h2, if_pos h2]; rfl
    · rw [if_neg h2, if_neg h2]
      by_cases h3 : d < 65536
      · rw [if_pos h3, if_pos h3]; rfl
      · rw [if_neg h3, if_neg h3]; rfl
theorem say_say (t : K.Told) (acc m : List Nat) (p P : K.Pl) (h : acc = [] → p = P) : K.say (K.say t acc P) m p = K.say t (acc ++ m) P := by
  unfold K.say
  simp only [List.append_assoc, List.append_eq_nil_iff]
  by_cases ht : t.text = []
  · by_cases ha : acc = []
    · simp [ht, ha, h ha]
    · simp [ht, ha]
  · simp [ht]
theorem unref_ok {c : Nat} {r m : List Nat} {p : K.Pl} {s2 : K.St} (h60 : c ≠ 60) (h38 : c ≠ 38) (h : unref (c :: r, p) = .ok (m, s2)) (hs : K.Sc (c :: r)) : K.Sc m ∧ m ≠ [] ∧ m.length + s2.1.length = r.length + 1 := by
  unfold unref at h
  simp only at h
  cases hi : K.idx [93, 93, 62] (notIn [60, 38] (c :: r)) with
  | some k => rw [hi] at h; cases h
  | none =>
    rw [hi] at h
    simp only [Except.ok.injEq, Prod.mk.injEq] at h
    obtain ⟨rfl, rfl⟩ := h
    refine ⟨fun y hy => hs y ((List.takeWhile_prefix _).subset hy), ?_, ?_⟩
    · show (c :: r).takeWhile _ ≠ []
      rw [List.takeWhile_cons, if_pos (by simp; omega)]
      exact List.cons_ne_nil _ _
    · have hl := notIn_len [60, 38] (c :: r)
      show _ + ((c :: r).drop _).length = _
      rw [List.length_drop]
      simp only [List.length_cons] at hl ⊢
      omega
/-- What the walk over text has come to. -/
def PlRel (b mm B : Nat) (P : K.Pl) (t : K.Told) (R : Except K.Er (List Nat × K.St)) (w : World) (g : Nat) (wr : World) : Prop :=
  ∃ (s : K.St) (acc : List Nat) (x : X6), s.1.length = g ∧ WF s acc = R ∧ Inv b mm B s (K.say t acc P) x wr ∧ Below B w wr ∧ (acc = [] → s.2 = P)
theorem Inv.bel {b mm B : Nat} {s : K.St} {t : K.Told} {x : X6} {w w' : World} (h : Inv b mm B s t x w) (k : Below w.heap.size w w') : Inv b mm B s t x w' :=
  h.step (h.rd.below k) (.of_below k) (Nat.le_refl _)
theorem Inv.blt {b mm B : Nat} {s : K.St} {t : K.Told} {x : X6} {w : World} (h : Inv b mm B s t x w) : B ≤ w.heap.size := by
  have h1 := h.rd.lt
  have h2 := h.hB
  omega
theorem Inv.say0 {b mm B : Nat} {s : K.St} {t : K.Told} {x : X6} {w : World} (h : Inv b mm B s t x w) (P : K.Pl) : Inv b mm B s (K.say t [] P) x w := by
  obtain ⟨h1, h2, h3, h4, h5, h6, h7, h8, h9, h10⟩ := h
  have ht : (K.say t [] P).text = t.text := List.append_nil _
  refine ⟨h1, h2, h3, h4, by rw [ht]; exact h5, ?_, h7, by rw [ht]; exact h8, by rw [ht]; exact h9, by rw [ht]; exact h10⟩
  intro hn
  rw [ht] at hn
  have hpl : (K.say t [] P).place = t.place := by unfold K.say; rw [if_neg hn]
  rw [hpl]
  exact h6 hn

set_option maxHeartbeats 8000000 in
set_option maxRecDepth 100000 in
theorem plainText_any (b mm B : Nat) (s : K.St) (t : K.Told) (x : X6) (w : World) (h : Inv b mm B s t x w) (h12 : 12 ≤ B) :
    Calls Tryz.prog 69 #[.pointer (some ⟨b, 0, none⟩)] w (SecStep b mm B t s.2 w (K.words s)) := by
  obtain ⟨R, hR⟩ : ∃ R, WF s [] = R := ⟨_, rfl⟩
  obtain ⟨P, hP⟩ : ∃ P, s.2 = P := ⟨_, rfl⟩
  rw [words_WF, hR]
  have hst : PlRel b mm B P t R w s.1.length w := ⟨s, [], x, rfl, hR, by rw [← hP]; exact h.say0 _, Below.refl _ _, fun _ => hP⟩
  rw [hP]
  have HST := Lib.hid hst
  clear hR h hst hP
  go_enter Tryz.func69, Tryz.ntmps69
  go_wp2
  go_loopg [] s.1.length (fun g wr => PlRel b mm B P t R w g wr)
  case atStart => exact HST.out
  case round =>
    obtain ⟨⟨l, p⟩, acc, x1, hg, hWF, hI, hbel, hacc⟩ := hrel
    have hacc : acc = [] → p = P := hacc
    obtain ⟨c0, c1, c2⟩ := hI.rd.cells
    have HI := Lib.hid hI
    have HBel := Lib.hid hbel
    have hroom := hI.room
    have hmany := hI.many
    have hbB := hI.hB
    have hBlt := hI.blt
    have hblt := hI.rd.lt
    have hs60 := sees_any [60] (by unfold Small; decide) b _ x1 wr hI.rd ⟨#[60]⟩ rfl
    cases l with
    | nil =>
      have hre : R = .ok (acc, ([], p)) := hWF.symm
      replace c0 : wr.cell? ⟨b, 0, none⟩ = some (.string ⟨#[]⟩) := c0
      have HRE := Lib.hid hre
      clear hre hWF hI hbel c1 c2 hroom hmany
      go_wp2
      first | go_end0 | refine bodyPost_ret (results_none rfl _ _ _) rfl ?_
      rw [HRE.out]
      exact ⟨rfl, x1, HI.out, HBel.out⟩
    | cons c r =>
      rw [sees_one] at hs60
      have hne0 := n8_some c r
      simp only [List.length_cons] at hg hroom hmany
      by_cases h60 : c = 60
      · subst h60
        have hre : R = .ok (acc, (60 :: r, p)) := hWF.symm.trans (WF_lt r p acc)
        have HRE := Lib.hid hre
        clear hre hWF hI hbel c1 c2 hroom hmany
        replace hs60 : Calls Tryz.prog 59 #[.pointer (some ⟨b, 0, none⟩), .string ⟨#[60]⟩] wr fun e w' => e = .returned (.bool true) ∧ wr = w' := hs60
        go_wp2_with (go_at_call 59; refine hs60.mono ?_; rintro e w' ⟨rfl, rfl⟩)
        first | go_end0 | refine bodyPost_ret (results_none rfl _ _ _) rfl ?_
        rw [HRE.out]
        exact ⟨rfl, x1, HI.out, HBel.out⟩
      · replace hs60 : Calls Tryz.prog 59 #[.pointer (some ⟨b, 0, none⟩), .string ⟨#[60]⟩] wr fun e w' => e = .returned (.bool false) ∧ wr = w' := by
          rw [show (60 == c) = false by simpa using fun h => h60 h.symm] at hs60
          exact hs60
        have hbox : Below wr.heap.size wr (wr.alloc (.cells #[.int .i64 (p.1 : Int), .int .i64 (p.2 : Int)] 29)) := (Below.refl _ _).alloc (Nat.le_refl _) _
        have hI1 := hI.bel hbox
        have hnew := heap_new wr (.cells #[.int .i64 (p.1 : Int), .int .i64 (p.2 : Int)] 29)
        have hs38 := sees_any [38] (by unfold Small; decide) b _ x1 _ hI1.rd ⟨#[38]⟩ rfl
        rw [sees_one] at hs38
        have hsay : ∀ (s2 : K.St) (m : List Nat) (W : World), Inv b mm B s2 (K.say t acc P) x1 W → K.Sc m → m.length + s2.1.length ≤ r.length + 1 → s2.1.length ≤ r.length →
            Calls Tryz.prog 92 #[.pointer (some ⟨b, 0, none⟩), .string (bs (U.n8 m)), .agg #[.int .i64 (p.1 : Int), .int .i64 (p.2 : Int)]] W (Said b mm B s2 (K.say t acc P) m p W) := by
          intro s2 m W hW hm h1 h2
          refine say_any b mm B s2 (K.say t acc P) x1 W hW m hm p (by omega) ?_ h12
          have : (if (K.say t acc P).text = [] then 0 else 1) ≤ 1 := by split <;> omega
          have : (if (K.say t acc P).text ++ m = [] then 0 else 1) ≤ 1 := by split <;> omega
          omega
        have hat : ∀ W, Bar b (wr.alloc (.cells #[.int .i64 (p.1 : Int), .int .i64 (p.2 : Int)] 29)) W → W.cell? ⟨wr.heap.size, 0, none⟩ = some (.int .i64 (p.1 : Int)) ∧ W.cell? ⟨wr.heap.size, 1, none⟩ = some (.int .i64 (p.2 : Int)) := by
          intro W hW
          have := hW.keep (by omega) hnew
          exact ⟨by rw [Lib.cell_of_heap this]; rfl, by rw [Lib.cell_of_heap this]; rfl⟩
        have hbel1 : Below B w (wr.alloc (.cells #[.int .i64 (p.1 : Int), .int .i64 (p.2 : Int)] 29)) := hbel.trans (hbox.mono hBlt)
        have hsz1 := heap_size wr (.cells #[.int .i64 (p.1 : Int), .int .i64 (p.2 : Int)] 29)
        have HI1 := Lib.hid hI1
        have HSay := Lib.hid hsay
        have HAt := Lib.hid hat
        have HBel1 := Lib.hid hbel1
        have HSZ := Lib.hid hsz1
        have HH := Lib.hid h60
        by_cases h38 : c = 38
        · subst h38
          replace hs38 : Calls Tryz.prog 59 #[.pointer (some ⟨b, 0, none⟩), .string ⟨#[38]⟩] (wr.alloc (.cells #[.int .i64 (p.1 : Int), .int .i64 (p.2 : Int)] 29)) fun e w' => e = .returned (.bool true) ∧ (wr.alloc (.cells #[.int .i64 (p.1 : Int), .int .i64 (p.2 : Int)] 29)) = w' := hs38
          have href := reference_any b mm r p x1 _ hI1.rd hI1.env
          have hwf := WF_ref r p acc
          cases hr : K.reference (38 :: r, p) with
          | error er =>
            rw [hr] at href hwf
            have hre : R = .error er := hWF.symm.trans hwf
            have HRE := Lib.hid hre
            clear hre hwf hWF hr hI hI1 hbel hbel1 hbox hnew hsay hat hroom hmany hsz1 h60
            go_wp2_with (first
              | (go_at_call 59; first | ((with_reducible refine hs60.mono ?_); rintro e w' ⟨rfl, rfl⟩) | ((with_reducible refine hs38.mono ?_); rintro e w' ⟨rfl, rfl⟩))
              | (go_at_call 94; refine href.mono ?_; rintro e w' ⟨⟨fb, rfl, hfc⟩, hfb⟩))
            refine ⟨rfl, ?_⟩
            rw [HRE.out]
            exact ⟨⟨_, rfl, hfc⟩, HBel1.out.trans (hfb.below hbB (by rw [HSZ.out]; omega))⟩
          | ok q =>
            obtain ⟨d, s2⟩ := q
            have hds := ref_scalar hr
            have hshort := ref_short hr
            rw [hr] at href hwf
            have hre : WF s2 (acc ++ [d]) = R := hwf.symm.trans hWF
            have hcv : ∀ W, (convert 21 9 (.int .i32 (d : Int))).run Tryz.prog W = .ok (.string (bs (U.n8 [d]))) W := fun W => by
              rw [one_n8, ← encode_enc d hds]
              exact run_convert_int_string W 21 9 .i32 _ (by rw [Tryz.underlying21]; rfl) Tryz.underlying9
            have HRE := Lib.hid hre
            have HDS := Lib.hid hds
            clear hre hwf hWF hr hI hI1 hbel hbel1 hbox hnew hsay hat hroom hmany hsz1 h60 hds
            go_wp2_with (first
              | (go_at_call 59; first | ((with_reducible refine hs60.mono ?_); rintro e w' ⟨rfl, rfl⟩) | ((with_reducible refine hs38.mono ?_); rintro e w' ⟨rfl, rfl⟩))
              | (go_at_call 94; refine href.mono ?_; rintro e w2 ⟨rfl, hR2, hB2⟩; have hI2 := HI1.out.step hR2 hB2 (by simp only [List.length_cons]; omega); obtain ⟨q0, q1⟩ := HAt.out _ hB2; have hsy := HSay.out s2 [d] w2 hI2 (fun y hy => by simp only [List.mem_singleton] at hy; subst hy; exact HDS.out) (by simp; omega) (by omega); have HB2 := Lib.hid hB2; clear hR2 hB2 hI2)
              | (go_at_call 92; refine hsy.mono ?_; rintro e w3 ⟨rfl, x3, hI3, hb3, _⟩; have HI3 := Lib.hid hI3; have HB3 := Lib.hid hb3; clear hI3 hb3))
            go_roundg s2.1.length
            case measure => omega
            case rel =>
              have hI3 := HI3.out
              rw [say_say t acc [d] p P hacc] at hI3
              exact ⟨s2, acc ++ [d], x3, rfl, HRE.out, hI3, (HBel1.out.trans (HB2.out.below hbB (by rw [HSZ.out]; omega))).trans HB3.out, fun h => absurd h (by simp)⟩
        · replace hs38 : Calls Tryz.prog 59 #[.pointer (some ⟨b, 0, none⟩), .string ⟨#[38]⟩] (wr.alloc (.cells #[.int .i64 (p.1 : Int), .int .i64 (p.2 : Int)] 29)) fun e w' => e = .returned (.bool false) ∧ (wr.alloc (.cells #[.int .i64 (p.1 : Int), .int .i64 (p.2 : Int)] 29)) = w' := by
            rw [show (38 == c) = false by simpa using fun h => h38 h.symm] at hs38
            exact hs38
          have hun := unreferred_any b (c :: r, p) x1 _ hI1.rd hI1.env.low hI1.env.hb
          have hwf := WF_unref (c :: r, p) acc
          cases hr : unref (c :: r, p) with
          | error er =>
            rw [hr] at hun hwf
            have hre : R = .error er := hWF.symm.trans hwf
            have HRE := Lib.hid hre
            clear hre hwf hWF hr hI hI1 hbel hbel1 hbox hnew hsay hat hroom hmany hsz1 h60 h38
            go_wp2_with (first
              | (go_at_call 59; first | ((with_reducible refine hs60.mono ?_); rintro e w' ⟨rfl, rfl⟩) | ((with_reducible refine hs38.mono ?_); rintro e w' ⟨rfl, rfl⟩))
              | (go_at_call 95; refine hun.mono ?_; rintro e w' ⟨⟨fb, rfl, hfc⟩, hfb⟩))
            refine ⟨rfl, ?_⟩
            rw [HRE.out]
            exact ⟨⟨_, rfl, hfc⟩, HBel1.out.trans (hfb.below hbB (by rw [HSZ.out]; omega))⟩
          | ok q =>
            obtain ⟨m, s2⟩ := q
            obtain ⟨hm1, hm2, hm3⟩ := unref_ok h60 h38 hr hI.rd.1.sc
            have hm4 : 0 < m.length := List.length_pos_iff.2 hm2
            rw [hr] at hun hwf
            have hre : WF s2 (acc ++ m) = R := hwf.symm.trans hWF
            have HRE := Lib.hid hre
            have HM1 := Lib.hid hm1
            have HM2 := Lib.hid hm2
            clear hre hwf hWF hr hI hI1 hbel hbel1 hbox hnew hsay hat hroom hmany hsz1 h60 h38 hm1 hm2
            go_wp2_with (first
              | (go_at_call 59; first | ((with_reducible refine hs60.mono ?_); rintro e w' ⟨rfl, rfl⟩) | ((with_reducible refine hs38.mono ?_); rintro e w' ⟨rfl, rfl⟩))
              | (go_at_call 95; refine hun.mono ?_; rintro e w2 ⟨rfl, hR2, hB2⟩; have hI2 := HI1.out.step hR2 hB2 (by simp only [List.length_cons]; omega); obtain ⟨q0, q1⟩ := HAt.out _ hB2; have hsy := HSay.out s2 m w2 hI2 HM1.out (by omega) (by omega); have HB2 := Lib.hid hB2; clear hR2 hB2 hI2)
              | (go_at_call 92; refine hsy.mono ?_; rintro e w3 ⟨rfl, x3, hI3, hb3, _⟩; have HI3 := Lib.hid hI3; have HB3 := Lib.hid hb3; clear hI3 hb3))
            go_roundg s2.1.length
            case measure => omega
            case rel =>
              have hI3 := HI3.out
              rw [say_say t acc m p P hacc] at hI3
              exact ⟨s2, acc ++ m, x3, rfl, HRE.out, hI3, (HBel1.out.trans (HB2.out.below hbB (by rw [HSZ.out]; omega))).trans HB3.out, fun h => absurd (List.append_eq_nil_iff.1 h).2 HM2.out⟩
end Go.Proofs.YtdilngjolhmjnaaGreatDoor
namespace Go.Proofs.YtdilngjolhmjnaaGreatDoor
open Go.RowKit Go.Shelf
set_option linter.all false

/-- What taking a part leaves. -/
def PartStep (b mm B : Nat) (w : World) (r : Except K.Er (K.Told × K.St)) (e : Ending) (w' : World) : Prop := match r with
  | .ok (t, s) => e = .returned (.tuple #[]) ∧ ∃ x', Inv b mm B s t x' w' ∧ Below B w w'
  | .error er => Fell er e w' ∧ Below B w w'
theorem sees_len {t : List Nat} (ht : Small t) {s : K.St} (h : K.sees t s = true) : (U.n8 (s.1.take t.length)).length = t.length ∧ t.length ≤ s.1.length := by
  have hp : t <+: s.1 := List.isPrefixOf_iff_prefix.1 h
  refine ⟨?_, hp.length_le⟩
  rw [← List.prefix_iff_eq_take.1 hp]
  exact K.n8_length_small t ht
def onS (t : K.Told) (r : Except K.Er K.St) : Except K.Er (K.Told × K.St) := match r with
  | .error e => .error e
  | .ok s1 => .ok (t, s1)
def onM (t : K.Told) (p : K.Pl) (r : Except K.Er (List Nat × K.St)) : Except K.Er (K.Told × K.St) := match r with
  | .error e => .error e
  | .ok (x, s1) => .ok (K.say t x p, s1)
def onT (t : K.Told) (r : Except K.Er (K.Tk × K.St)) : Except K.Er (K.Told × K.St) := match r with
  | .error e => .error e
  | .ok (k, s1) => .ok (K.tag t k, s1)
theorem part_step {b mm B : Nat} {s : K.St} {t : K.Told} {x : X6} {w w' : World} {e : Ending} {r : Except K.Er K.St} (h : Inv b mm B s t x w) (hle : ∀ s1, r = .ok s1 → s1.1.length ≤ s.1.length) (hs : Step b x w noRet (unitOf r) e w') : PartStep b mm B w (onS t r) e w' := by
  cases r with
  | error er => exact ⟨hs.1, hs.2.below h.hB h.blt⟩
  | ok s1 => exact ⟨hs.1, x, h.step hs.2.1 hs.2.2 (hle s1 rfl), hs.2.2.below h.hB h.blt⟩
theorem part_sec {b mm B : Nat} {t : K.Told} {p : K.Pl} {w w' : World} {e : Ending} {r : Except K.Er (List Nat × K.St)} (hs : SecStep b mm B t p w r e w') : PartStep b mm B w (onM t p r) e w' := by
  cases r with
  | error er => exact hs
  | ok q => exact hs
theorem part_tag {b mm B : Nat} {t : K.Told} {w w' : World} {e : Ending} {r : Except K.Er (K.Tk × K.St)} (hs : TagStep b mm B t w r e w') : PartStep b mm B w (onT t r) e w' := by
  cases r with
  | error er => exact hs
  | ok q => exact hs
theorem upTo_le {q m : List Nat} {s s1 : K.St} (h : K.upTo q s = .ok (m, s1)) : s1.1.length ≤ s.1.length := by
  have := (upTo_len h).1
  omega
theorem instruction_le {s s1 : K.St} (h : K.instruction s = .ok s1) : s1.1.length ≤ s.1.length := by
  have h0 : (K.skip s 2).1.length ≤ s.1.length := skip_le _ _
  unfold K.instruction at h
  cases hn : K.name (K.skip s 2) with
  | error e => rw [hn] at h; cases h
  | ok q =>
    obtain ⟨n, s2⟩ := q
    rw [hn] at h
    simp only at h
    have h1 := name_le hn
    split at h
    · cases h
    · split at h
      · have := want_le h
        omega
      · have h3 : (K.blanks s2).1.length ≤ s2.1.length := skip_le _ _
        cases hu : K.upTo [63, 62] (K.blanks s2) with
        | error e => rw [hu] at h; cases h
        | ok q =>
          obtain ⟨m, s3⟩ := q
          rw [hu] at h
          simp only [Except.ok.injEq] at h
          have := upTo_le hu
          rw [← h]
          omega
theorem comment_le {s s1 : K.St} (h : K.comment s = .ok s1) : s1.1.length ≤ s.1.length := by
  have h0 : (K.skip s 4).1.length ≤ s.1.length := skip_le _ _
  unfold K.comment at h
  split at h
  · cases h
  · split at h
    · cases h
    · have := want_le h
      have h3 := skip_le (K.skip s 4) ‹Nat›
      omega
theorem kInstr : Small [60, 63] := by unfold Small; decide
theorem kComment : Small [60, 33, 45, 45] := by unfold Small; decide
theorem kCdata : Small [60, 33, 91, 67, 68, 65, 84, 65, 91] := by unfold Small; decide
theorem kDoctype : Small [60, 33, 68, 79, 67, 84, 89, 80, 69] := by unfold Small; decide
theorem kBang : Small [60, 33] := by unfold Small; decide
theorem kEnd : Small [60, 47] := by unfold Small; decide
theorem kLt : Small [60] := by unfold Small; decide

theorem part_eq (s : K.St) (t : K.Told) : K.part s t = (if K.sees [60, 63] s then onS t (K.instruction s)
  else if K.sees [60, 33, 45, 45] s then onS t (K.comment s)
  else if K.sees [60, 33, 91, 67, 68, 65, 84, 65, 91] s then onM t s.2 (K.section_ s)
  else if K.sees [60, 33, 68, 79, 67, 84, 89, 80, 69] s then .error (23, s.2)
  else if K.sees [60, 33] s then .error (21, s.2)
  else if K.sees [60, 47] s then onT t (K.endTag s)
  else if K.sees [60] s then onT t (K.startTag s)
  else onM t s.2 (K.words s)) := rfl

set_option maxHeartbeats 16000000 in
set_option maxRecDepth 100000 in
theorem part_any (b mm B : Nat) (s : K.St) (t : K.Told) (x : X6) (w : World) (h : Inv b mm B s t x w) (h12 : 12 ≤ B) :
    Calls Tryz.prog 39 #[.pointer (some ⟨b, 0, none⟩)] w (PartStep b mm B w (K.part s t)) := by
  have hBlt := h.blt
  have hsi := sees_any [60, 63] kInstr b s x w h.rd ⟨#[60, 63]⟩ rfl
  have hsc := sees_any [60, 33, 45, 45] kComment b s x w h.rd ⟨#[60, 33, 45, 45]⟩ rfl
  have hsd := sees_any [60, 33, 91, 67, 68, 65, 84, 65, 91] kCdata b s x w h.rd ⟨#[60, 33, 91, 67, 68, 65, 84, 65, 91]⟩ rfl
  have hsy := sees_any [60, 33, 68, 79, 67, 84, 89, 80, 69] kDoctype b s x w h.rd ⟨#[60, 33, 68, 79, 67, 84, 89, 80, 69]⟩ rfl
  have hsb := sees_any [60, 33] kBang b s x w h.rd ⟨#[60, 33]⟩ rfl
  have hse := sees_any [60, 47] kEnd b s x w h.rd ⟨#[60, 47]⟩ rfl
  have hsl := sees_any [60] kLt b s x w h.rd ⟨#[60]⟩ rfl
  rw [part_eq]
  cases hti : K.sees [60, 63] s with
  | true =>
    rw [hti] at hsi
    rw [if_pos rfl]
    have hc : Calls Tryz.prog 64 #[.pointer (some ⟨b, 0, none⟩)] w (PartStep b mm B w (onS t (K.instruction s))) := (instruction_any b s x w h.rd h.env.low h.env.hb (sees_len kInstr hti).1).mono fun e w2 hs => part_step h (fun s1 h1 => instruction_le h1) hs
    clear hsc hsd hsy hsb hse hsl
    generalize onS t (K.instruction s) = R at hc ⊢
    clear h
    cases R with
    | error er =>
      go_enter Tryz.func39, Tryz.ntmps39
      go_wp2_with (first | (go_at_call 59; first | ((with_reducible refine hsi.mono ?_); rintro e w1 ⟨rfl, rfl⟩)) | (go_at_call 64; refine hc.mono ?_; rintro e w2 ⟨⟨fb, rfl, hfc⟩, hfb⟩))
      exact ⟨rfl, ⟨_, rfl, hfc⟩, hfb⟩
    | ok q =>
      obtain ⟨t1, s1⟩ := q
      go_enter Tryz.func39, Tryz.ntmps39
      go_wp2_with (first | (go_at_call 59; first | ((with_reducible refine hsi.mono ?_); rintro e w1 ⟨rfl, rfl⟩)) | (go_at_call 64; refine hc.mono ?_; rintro e w2 ⟨rfl, x2, hI2, hb2⟩; have HI2 := Lib.hid hI2; have HB2 := Lib.hid hb2; clear hI2 hb2))
      first | go_end0 | refine bodyPost_ret (results_none rfl _ _ _) rfl ?_
      exact ⟨rfl, x2, HI2.out, HB2.out⟩
  | false =>
    rw [hti] at hsi
    rw [if_neg (by decide)]
    cases htc : K.sees [60, 33, 45, 45] s with
    | true =>
      rw [htc] at hsc
      rw [if_pos rfl]
      have hc : Calls Tryz.prog 65 #[.pointer (some ⟨b, 0, none⟩)] w (PartStep b mm B w (onS t (K.comment s))) := (comment_any b s x w h.rd h.env.low h.env.hb (sees_len kComment htc).1 (sees_len kComment htc).2).mono fun e w2 hs => part_step h (fun s1 h1 => comment_le h1) hs
      clear hsd hsy hsb hse hsl
      generalize onS t (K.comment s) = R at hc ⊢
      clear h
      cases R with
      | error er =>
        go_enter Tryz.func39, Tryz.ntmps39
        go_wp2_with (first | (go_at_call 59; first | ((with_reducible refine hsi.mono ?_); rintro e w1 ⟨rfl, rfl⟩) | ((with_reducible refine hsc.mono ?_); rintro e w1 ⟨rfl, rfl⟩)) | (go_at_call 65; refine hc.mono ?_; rintro e w2 ⟨⟨fb, rfl, hfc⟩, hfb⟩))
        exact ⟨rfl, ⟨_, rfl, hfc⟩, hfb⟩
      | ok q =>
        obtain ⟨t1, s1⟩ := q
        go_enter Tryz.func39, Tryz.ntmps39
        go_wp2_with (first | (go_at_call 59; first | ((with_reducible refine hsi.mono ?_); rintro e w1 ⟨rfl, rfl⟩) | ((with_reducible refine hsc.mono ?_); rintro e w1 ⟨rfl, rfl⟩)) | (go_at_call 65; refine hc.mono ?_; rintro e w2 ⟨rfl, x2, hI2, hb2⟩; have HI2 := Lib.hid hI2; have HB2 := Lib.hid hb2; clear hI2 hb2))
        first | go_end0 | refine bodyPost_ret (results_none rfl _ _ _) rfl ?_
        exact ⟨rfl, x2, HI2.out, HB2.out⟩
    | false =>
      rw [htc] at hsc
      rw [if_neg (by decide)]
      cases htd : K.sees [60, 33, 91, 67, 68, 65, 84, 65, 91] s with
      | true =>
        rw [htd] at hsd
        rw [if_pos rfl]
        have hc : Calls Tryz.prog 66 #[.pointer (some ⟨b, 0, none⟩)] w (PartStep b mm B w (onM t s.2 (K.section_ s))) := (section_any b mm B s t x w h h12 (sees_len kCdata htd).1 (sees_len kCdata htd).2).mono fun e w2 hs => part_sec hs
        clear hsy hsb hse hsl
        generalize onM t s.2 (K.section_ s) = R at hc ⊢
        clear h
        cases R with
        | error er =>
          go_enter Tryz.func39, Tryz.ntmps39
          go_wp2_with (first | (go_at_call 59; first | ((with_reducible refine hsi.mono ?_); rintro e w1 ⟨rfl, rfl⟩) | ((with_reducible refine hsc.mono ?_); rintro e w1 ⟨rfl, rfl⟩) | ((with_reducible refine hsd.mono ?_); rintro e w1 ⟨rfl, rfl⟩)) | (go_at_call 66; refine hc.mono ?_; rintro e w2 ⟨⟨fb, rfl, hfc⟩, hfb⟩))
          exact ⟨rfl, ⟨_, rfl, hfc⟩, hfb⟩
        | ok q =>
          obtain ⟨t1, s1⟩ := q
          go_enter Tryz.func39, Tryz.ntmps39
          go_wp2_with (first | (go_at_call 59; first | ((with_reducible refine hsi.mono ?_); rintro e w1 ⟨rfl, rfl⟩) | ((with_reducible refine hsc.mono ?_); rintro e w1 ⟨rfl, rfl⟩) | ((with_reducible refine hsd.mono ?_); rintro e w1 ⟨rfl, rfl⟩)) | (go_at_call 66; refine hc.mono ?_; rintro e w2 ⟨rfl, x2, hI2, hb2⟩; have HI2 := Lib.hid hI2; have HB2 := Lib.hid hb2; clear hI2 hb2))
          first | go_end0 | refine bodyPost_ret (results_none rfl _ _ _) rfl ?_
          exact ⟨rfl, x2, HI2.out, HB2.out⟩
      | false =>
        rw [htd] at hsd
        rw [if_neg (by decide)]
        cases hty : K.sees [60, 33, 68, 79, 67, 84, 89, 80, 69] s with
        | true =>
          rw [hty] at hsy
          rw [if_pos rfl]
          obtain ⟨c0, c1, c2⟩ := h.rd.cells
          have hf := fail_any 23 s.2.1 s.2.2 w
          clear h hsb hse hsl
          go_enter Tryz.func39, Tryz.ntmps39
          go_wp2_with (first | (go_at_call 59; first | ((with_reducible refine hsi.mono ?_); rintro e w1 ⟨rfl, rfl⟩) | ((with_reducible refine hsc.mono ?_); rintro e w1 ⟨rfl, rfl⟩) | ((with_reducible refine hsd.mono ?_); rintro e w1 ⟨rfl, rfl⟩) | ((with_reducible refine hsy.mono ?_); rintro e w1 ⟨rfl, rfl⟩)) | (go_at_call 17; refine hf.mono ?_; rintro e w2 ⟨⟨fb, rfl, hfc⟩, hfb⟩))
          exact ⟨rfl, ⟨_, rfl, hfc⟩, hfb.mono hBlt⟩
        | false =>
          rw [hty] at hsy
          rw [if_neg (by decide)]
          cases htb : K.sees [60, 33] s with
          | true =>
            rw [htb] at hsb
            rw [if_pos rfl]
            obtain ⟨c0, c1, c2⟩ := h.rd.cells
            have hf := fail_any 21 s.2.1 s.2.2 w
            clear h hse hsl
            go_enter Tryz.func39, Tryz.ntmps39
            go_wp2_with (first | (go_at_call 59; first | ((with_reducible refine hsi.mono ?_); rintro e w1 ⟨rfl, rfl⟩) | ((with_reducible refine hsc.mono ?_); rintro e w1 ⟨rfl, rfl⟩) | ((with_reducible refine hsd.mono ?_); rintro e w1 ⟨rfl, rfl⟩) | ((with_reducible refine hsy.mono ?_); rintro e w1 ⟨rfl, rfl⟩) | ((with_reducible refine hsb.mono ?_); rintro e w1 ⟨rfl, rfl⟩)) | (go_at_call 17; refine hf.mono ?_; rintro e w2 ⟨⟨fb, rfl, hfc⟩, hfb⟩))
            exact ⟨rfl, ⟨_, rfl, hfc⟩, hfb.mono hBlt⟩
          | false =>
            rw [htb] at hsb
            rw [if_neg (by decide)]
            cases hte : K.sees [60, 47] s with
            | true =>
              rw [hte] at hse
              rw [if_pos rfl]
              have hc : Calls Tryz.prog 67 #[.pointer (some ⟨b, 0, none⟩)] w (PartStep b mm B w (onT t (K.endTag s))) := (endTag_any b mm B s t x w h h12 (sees_len kEnd hte).1 (sees_len kEnd hte).2).mono fun e w2 hs => part_tag hs
              clear hsl
              generalize onT t (K.endTag s) = R at hc ⊢
              clear h
              cases R with
              | error er =>
                go_enter Tryz.func39, Tryz.ntmps39
                go_wp2_with (first | (go_at_call 59; first | ((with_reducible refine hsi.mono ?_); rintro e w1 ⟨rfl, rfl⟩) | ((with_reducible refine hsc.mono ?_); rintro e w1 ⟨rfl, rfl⟩) | ((with_reducible refine hsd.mono ?_); rintro e w1 ⟨rfl, rfl⟩) | ((with_reducible refine hsy.mono ?_); rintro e w1 ⟨rfl, rfl⟩) | ((with_reducible refine hsb.mono ?_); rintro e w1 ⟨rfl, rfl⟩) | ((with_reducible refine hse.mono ?_); rintro e w1 ⟨rfl, rfl⟩)) | (go_at_call 67; refine hc.mono ?_; rintro e w2 ⟨⟨fb, rfl, hfc⟩, hfb⟩))
                exact ⟨rfl, ⟨_, rfl, hfc⟩, hfb⟩
              | ok q =>
                obtain ⟨t1, s1⟩ := q
                go_enter Tryz.func39, Tryz.ntmps39
                go_wp2_with (first | (go_at_call 59; first | ((with_reducible refine hsi.mono ?_); rintro e w1 ⟨rfl, rfl⟩) | ((with_reducible refine hsc.mono ?_); rintro e w1 ⟨rfl, rfl⟩) | ((with_reducible refine hsd.mono ?_); rintro e w1 ⟨rfl, rfl⟩) | ((with_reducible refine hsy.mono ?_); rintro e w1 ⟨rfl, rfl⟩) | ((with_reducible refine hsb.mono ?_); rintro e w1 ⟨rfl, rfl⟩) | ((with_reducible refine hse.mono ?_); rintro e w1 ⟨rfl, rfl⟩)) | (go_at_call 67; refine hc.mono ?_; rintro e w2 ⟨rfl, x2, hI2, hb2⟩; have HI2 := Lib.hid hI2; have HB2 := Lib.hid hb2; clear hI2 hb2))
                first | go_end0 | refine bodyPost_ret (results_none rfl _ _ _) rfl ?_
                exact ⟨rfl, x2, HI2.out, HB2.out⟩
            | false =>
              rw [hte] at hse
              rw [if_neg (by decide)]
              cases htl : K.sees [60] s with
              | true =>
                rw [htl] at hsl
                rw [if_pos rfl]
                have hc : Calls Tryz.prog 68 #[.pointer (some ⟨b, 0, none⟩)] w (PartStep b mm B w (onT t (K.startTag s))) := (startTag_any attrs_ok b mm B s t x w h h12 (sees_len kLt htl).1 (sees_len kLt htl).2).mono fun e w2 hs => part_tag hs
                generalize onT t (K.startTag s) = R at hc ⊢
                clear h
                cases R with
                | error er =>
                  go_enter Tryz.func39, Tryz.ntmps39
                  go_wp2_with (first | (go_at_call 59; first | ((with_reducible refine hsi.mono ?_); rintro e w1 ⟨rfl, rfl⟩) | ((with_reducible refine hsc.mono ?_); rintro e w1 ⟨rfl, rfl⟩) | ((with_reducible refine hsd.mono ?_); rintro e w1 ⟨rfl, rfl⟩) | ((with_reducible refine hsy.mono ?_); rintro e w1 ⟨rfl, rfl⟩) | ((with_reducible refine hsb.mono ?_); rintro e w1 ⟨rfl, rfl⟩) | ((with_reducible refine hse.mono ?_); rintro e w1 ⟨rfl, rfl⟩) | ((with_reducible refine hsl.mono ?_); rintro e w1 ⟨rfl, rfl⟩)) | (go_at_call 68; refine hc.mono ?_; rintro e w2 ⟨⟨fb, rfl, hfc⟩, hfb⟩))
                  exact ⟨rfl, ⟨_, rfl, hfc⟩, hfb⟩
                | ok q =>
                  obtain ⟨t1, s1⟩ := q
                  go_enter Tryz.func39, Tryz.ntmps39
                  go_wp2_with (first | (go_at_call 59; first | ((with_reducible refine hsi.mono ?_); rintro e w1 ⟨rfl, rfl⟩) | ((with_reducible refine hsc.mono ?_); rintro e w1 ⟨rfl, rfl⟩) | ((with_reducible refine hsd.mono ?_); rintro e w1 ⟨rfl, rfl⟩) | ((with_reducible refine hsy.mono ?_); rintro e w1 ⟨rfl, rfl⟩) | ((with_reducible refine hsb.mono ?_); rintro e w1 ⟨rfl, rfl⟩) | ((with_reducible refine hse.mono ?_); rintro e w1 ⟨rfl, rfl⟩) | ((with_reducible refine hsl.mono ?_); rintro e w1 ⟨rfl, rfl⟩)) | (go_at_call 68; refine hc.mono ?_; rintro e w2 ⟨rfl, x2, hI2, hb2⟩; have HI2 := Lib.hid hI2; have HB2 := Lib.hid hb2; clear hI2 hb2))
                  first | go_end0 | refine bodyPost_ret (results_none rfl _ _ _) rfl ?_
                  exact ⟨rfl, x2, HI2.out, HB2.out⟩
              | false =>
                rw [htl] at hsl
                rw [if_neg (by decide)]
                have hc : Calls Tryz.prog 69 #[.pointer (some ⟨b, 0, none⟩)] w (PartStep b mm B w (onM t s.2 (K.words s))) := (plainText_any b mm B s t x w h h12).mono fun e w2 hs => part_sec hs
                generalize onM t s.2 (K.words s) = R at hc ⊢
                clear h
                cases R with
                | error er =>
                  go_enter Tryz.func39, Tryz.ntmps39
                  go_wp2_with (first | (go_at_call 59; first | ((with_reducible refine hsi.mono ?_); rintro e w1 ⟨rfl, rfl⟩) | ((with_reducible refine hsc.mono ?_); rintro e w1 ⟨rfl, rfl⟩) | ((with_reducible refine hsd.mono ?_); rintro e w1 ⟨rfl, rfl⟩) | ((with_reducible refine hsy.mono ?_); rintro e w1 ⟨rfl, rfl⟩) | ((with_reducible refine hsb.mono ?_); rintro e w1 ⟨rfl, rfl⟩) | ((with_reducible refine hse.mono ?_); rintro e w1 ⟨rfl, rfl⟩) | ((with_reducible refine hsl.mono ?_); rintro e w1 ⟨rfl, rfl⟩)) | (go_at_call 69; refine hc.mono ?_; rintro e w2 ⟨⟨fb, rfl, hfc⟩, hfb⟩))
                  exact ⟨rfl, ⟨_, rfl, hfc⟩, hfb⟩
                | ok q =>
                  obtain ⟨t1, s1⟩ := q
                  go_enter Tryz.func39, Tryz.ntmps39
                  go_wp2_with (first | (go_at_call 59; first | ((with_reducible refine hsi.mono ?_); rintro e w1 ⟨rfl, rfl⟩) | ((with_reducible refine hsc.mono ?_); rintro e w1 ⟨rfl, rfl⟩) | ((with_reducible refine hsd.mono ?_); rintro e w1 ⟨rfl, rfl⟩) | ((with_reducible refine hsy.mono ?_); rintro e w1 ⟨rfl, rfl⟩) | ((with_reducible refine hsb.mono ?_); rintro e w1 ⟨rfl, rfl⟩) | ((with_reducible refine hse.mono ?_); rintro e w1 ⟨rfl, rfl⟩) | ((with_reducible refine hsl.mono ?_); rintro e w1 ⟨rfl, rfl⟩)) | (go_at_call 69; refine hc.mono ?_; rintro e w2 ⟨rfl, x2, hI2, hb2⟩; have HI2 := Lib.hid hI2; have HB2 := Lib.hid hb2; clear hI2 hb2))
                  first | go_end0 | refine bodyPost_ret (results_none rfl _ _ _) rfl ?_
                  exact ⟨rfl, x2, HI2.out, HB2.out⟩
end Go.Proofs.YtdilngjolhmjnaaGreatDoor
