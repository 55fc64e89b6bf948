/- The places of a document's tokens rise: plain facts on what the chapter says. No conditions but those that each fact names. -/
import Derived.Test.YtdilngjolhmjnaaGreatDoorB9
namespace Go.Proofs.YtdilngjolhmjnaaGreatDoor
open Go.RowKit Go.Shelf
set_option linter.all false

/-- One place stands ahead of another one. -/
def plt (a b : K.Pl) : Prop := a.1 < b.1 ∨ (a.1 = b.1 ∧ a.2 < b.2)
def ple (a b : K.Pl) : Prop := a = b ∨ plt a b
theorem plt.trans {a b c : K.Pl} (h : plt a b) (k : plt b c) : plt a c := by unfold plt at *; omega
theorem plt_ple {a b c : K.Pl} (h : plt a b) (k : ple b c) : plt a c := by
  rcases k with rfl | k
  · exact h
  · exact h.trans k
theorem ple_plt {a b c : K.Pl} (h : ple a b) (k : plt b c) : plt a c := by
  rcases h with rfl | h
  · exact k
  · exact h.trans k
theorem plt_adv (p : K.Pl) (c : Nat) : plt p (K.adv p c) := by
  unfold K.adv plt
  split
  · exact .inl (by simp)
  · exact .inr ⟨rfl, by simp⟩
theorem ple_advs : ∀ (l : List Nat) (p : K.Pl), ple p (K.advs p l)
  | [], p => .inl rfl
  | c :: l, p => .inr (plt_ple (plt_adv p c) (ple_advs l _))
theorem plt_advs {l : List Nat} (h : l ≠ []) (p : K.Pl) : plt p (K.advs p l) := by
  cases l with
  | nil => exact absurd rfl h
  | cons c l => exact plt_ple (plt_adv p c) (ple_advs l _)
/-- The reader has gone on. -/
def Goes (s s1 : K.St) : Prop := ∃ a, s.1 = a ++ s1.1 ∧ s1.2 = K.advs s.2 a
theorem Goes.refl (s : K.St) : Goes s s := ⟨[], rfl, rfl⟩
theorem Goes.trans {s s1 s2 : K.St} (h : Goes s s1) (k : Goes s1 s2) : Goes s s2 := by
  obtain ⟨a, h1, h2⟩ := h
  obtain ⟨b, k1, k2⟩ := k
  exact ⟨a ++ b, by rw [h1, k1, List.append_assoc], by rw [k2, h2, K.advs_append]⟩
theorem goes_skip (s : K.St) (n : Nat) : Goes s (K.skip s n) := ⟨s.1.take n, (List.take_append_drop n s.1).symm, rfl⟩
theorem goes_one (c : Nat) (r : List Nat) (p : K.Pl) : Goes (c :: r, p) (r, K.adv p c) := ⟨[c], rfl, rfl⟩
theorem Goes.le {s s1 : K.St} (h : Goes s s1) : ple s.2 s1.2 := by
  obtain ⟨a, _, h2⟩ := h
  rw [h2]
  exact ple_advs a _
theorem Goes.lt {s s1 : K.St} (h : Goes s s1) (hl : s1.1.length < s.1.length) : plt s.2 s1.2 := by
  obtain ⟨a, h1, h2⟩ := h
  rw [h2]
  refine plt_advs ?_ _
  rintro rfl
  rw [h1] at hl
  simp at hl
theorem name_goes {s s1 : K.St} {n : List Nat} (h : K.name s = .ok (n, s1)) : Goes s s1 := by
  unfold K.name at h
  split at h
  · split at h
    · cases h
    · simp only [Except.ok.injEq, Prod.mk.injEq] at h
      rw [← h.2]
      exact goes_skip _ _
  · cases h
theorem name_some {s s1 : K.St} {n : List Nat} (h : K.name s = .ok (n, s1)) : n ≠ [] ∧ s1.1.length < s.1.length := by
  unfold K.name at h
  split at h
  · rename_i hb
    split at h
    · cases h
    · simp only [Except.ok.injEq, Prod.mk.injEq] at h
      obtain ⟨rfl, rfl⟩ := h
      obtain ⟨l, p⟩ := s
      cases l with
      | nil => cases hb
      | cons c r =>
        have hg : K.goes c = true := by
          have : K.begins c = true := hb
          unfold K.goes
          rw [this]; rfl
        have hne : List.takeWhile K.goes (c :: r) ≠ [] := by
          rw [List.takeWhile_cons, if_pos hg]
          exact List.cons_ne_nil _ _
        exact ⟨hne, skip_lt (List.length_pos_iff.2 hne) (by simp)⟩
  · cases h
theorem want_goes {t : List Nat} {s s1 : K.St} (h : K.want t s = .ok s1) : Goes s s1 := by
  unfold K.want at h
  split at h
  · simp only [Except.ok.injEq] at h
    rw [← h]
    exact goes_skip _ _
  · cases h
theorem upTo_goes {q m : List Nat} {s s1 : K.St} (h : K.upTo q s = .ok (m, s1)) : Goes s s1 := by
  unfold K.upTo at h
  split at h
  · cases h
  · simp only [Except.ok.injEq, Prod.mk.injEq] at h
    rw [← h.2]
    exact goes_skip _ _
theorem ref_goes {s s1 : K.St} {d : Nat} (h : K.reference s = .ok (d, s1)) : Goes s s1 := by
  unfold K.reference at h
  split at h
  · simp only [Except.ok.injEq, Prod.mk.injEq] at h
    rw [← h.2]
    exact goes_skip _ _
  · cases h
theorem valueF_goes (m : Nat) : ∀ (f : Nat) (s : K.St) (acc v : List Nat) (s' : K.St), K.valueF m f s acc = .ok (v, s') → Goes s s'
  | 0, _, _, _, _, h => by unfold K.valueF at h; cases h
  | f + 1, ([], p), _, _, _, h => by unfold K.valueF at h; cases h
  | f + 1, (c :: r, p), acc, v, s', h => by
    unfold K.valueF at h
    split at h
    · simp only [Except.ok.injEq, Prod.mk.injEq] at h
      rw [← h.2]
      exact goes_one _ _ _
    · split at h
      · cases hr : K.reference (c :: r, p) with
        | error e => rw [hr] at h; cases h
        | ok q =>
          obtain ⟨d, s1⟩ := q
          rw [hr] at h
          exact (ref_goes hr).trans (valueF_goes m f s1 _ _ _ h)
      · split at h
        · cases h
        · exact (goes_one c r p).trans (valueF_goes m f _ _ _ _ h)
theorem value_goes {s s' : K.St} {v : List Nat} (h : K.value s = .ok (v, s')) : Goes s s' := by
  obtain ⟨l, p⟩ := s
  cases l with
  | nil => cases h
  | cons c r =>
    unfold K.value at h
    simp only at h
    split at h
    · exact (goes_one c r p).trans (valueF_goes c _ _ _ _ _ h)
    · cases h
theorem attr1_goes {s s1 : K.St} {a : K.At} (h : K.attr1 s = .ok (a, s1)) : Goes s s1 ∧ a.1 ≠ [] ∧ a.2.2 = s.2 ∧ s1.1.length < s.1.length := by
  unfold K.attr1 at h
  cases hn : K.name s with
  | error e => rw [hn] at h; cases h
  | ok q =>
    obtain ⟨n, t1⟩ := q
    rw [hn] at h
    simp only at h
    obtain ⟨n1, n2⟩ := name_some hn
    cases hw : K.want [61] (K.blanks t1) with
    | error e => rw [hw] at h; cases h
    | ok t2 =>
      rw [hw] at h
      simp only at h
      have hw3 := want_le hw
      have hw4 : (K.blanks t1).1.length ≤ t1.1.length := skip_le _ _
      cases hvv : K.value (K.blanks t2) with
      | error e => rw [hvv] at h; cases h
      | ok q =>
        obtain ⟨v, t3⟩ := q
        rw [hvv] at h
        simp only [Except.ok.injEq, Prod.mk.injEq] at h
        obtain ⟨rfl, rfl⟩ := h
        have v3 := value_le _ _ _ hvv
        have hw5 : (K.blanks t2).1.length ≤ t2.1.length := skip_le _ _
        exact ⟨(((name_goes hn).trans (goes_skip _ _)).trans (want_goes hw)).trans ((goes_skip _ _).trans (value_goes hvv)), n1, rfl, by omega⟩
/-- Attributes stand one behind the other, behind a place. -/
def RisesA : K.Pl → List K.At → Prop
  | _, [] => True
  | p, a :: l => plt p a.2.2 ∧ a.1 ≠ [] ∧ RisesA a.2.2 l
theorem RisesA.mono : ∀ {l : List K.At} {p q : K.Pl}, RisesA q l → ple p q → RisesA p l
  | [], _, _, _, _ => trivial
  | _ :: _, _, _, ⟨h1, h2, h3⟩, k => ⟨ple_plt k h1, h2, h3⟩
theorem attrsF_rises : ∀ (f : Nat) (s : K.St) (acc l : List K.At) (s' : K.St), K.attrsF f s acc = .ok (l, s') → ∃ m, l = acc ++ m ∧ RisesA s.2 m ∧ Goes s s'
  | 0, s, acc, l, s', h => by
    unfold K.attrsF at h
    simp only [Except.ok.injEq, Prod.mk.injEq] at h
    obtain ⟨rfl, rfl⟩ := h
    exact ⟨[], (List.append_nil _).symm, trivial, Goes.refl _⟩
  | f + 1, s, acc, l, s', h => by
    unfold K.attrsF at h
    split at h
    · simp only [Except.ok.injEq, Prod.mk.injEq] at h
      obtain ⟨rfl, rfl⟩ := h
      exact ⟨[], (List.append_nil _).symm, trivial, goes_skip _ _⟩
    · rename_i hn
      have hlt := blanks_lt (fun h0 => hn (.inl h0))
      cases hq : K.attr1 (K.blanks s) with
      | error e => rw [hq] at h; cases h
      | ok q =>
        obtain ⟨a, s1⟩ := q
        rw [hq] at h
        obtain ⟨g1, g2, g3, g4⟩ := attr1_goes hq
        obtain ⟨m, e1, e2, e3⟩ := attrsF_rises f s1 _ _ _ h
        have hb : plt s.2 (K.blanks s).2 := (goes_skip s _).lt hlt
        refine ⟨a :: m, by rw [e1, List.append_assoc]; rfl, ⟨by rw [g3]; exact hb, g2, e2.mono ?_⟩, ((goes_skip s _).trans g1).trans e3⟩
        rw [g3]
        exact g1.le
theorem attrs_rises {s s' : K.St} {l : List K.At} (h : K.attrs s = .ok (l, s')) : RisesA s.2 l ∧ Goes s s' := by
  obtain ⟨m, e1, e2, e3⟩ := attrsF_rises _ _ _ _ _ h
  simp only [List.nil_append] at e1
  subst e1
  exact ⟨e2, e3⟩
theorem wordsF_goes : ∀ (f : Nat) (s : K.St) (acc m : List Nat) (s' : K.St), K.wordsF f s acc = .ok (m, s') → Goes s s'
  | 0, s, acc, m, s', h => by
    unfold K.wordsF at h
    simp only [Except.ok.injEq, Prod.mk.injEq] at h
    rw [← h.2]
    exact Goes.refl _
  | f + 1, ([], p), acc, m, s', h => by
    unfold K.wordsF at h
    simp only [Except.ok.injEq, Prod.mk.injEq] at h
    rw [← h.2]
    exact Goes.refl _
  | f + 1, (c :: r, p), acc, m, s', h => by
    unfold K.wordsF at h
    split at h
    · simp only [Except.ok.injEq, Prod.mk.injEq] at h
      rw [← h.2]
      exact Goes.refl _
    · split at h
      · cases h
      · split at h
        · cases hr : K.reference (c :: r, p) with
          | error e => rw [hr] at h; cases h
          | ok q =>
            obtain ⟨d, s1⟩ := q
            rw [hr] at h
            exact (ref_goes hr).trans (wordsF_goes f s1 _ _ _ h)
        · exact (goes_one c r p).trans (wordsF_goes f _ _ _ _ h)
theorem words_goes {s s' : K.St} {m : List Nat} (h : K.words s = .ok (m, s')) : Goes s s' := wordsF_goes _ _ _ _ _ h
theorem instruction_goes {s s1 : K.St} (h : K.instruction s = .ok s1) : Goes s s1 := by
  unfold K.instruction at h
  cases hn : K.name (K.skip s 2) with
  | error e => rw [hn] at h; cases h
  | ok q =>
    obtain ⟨n, s2⟩ := q
    rw [hn] at h
    simp only at h
    have h1 := (goes_skip s 2).trans (name_goes hn)
    split at h
    · cases h
    · split at h
      · exact h1.trans (want_goes h)
      · cases hu : K.upTo [63, 62] (K.blanks s2) with
        | error e => rw [hu] at h; cases h
        | ok q =>
          obtain ⟨m, s3⟩ := q
          rw [hu] at h
          simp only [Except.ok.injEq] at h
          rw [← h]
          exact (h1.trans (goes_skip _ _)).trans (upTo_goes hu)
theorem comment_goes {s s1 : K.St} (h : K.comment s = .ok s1) : Goes s s1 := by
  unfold K.comment at h
  split at h
  · cases h
  · split at h
    · cases h
    · exact ((goes_skip s 4).trans (goes_skip _ _)).trans (want_goes h)
theorem section_goes {s s1 : K.St} {m : List Nat} (h : K.section_ s = .ok (m, s1)) : Goes s s1 := (goes_skip s 9).trans (upTo_goes h)
/-- A token that is as the chapter has it. -/
structure TokGood (t : K.Tk) : Prop where
  kind : t.kind = 1 ∨ t.kind = 2 ∨ t.kind = 3
  text : t.kind = 3 ↔ t.text ≠ []
  name : t.kind = 3 ↔ t.name = []
  bare : t.kind ≠ 1 → t.attrs = [] ∧ t.empty = false
  rises : RisesA t.place t.attrs
theorem endTag_good {s s1 : K.St} {k : K.Tk} (h : K.endTag s = .ok (k, s1)) : TokGood k ∧ k.place = s.2 ∧ k.kind ≠ 3 ∧ Goes s s1 := by
  unfold K.endTag at h
  cases hn : K.name (K.skip s 2) with
  | error e => rw [hn] at h; cases h
  | ok q =>
    obtain ⟨n, s2⟩ := q
    rw [hn] at h
    simp only at h
    obtain ⟨n1, n2⟩ := name_some hn
    cases hw : K.want [62] (K.blanks s2) with
    | error e => rw [hw] at h; cases h
    | ok s3 =>
      rw [hw] at h
      simp only [Except.ok.injEq, Prod.mk.injEq] at h
      obtain ⟨rfl, rfl⟩ := h
      exact ⟨⟨.inr (.inl rfl), by simp, by simp [n1], fun _ => ⟨rfl, rfl⟩, trivial⟩, rfl, by simp, (((goes_skip s 2).trans (name_goes hn)).trans (goes_skip _ _)).trans (want_goes hw)⟩
theorem startTag_good {s s1 : K.St} {k : K.Tk} (h : K.startTag s = .ok (k, s1)) : TokGood k ∧ k.place = s.2 ∧ k.kind ≠ 3 ∧ Goes s s1 := by
  unfold K.startTag at h
  cases hn : K.name (K.skip s 1) with
  | error e => rw [hn] at h; cases h
  | ok q =>
    obtain ⟨n, s2⟩ := q
    rw [hn] at h
    simp only at h
    obtain ⟨n1, n2⟩ := name_some hn
    have g1 := (goes_skip s 1).trans (name_goes hn)
    cases ha : K.attrs s2 with
    | error e => rw [ha] at h; cases h
    | ok q =>
      obtain ⟨l, s3⟩ := q
      rw [ha] at h
      simp only at h
      obtain ⟨r1, r2⟩ := attrs_rises ha
      cases hw : K.want [62] (if K.sees [47] s3 then K.skip s3 1 else s3) with
      | error e => rw [hw] at h; cases h
      | ok s4 =>
        rw [hw] at h
        simp only [Except.ok.injEq, Prod.mk.injEq] at h
        obtain ⟨rfl, rfl⟩ := h
        have g3 : Goes s3 (if K.sees [47] s3 then K.skip s3 1 else s3) := by
          split
          · exact goes_skip _ _
          · exact Goes.refl _
        exact ⟨⟨.inl rfl, by simp, by simp [n1], fun h => absurd rfl h, r1.mono g1.le⟩, rfl, by simp, ((g1.trans r2).trans g3).trans (want_goes hw)⟩
/-- Tokens whose places rise, no text beside a text. -/
structure Rises (l : List K.Tk) : Prop where
  good : ∀ (i : Nat) t, l[i]? = some t → TokGood t
  next : ∀ (i : Nat) a b, l[i]? = some a → l[i + 1]? = some b → plt a.place b.place ∧ ¬ (a.kind = 3 ∧ b.kind = 3)
theorem Rises.nil : Rises [] := ⟨fun i t h => by simp at h, fun i a b h => by simp at h⟩
theorem Rises.snoc {l : List K.Tk} (h : Rises l) {k : K.Tk} (hk : TokGood k) (hl : ∀ a, l.getLast? = some a → plt a.place k.place ∧ ¬ (a.kind = 3 ∧ k.kind = 3)) : Rises (l ++ [k]) := by
  refine ⟨fun i t hi => ?_, fun i a b ha hb => ?_⟩
  · rcases Nat.lt_or_ge i l.length with hlt | hge
    · rw [List.getElem?_append_left hlt] at hi
      exact h.good i t hi
    · rw [List.getElem?_append_right hge] at hi
      have : i - l.length = 0 := by
        rcases Nat.eq_zero_or_pos (i - l.length) with h0 | h0
        · exact h0
        · rw [List.getElem?_eq_none (by simp; omega)] at hi; cases hi
      rw [this] at hi
      simp at hi
      rw [← hi]
      exact hk
  · rcases Nat.lt_or_ge (i + 1) l.length with hlt | hge
    · rw [List.getElem?_append_left (by omega)] at ha
      rw [List.getElem?_append_left hlt] at hb
      exact h.next i a b ha hb
    · have hi1 : i + 1 = l.length := by
        rcases Nat.lt_or_ge l.length (i + 1) with h0 | h0
        · rw [List.getElem?_eq_none (by simp; omega)] at hb; cases hb
        · omega
      rw [hi1, List.getElem?_append_right (Nat.le_refl _)] at hb
      simp at hb
      rw [List.getElem?_append_left (by omega)] at ha
      have hla : l.getLast? = some a := by
        rw [List.getLast?_eq_getElem?, show l.length - 1 = i by omega]
        exact ha
      rw [← hb]
      exact hl a hla
/-- What the reader has told so far. -/
structure Sofar (s : K.St) (t : K.Told) : Prop where
  rises : Rises t.toks
  last : ∀ a, t.toks.getLast? = some a → plt a.place s.2 ∧ a.kind ≠ 3 ∧ (t.text ≠ [] → plt a.place t.place)
  text : t.text ≠ [] → plt t.place s.2
theorem Sofar.goes {s s1 : K.St} {t : K.Told} (h : Sofar s t) (g : Goes s s1) : Sofar s1 t :=
  ⟨h.rises, fun a ha => ⟨plt_ple (h.last a ha).1 g.le, (h.last a ha).2⟩, fun ht => plt_ple (h.text ht) g.le⟩
theorem Sofar.say {s s1 : K.St} {t : K.Told} (h : Sofar s t) (g : Goes s s1) (hl : s1.1.length < s.1.length) (x : List Nat) : Sofar s1 (K.say t x s.2) := by
  refine ⟨h.rises, fun a ha => ?_, fun ht => ?_⟩
  · obtain ⟨h1, h2, h3⟩ := h.last a ha
    refine ⟨h1.trans (g.lt hl), h2, fun _ => ?_⟩
    unfold K.say
    simp only
    split
    · exact h1
    · rename_i hn
      exact h3 hn
  · unfold K.say
    simp only
    split
    · exact g.lt hl
    · rename_i hn
      exact (h.text hn).trans (g.lt hl)
theorem Sofar.ended {s : K.St} {t : K.Told} (h : Sofar s t) : Rises (K.endText t) ∧ ∀ a, (K.endText t).getLast? = some a → plt a.place s.2 := by
  unfold K.endText
  split
  · exact ⟨h.rises, fun a ha => (h.last a ha).1⟩
  · rename_i hn
    refine ⟨h.rises.snoc ⟨.inr (.inr rfl), by simp [hn], by simp, fun _ => ⟨rfl, rfl⟩, trivial⟩ (fun a ha => ?_), fun a ha => ?_⟩
    · obtain ⟨h1, h2, h3⟩ := h.last a ha
      exact ⟨h3 hn, fun e => h2 e.1⟩
    · simp at ha
      rw [← ha]
      exact h.text hn
theorem Sofar.tag {s s1 : K.St} {t : K.Told} (h : Sofar s t) (g : Goes s s1) (hl : s1.1.length < s.1.length) {k : K.Tk} (hk : TokGood k) (hp : k.place = s.2) (h3 : k.kind ≠ 3) : Sofar s1 (K.tag t k) := by
  obtain ⟨e1, e2⟩ := h.ended
  refine ⟨e1.snoc hk (fun a ha => ⟨by rw [hp]; exact e2 a ha, fun e => h3 e.2⟩), fun a ha => ?_, fun ht => absurd rfl ht⟩
  unfold K.tag at ha
  simp at ha
  rw [← ha]
  exact ⟨by rw [hp]; exact g.lt hl, h3, fun ht => absurd rfl ht⟩
theorem Sofar.part {c : Nat} {r : List Nat} {p : K.Pl} {t t1 : K.Told} {s1 : K.St} (h : Sofar (c :: r, p) t) (hp : K.part (c :: r, p) t = .ok (t1, s1)) : Sofar s1 t1 := by
  have hs : 0 < (c :: r, p).1.length := by simp
  rw [part_eq] at hp
  split at hp
  · have ht := onS_ok hp
    rw [ht] at hp
    simp only [onS, Except.ok.injEq, Prod.mk.injEq] at hp
    rw [← hp.1]
    exact h.goes (instruction_goes ht)
  · split at hp
    · have ht := onS_ok hp
      rw [ht] at hp
      simp only [onS, Except.ok.injEq, Prod.mk.injEq] at hp
      rw [← hp.1]
      exact h.goes (comment_goes ht)
    · split at hp
      · obtain ⟨m, hm⟩ := onM_ok hp
        rw [hm] at hp
        simp only [onM, Except.ok.injEq, Prod.mk.injEq] at hp
        rw [← hp.1]
        exact h.say (section_goes hm) (section_lt hm hs) m
      · split at hp
        · cases hp
        · split at hp
          · cases hp
          · split at hp
            · obtain ⟨k, hk⟩ := onT_ok hp
              rw [hk] at hp
              simp only [onT, Except.ok.injEq, Prod.mk.injEq] at hp
              rw [← hp.1]
              obtain ⟨g1, g2, g3, g4⟩ := endTag_good hk
              exact h.tag g4 (endTag_lt hk hs) g1 g2 g3
            · split at hp
              · obtain ⟨k, hk⟩ := onT_ok hp
                rw [hk] at hp
                simp only [onT, Except.ok.injEq, Prod.mk.injEq] at hp
                rw [← hp.1]
                obtain ⟨g1, g2, g3, g4⟩ := startTag_good hk
                exact h.tag g4 (startTag_lt hk hs) g1 g2 g3
              · rename_i h60
                obtain ⟨m, hm⟩ := onM_ok hp
                rw [hm] at hp
                simp only [onM, Except.ok.injEq, Prod.mk.injEq] at hp
                rw [← hp.1]
                refine h.say (words_goes hm) ?_ m
                have := words_lt (by rintro rfl; exact h60 rfl) hm
                simp only [List.length_cons]
                omega
theorem DF_rises : ∀ (n : Nat) (s : K.St), s.1.length ≤ n → ∀ (t : K.Told) (l : List K.Tk), DF s t = .ok l → Sofar s t → Rises l
  | n, ([], p), _, t, l, h, hs => by
    rw [DF_nil] at h
    simp only [Except.ok.injEq] at h
    rw [← h]
    exact hs.ended.1
  | 0, (c :: r, p), hn, _, _, _, _ => by simp at hn
  | n + 1, (c :: r, p), hn, t, l, h, hs => by
    cases hp : K.part (c :: r, p) t with
    | error e => rw [DF_err hp] at h; cases h
    | ok q =>
      obtain ⟨t1, s1⟩ := q
      rw [DF_ok hp] at h
      have := part_lt hp
      exact DF_rises n s1 (by simp only [List.length_cons] at hn; omega) t1 l h (hs.part hp)
/-- The places of a document's tokens rise. -/
theorem tokens_rise {d : List UInt8} {l : List K.Tk} (h : K.tokens d = .ok l) : Rises l := by
  rw [tokens_eq] at h
  split at h
  · cases h
  · split at h
    · cases h
    · rename_i cs _
      have h0 : ∀ s, Sofar s t0 := fun s => ⟨Rises.nil, fun a ha => by simp at ha, fun ht => absurd rfl ht⟩
      rw [document_eq] at h
      split at h
      · split at h
        · cases h
        · exact DF_rises _ _ (Nat.le_refl _) _ _ h (h0 _)
      · exact DF_rises _ _ (Nat.le_refl _) _ _ h (h0 _)
end Go.Proofs.YtdilngjolhmjnaaGreatDoor
