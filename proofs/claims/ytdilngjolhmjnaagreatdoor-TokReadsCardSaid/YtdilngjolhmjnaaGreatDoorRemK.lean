/- What each part of a document eats: it answers alike whatever stands behind what it eats, but for places. Plain facts. No conditions but those that each fact names. -/
import Derived.Test.YtdilngjolhmjnaaGreatDoorTextsQ
namespace Go.Proofs.YtdilngjolhmjnaaGreatDoor
open Go.RowKit Go.Shelf
set_option linter.all false

def stA (a : K.At) : K.At := (a.1, a.2.1, (0, 0))
/-- A token without places. -/
def stT (t : K.Tk) : K.Tk := ⟨t.kind, t.name, t.attrs.map stA, t.text, (0, 0), t.empty⟩

theorem takeWhile_stop {α : Type} (p : α → Bool) (c : α) (hc : p c = false) : ∀ (u r : List α), (∀ x ∈ u, p x = true) → (u ++ c :: r).takeWhile p = u
  | [], r, _ => by simp [List.takeWhile, hc]
  | a :: u, r, h => by
    rw [List.cons_append, List.takeWhile_cons, if_pos (h a List.mem_cons_self), takeWhile_stop p c hc u r (fun x hx => h x (List.mem_cons_of_mem _ hx))]
theorem takeWhile_mem {α : Type} (p : α → Bool) : ∀ (l : List α), ∀ x ∈ l.takeWhile p, p x = true
  | [], x, h => by simp at h
  | a :: l, x, h => by
    rw [List.takeWhile_cons] at h
    split at h
    · rename_i ha
      rcases List.mem_cons.1 h with rfl | h
      · exact ha
      · exact takeWhile_mem p l x h
    · simp at h
theorem takeWhile_split {α : Type} (p : α → Bool) : ∀ (l : List α), ∃ r, l = l.takeWhile p ++ r ∧ ∀ c r', r = c :: r' → p c = false
  | [] => ⟨[], rfl, fun c r' h => by cases h⟩
  | a :: l => by
    rw [List.takeWhile_cons]
    split
    · obtain ⟨r, h1, h2⟩ := takeWhile_split p l
      exact ⟨r, by rw [List.cons_append, ← h1], h2⟩
    · rename_i ha
      exact ⟨a :: l, rfl, fun c r' h => by cases h; simpa using ha⟩

theorem blank_no {c : Nat} (h : K.blank c = true) : c ≠ 60 ∧ c ≠ 62 := by
  unfold K.blank at h
  simp at h
  omega
theorem goes_no {c : Nat} (h : K.goes c = true) : c ≠ 60 ∧ c ≠ 62 := by
  unfold K.goes K.begins at h
  simp at h
  omega
theorem begins_no {c : Nat} (h : K.begins c = true) : c ≠ 33 ∧ c ≠ 63 ∧ c ≠ 47 ∧ c ≠ 60 ∧ c ≠ 62 := by
  unfold K.begins at h
  simp at h
  omega
theorem skip_app (u r : List Nat) (p : K.Pl) : K.skip (u ++ r, p) u.length = (r, K.advs p u) := by
  unfold K.skip
  simp
theorem head_app {α : Type} {s s' : List α} (h : s'.head? = s.head?) : ∀ u : List α, (u ++ s').head? = (u ++ s).head?
  | [] => h
  | a :: u => rfl
theorem ne_head {α : Type} {s s' : List α} (h : s'.head? = s.head?) (hs : s ≠ []) : ∃ c r r', s = c :: r ∧ s' = c :: r' := by
  cases s with
  | nil => exact absurd rfl hs
  | cons c r =>
    cases s' with
    | nil => cases h
    | cons d r' => simp only [List.head?_cons, Option.some.injEq] at h; subst h; exact ⟨d, r, r', rfl, rfl⟩
/-- Blanks are eaten up to what isn't one. -/
theorem blanks_pk {l s : List Nat} {p q : K.Pl} (h : K.blanks (l, p) = (s, q)) (hs : s ≠ []) : ∃ u, l = u ++ s ∧ (∀ x ∈ u, K.blank x = true) ∧ K.nblank (l, p) = u.length ∧
    ∀ s' p', s'.head? = s.head? → K.nblank (u ++ s', p') = u.length ∧ K.blanks (u ++ s', p') = (s', K.advs p' u) := by
  obtain ⟨s0, h1, h2⟩ := takeWhile_split K.blank l
  have hm := takeWhile_mem K.blank l
  have hn : K.nblank (l, p) = (l.takeWhile K.blank).length := rfl
  obtain ⟨u, hu⟩ : ∃ u, l.takeWhile K.blank = u := ⟨_, rfl⟩
  rw [hu] at h1 hm hn
  have h0 : s0 = s := by
    unfold K.blanks at h
    rw [hn] at h
    subst h1
    rw [skip_app] at h
    exact (Prod.mk.inj h).1
  subst h0
  refine ⟨u, h1, hm, hn, fun s' p' hh => ?_⟩
  obtain ⟨c, r, r', rfl, rfl⟩ := ne_head hh hs
  have h3 : K.nblank (u ++ c :: r', p') = u.length := congrArg List.length (takeWhile_stop K.blank c (h2 c r rfl) u r' hm)
  refine ⟨h3, ?_⟩
  unfold K.blanks
  rw [h3, skip_app]
/-- A name is eaten up to what doesn't go on one. -/
theorem name_pk {l s n : List Nat} {p q : K.Pl} (h : K.name (l, p) = .ok (n, (s, q))) (hs : s ≠ []) : ∃ b u, l = b :: (u ++ s) ∧ n = b :: u ∧ K.begins b = true ∧ (∀ x ∈ b :: u, K.goes x = true) ∧
    ∀ s' p', s'.head? = s.head? → K.name (b :: (u ++ s'), p') = .ok (n, (s', K.advs p' (b :: u))) := by
  unfold K.name at h
  split at h
  · rename_i hb
    split at h
    · cases h
    · rename_i h64
      simp only [Except.ok.injEq, Prod.mk.injEq] at h
      obtain ⟨h1, h2⟩ := h
      obtain ⟨s0, h3, h4⟩ := takeWhile_split K.goes l
      have hm := takeWhile_mem K.goes l
      have hw : (l, p).1.takeWhile K.goes = l.takeWhile K.goes := rfl
      rw [hw] at h64 h2
      obtain ⟨w, hw2⟩ : ∃ w, l.takeWhile K.goes = w := ⟨_, rfl⟩
      rw [hw2] at h1 h2 h3 hm h64
      subst h3
      rw [skip_app] at h2
      obtain ⟨rfl, rfl⟩ := Prod.mk.inj h2
      subst h1
      cases w with
      | nil =>
        exfalso
        obtain ⟨c, r, r', rfl, _⟩ := ne_head (s := s0) rfl hs
        have hg : K.goes c = false := h4 c r rfl
        have hb' : K.begins c = true := hb
        unfold K.goes at hg
        rw [hb'] at hg
        simp at hg
      | cons b u =>
        have hb' : K.begins b = true := hb
        refine ⟨b, u, rfl, rfl, hb', hm, fun s' p' hh => ?_⟩
        obtain ⟨c, r, r', rfl, rfl⟩ := ne_head hh hs
        have ht : (b :: (u ++ c :: r')).takeWhile K.goes = b :: u := takeWhile_stop K.goes c (h4 c r rfl) (b :: u) r' hm
        unfold K.name
        simp only
        rw [if_pos (show K.beginsS (b :: (u ++ c :: r'), p') = true from hb'), ht, if_neg h64]
        have := skip_app (b :: u) (c :: r') p'
        rw [List.cons_append] at this
        rw [this]
  · cases h
theorem want_cl {t l r : List Nat} {p q : K.Pl} (h : K.want t (l, p) = .ok (r, q)) : l = t ++ r ∧ ∀ r' p', K.want t (t ++ r', p') = .ok (r', K.advs p' t) := by
  unfold K.want at h
  split at h
  · rename_i hs
    have hp : t <+: l := List.isPrefixOf_iff_prefix.1 hs
    obtain ⟨s, rfl⟩ := hp
    rw [skip_app] at h
    simp only [Except.ok.injEq, Prod.mk.injEq] at h
    obtain ⟨rfl, rfl⟩ := h
    refine ⟨rfl, fun r' p' => ?_⟩
    unfold K.want
    rw [if_pos (show K.sees t (t ++ r', p') = true from List.isPrefixOf_iff_prefix.2 ⟨r', rfl⟩), skip_app]
  · cases h
theorem digit_no {base c d : Nat} (h : K.digit base c = some d) : c ≠ 60 ∧ c ≠ 62 := by
  unfold K.digit at h
  split at h
  · omega
  · split at h
    · omega
    · split at h
      · omega
      · cases h
theorem numF_no (base : Nat) : ∀ (l : List Nat) (v x : Nat), K.numF base l v = some x → ∀ c ∈ l, c ≠ 60 ∧ c ≠ 62
  | [], _, _, _, c, hc => by simp at hc
  | a :: l, v, x, h, c, hc => by
    unfold K.numF at h
    split at h
    · cases h
    · rename_i d hd
      rcases List.mem_cons.1 hc with rfl | hc
      · exact digit_no hd
      · exact numF_no base l _ x h c hc
theorem numIn_no {base : Nat} {l : List Nat} {x : Nat} (h : K.numIn base l = some x) : ∀ c ∈ l, c ≠ 60 ∧ c ≠ 62 := by
  unfold K.numIn at h
  split at h
  · cases h
  · split at h
    · cases h
    · rename_i v hv
      exact numF_no base l 0 v hv
theorem meant_no {B : List Nat} {x : Nat} (h : K.meant B = some x) : ∀ c ∈ B, c ≠ 60 ∧ c ≠ 62 := by
  unfold K.meant at h
  split at h
  · rename_i e; subst e; decide
  split at h
  · rename_i e; subst e; decide
  split at h
  · rename_i e; subst e; decide
  split at h
  · rename_i e; subst e; decide
  split at h
  · rename_i e; subst e; decide
  split at h
  · rename_i ds _ _ _ _ _
    have hds : ∀ c ∈ ds, c ≠ 60 ∧ c ≠ 62 := by
      unfold K.numOf at h
      split at h
      · rename_i r
        intro c hc
        rcases List.mem_cons.1 hc with rfl | hc
        · decide
        · exact numIn_no h c hc
      · exact numIn_no h
    intro c hc
    rcases List.mem_cons.1 hc with rfl | hc
    · decide
    · exact hds c hc
  · cases h
/-- A reference is eaten up to its end. -/
theorem ref_cl {l r : List Nat} {p q : K.Pl} {d : Nat} (h : K.reference (38 :: l, p) = .ok (d, (r, q))) : ∃ u, l = u ++ r ∧ (∀ x ∈ u, x ≠ 60 ∧ x ≠ 62) ∧
    ∀ r' p', ∃ q', K.reference (38 :: (u ++ r'), p') = .ok (d, (r', q')) := by
  have h0 := h
  unfold K.reference at h
  rw [show (38 :: l, p).1.tail = l from rfl] at h
  split at h
  · rename_i c n hr
    unfold K.refOf at hr
    split at hr
    · cases hr
    · rename_i hlen
      obtain ⟨s, h3, h4⟩ := takeWhile_split (fun c : Nat => c != 59) l
      have hm := takeWhile_mem (fun c : Nat => c != 59) l
      obtain ⟨B, hB⟩ : ∃ B, l.takeWhile (fun c : Nat => c != 59) = B := ⟨_, rfl⟩
      rw [hB] at hr hlen h3 hm
      cases s with
      | nil => rw [List.append_nil] at h3; exact absurd (by rw [h3]) hlen
      | cons e s =>
        have he : e = 59 := by have := h4 e s rfl; simpa using this
        subst he h3
        split at hr
        · cases hr
        · rename_i x hx
          have hb := ref_body B s x p hm hx
          rw [h0] at hb
          simp only [Except.ok.injEq, Prod.mk.injEq] at hb
          obtain ⟨rfl, rfl, _⟩ := hb
          refine ⟨B ++ [59], by simp, ?_, fun r' p' => ⟨K.advs p' (38 :: (B ++ [59])), ?_⟩⟩
          · intro y hy
            rcases List.mem_append.1 hy with hy | hy
            · exact meant_no hx y hy
            · simp only [List.mem_singleton] at hy; subst hy; decide
          · have := ref_body B r' d p' hm hx
            rw [← this]
            simp
  · cases h
theorem valueF_cl (m : Nat) (hm : m ≠ 60) : ∀ (f : Nat) (l : List Nat) (p : K.Pl) (acc v r : List Nat) (q : K.Pl), K.valueF m f (l, p) acc = .ok (v, (r, q)) → ∃ u, l = u ++ r ∧ (∀ x ∈ u, x ≠ 60) ∧
    ∀ f' r' p', u.length ≤ f' → ∃ q', K.valueF m f' (u ++ r', p') acc = .ok (v, (r', q'))
  | 0, _, _, _, _, _, _, h => by unfold K.valueF at h; cases h
  | f + 1, [], _, _, _, _, _, h => by unfold K.valueF at h; cases h
  | f + 1, c :: l, p, acc, v, r, q, h => by
    unfold K.valueF at h
    by_cases hc : c = m
    · rw [if_pos hc] at h
      simp only [Except.ok.injEq, Prod.mk.injEq] at h
      obtain ⟨rfl, rfl, _⟩ := h
      refine ⟨[c], rfl, fun x hx => by simp only [List.mem_singleton] at hx; rw [hx, hc]; exact hm, fun f' r' p' hf => ?_⟩
      obtain ⟨k, rfl⟩ : ∃ k, f' = k + 1 := ⟨f' - 1, by simp at hf; omega⟩
      exact ⟨K.adv p' c, by show K.valueF m (k + 1) (c :: r', p') acc = _; unfold K.valueF; rw [if_pos hc]⟩
    · rw [if_neg hc] at h
      by_cases h38 : c = 38
      · rw [if_pos h38] at h
        subst h38
        cases hr : K.reference (38 :: l, p) with
        | error e => rw [hr] at h; cases h
        | ok z =>
          obtain ⟨d, l2, p2⟩ := z
          rw [hr] at h
          simp only at h
          obtain ⟨u1, rfl, hu1, hl1⟩ := ref_cl hr
          obtain ⟨u2, rfl, hu2, hl2⟩ := valueF_cl m hm f l2 p2 _ v r q h
          refine ⟨38 :: (u1 ++ u2), by simp, ?_, fun f' r' p' hf => ?_⟩
          · intro x hx
            rcases List.mem_cons.1 hx with rfl | hx
            · decide
            · rcases List.mem_append.1 hx with hx | hx
              · exact (hu1 x hx).1
              · exact hu2 x hx
          · obtain ⟨k, rfl⟩ : ∃ k, f' = k + 1 := ⟨f' - 1, by simp at hf; omega⟩
            obtain ⟨q1, e1⟩ := hl1 (u2 ++ r') p'
            obtain ⟨q2, e2⟩ := hl2 k r' q1 (by simp at hf; omega)
            refine ⟨q2, ?_⟩
            show K.valueF m (k + 1) (38 :: (u1 ++ u2 ++ r'), p') acc = _
            unfold K.valueF
            rw [if_neg hc, if_pos rfl, List.append_assoc, e1]
            exact e2
      · rw [if_neg h38] at h
        by_cases h60 : c = 60
        · rw [if_pos h60] at h; cases h
        · rw [if_neg h60] at h
          obtain ⟨u2, rfl, hu2, hl2⟩ := valueF_cl m hm f l _ _ v r q h
          refine ⟨c :: u2, rfl, ?_, fun f' r' p' hf => ?_⟩
          · intro x hx
            rcases List.mem_cons.1 hx with rfl | hx
            · exact h60
            · exact hu2 x hx
          · obtain ⟨k, rfl⟩ : ∃ k, f' = k + 1 := ⟨f' - 1, by simp at hf; omega⟩
            obtain ⟨q2, e2⟩ := hl2 k r' (K.adv p' c) (by simp at hf; omega)
            refine ⟨q2, ?_⟩
            show K.valueF m (k + 1) (c :: (u2 ++ r'), p') acc = _
            unfold K.valueF
            rw [if_neg hc, if_neg h38, if_neg h60]
            exact e2
theorem value_cl {l v r : List Nat} {p q : K.Pl} (h : K.value (l, p) = .ok (v, (r, q))) : ∃ b u, l = b :: (u ++ r) ∧ (∀ x ∈ b :: u, x ≠ 60) ∧ (b = 34 ∨ b = 39) ∧
    ∀ r' p', ∃ q', K.value (b :: (u ++ r'), p') = .ok (v, (r', q')) := by
  unfold K.value at h
  cases l with
  | nil => cases h
  | cons b l =>
    simp only at h
    split at h
    · rename_i hb
      obtain ⟨u, rfl, hu, hl⟩ := valueF_cl b (by omega) _ _ _ _ _ _ _ h
      refine ⟨b, u, rfl, ?_, hb, fun r' p' => ?_⟩
      · intro x hx
        rcases List.mem_cons.1 hx with rfl | hx
        · omega
        · exact hu x hx
      · obtain ⟨q', e⟩ := hl ((u ++ r').length + 1) r' (K.adv p' b) (by simp; omega)
        refine ⟨q', ?_⟩
        unfold K.value
        simp only
        rw [if_pos hb]
        exact e
    · cases h
theorem ne_nil_app {α : Type} {u s : List α} (h : s ≠ []) : u ++ s ≠ [] := by
  intro e
  exact h (List.append_eq_nil_iff.1 e).2
theorem beginsS_head {s s' : List Nat} (h : s'.head? = s.head?) (p p' : K.Pl) : K.beginsS (s', p') = K.beginsS (s, p) := by
  cases s <;> cases s' <;> simp_all [K.beginsS]
/-- Blanks and a sign behind them. -/
theorem bw_cl {x : Nat} {l r : List Nat} {p q : K.Pl} (h : K.want [x] (K.blanks (l, p)) = .ok (r, q)) : ∃ u, l = u ++ x :: r ∧ (∀ y ∈ u, K.blank y = true) ∧ ∀ r' p', ∃ q', K.want [x] (K.blanks (u ++ x :: r', p')) = .ok (r', q') := by
  obtain ⟨lb, pb, hb⟩ : ∃ lb pb, K.blanks (l, p) = (lb, pb) := ⟨_, _, rfl⟩
  rw [hb] at h
  obtain ⟨rfl, hw⟩ := want_cl h
  obtain ⟨u, rfl, hu, _, hk⟩ := blanks_pk hb (by simp)
  refine ⟨u, rfl, hu, fun r' p' => ?_⟩
  obtain ⟨_, e⟩ := hk ([x] ++ r') p' rfl
  exact ⟨_, by rw [show u ++ x :: r' = u ++ ([x] ++ r') from rfl, e]; exact hw r' _⟩
theorem attr1_cl {l r : List Nat} {a : K.At} {p q : K.Pl} (h : K.attr1 (l, p) = .ok (a, (r, q))) : ∃ b u, l = b :: (u ++ r) ∧ (∀ x ∈ b :: u, x ≠ 60) ∧ K.begins b = true ∧
    ∀ r' p', ∃ a' q', K.attr1 (b :: (u ++ r'), p') = .ok (a', (r', q')) ∧ stA a' = stA a := by
  unfold K.attr1 at h
  cases hn : K.name (l, p) with
  | error e => rw [hn] at h; cases h
  | ok z =>
    obtain ⟨n, l1, p1⟩ := z
    rw [hn] at h
    simp only at h
    cases hw : K.want [61] (K.blanks (l1, p1)) with
    | error e => rw [hw] at h; cases h
    | ok s2 =>
      obtain ⟨l2, p2⟩ := s2
      rw [hw] at h
      simp only at h
      cases hv : K.value (K.blanks (l2, p2)) with
      | error e => rw [hv] at h; cases h
      | ok z =>
        obtain ⟨v, l3, p3⟩ := z
        rw [hv] at h
        simp only [Except.ok.injEq, Prod.mk.injEq] at h
        obtain ⟨rfl, rfl, rfl⟩ := h
        obtain ⟨lb, pb, hb⟩ : ∃ lb pb, K.blanks (l2, p2) = (lb, pb) := ⟨_, _, rfl⟩
        rw [hb] at hv
        obtain ⟨c, uv, rfl, huv, _, hkv⟩ := value_cl hv
        obtain ⟨ub, rfl, hub, _, hkb⟩ := blanks_pk hb (by simp)
        obtain ⟨uw, rfl, huw, hkw⟩ := bw_cl hw
        obtain ⟨b, un, rfl, rfl, hbeg, hgo, hkn⟩ := name_pk hn (ne_nil_app (by simp))
        refine ⟨b, un ++ (uw ++ 61 :: (ub ++ c :: uv)), by simp, ?_, hbeg, fun r' p' => ?_⟩
        · intro x hx
          rw [← List.cons_append] at hx
          rcases List.mem_append.1 hx with hx | hx
          · exact (goes_no (hgo x hx)).1
          rcases List.mem_append.1 hx with hx | hx
          · exact (blank_no (huw x hx)).1
          rcases List.mem_cons.1 hx with rfl | hx
          · decide
          rcases List.mem_append.1 hx with hx | hx
          · exact (blank_no (hub x hx)).1
          · exact huv x hx
        · have e1 := hkn (uw ++ 61 :: (ub ++ c :: (uv ++ r'))) p' (head_app (by rfl) uw)
          obtain ⟨q2, e2⟩ := hkw (ub ++ c :: (uv ++ r')) (K.advs p' (b :: un))
          obtain ⟨_, e3⟩ := hkb (c :: (uv ++ r')) q2 rfl
          obtain ⟨q4, e4⟩ := hkv r' (K.advs q2 ub)
          refine ⟨(b :: un, v, p'), q4, ?_, rfl⟩
          have hl : b :: (un ++ (uw ++ 61 :: (ub ++ c :: uv)) ++ r') = b :: (un ++ (uw ++ 61 :: (ub ++ c :: (uv ++ r')))) := by simp
          rw [hl]
          unfold K.attr1
          rw [e1]
          simp only
          rw [e2]
          simp only
          rw [e3, e4]
theorem attrsF_pk : ∀ (f : Nat) (l : List Nat) (p : K.Pl) (acc al : List K.At) (s : List Nat) (q : K.Pl), l.length < f → K.attrsF f (l, p) acc = .ok (al, (s, q)) → s ≠ [] → ∃ u, l = u ++ s ∧ (∀ x ∈ u, x ≠ 60) ∧
    ∀ f' s' p' acc', s'.head? = s.head? → u.length < f' → acc'.map stA = acc.map stA → ∃ al' q', K.attrsF f' (u ++ s', p') acc' = .ok (al', (s', q')) ∧ al'.map stA = al.map stA
  | 0, l, _, _, _, _, _, hf, _, _ => by omega
  | f + 1, l, p, acc, al, s, q, hf, h, hs => by
    unfold K.attrsF at h
    obtain ⟨lb, pb, hb⟩ : ∃ lb pb, K.blanks (l, p) = (lb, pb) := ⟨_, _, rfl⟩
    rw [hb] at h
    by_cases hc : K.nblank (l, p) = 0 ∨ ¬ K.beginsS (lb, pb) = true
    · rw [if_pos hc] at h
      simp only [Except.ok.injEq, Prod.mk.injEq] at h
      obtain ⟨rfl, rfl, rfl⟩ := h
      obtain ⟨u, rfl, hu, hn, hk⟩ := blanks_pk hb hs
      refine ⟨u, rfl, fun x hx => (blank_no (hu x hx)).1, fun f' s' p' acc' hh hf' ha => ?_⟩
      obtain ⟨k, rfl⟩ : ∃ k, f' = k + 1 := ⟨f' - 1, by omega⟩
      obtain ⟨e1, e2⟩ := hk s' p' hh
      refine ⟨acc', K.advs p' u, ?_, ha⟩
      unfold K.attrsF
      rw [e1, e2, if_pos (by rw [beginsS_head hh pb, ← hn]; exact hc)]
    · rw [if_neg hc] at h
      cases ha1 : K.attr1 (lb, pb) with
      | error e => rw [ha1] at h; cases h
      | ok z =>
        obtain ⟨a, l1, p1⟩ := z
        rw [ha1] at h
        simp only at h
        obtain ⟨b, ua, rfl, hua, hbeg, hka⟩ := attr1_cl ha1
        obtain ⟨ub, rfl, hub, hn, hkb⟩ := blanks_pk hb (by simp)
        obtain ⟨u2, rfl, hu2, hk2⟩ := attrsF_pk f l1 p1 _ al s q (by simp at hf; omega) h hs
        refine ⟨ub ++ b :: (ua ++ u2), by simp, ?_, fun f' s' p' acc' hh hf' ha => ?_⟩
        · intro x hx
          rcases List.mem_append.1 hx with hx | hx
          · exact (blank_no (hub x hx)).1
          rw [← List.cons_append] at hx
          rcases List.mem_append.1 hx with hx | hx
          · exact hua x hx
          · exact hu2 x hx
        · obtain ⟨k, rfl⟩ : ∃ k, f' = k + 1 := ⟨f' - 1, by omega⟩
          have hl : ub ++ b :: (ua ++ u2) ++ s' = ub ++ b :: (ua ++ (u2 ++ s')) := by simp
          rw [hl]
          obtain ⟨e1, e2⟩ := hkb (b :: (ua ++ (u2 ++ s'))) p' rfl
          obtain ⟨a', q3, e3, he3⟩ := hka (u2 ++ s') (K.advs p' ub)
          obtain ⟨al', q4, e4, he4⟩ := hk2 k s' q3 (acc' ++ [a']) hh (by simp at hf'; omega) (by rw [List.map_append, List.map_append, ha]; simp [he3])
          refine ⟨al', q4, ?_, he4⟩
          unfold K.attrsF
          rw [e1, e2, if_neg, e3]
          · exact e4
          · rintro (h0 | h0)
            · exact hc (.inl (by rw [hn]; exact h0))
            · exact h0 hbeg
theorem attrs_pk {l s : List Nat} {p q : K.Pl} {al : List K.At} (h : K.attrs (l, p) = .ok (al, (s, q))) (hs : s ≠ []) : ∃ u, l = u ++ s ∧ (∀ x ∈ u, x ≠ 60) ∧
    ∀ s' p', s'.head? = s.head? → ∃ al' q', K.attrs (u ++ s', p') = .ok (al', (s', q')) ∧ al'.map stA = al.map stA := by
  obtain ⟨u, h1, h2, h3⟩ := attrsF_pk _ l p [] al s q (Nat.lt_succ_self _) h hs
  exact ⟨u, h1, h2, fun s' p' hh => h3 _ s' p' [] hh (by simp; omega) rfl⟩
/-- A start tag is eaten up to its end. -/
theorem startTag_cl {l r : List Nat} {k : K.Tk} {p q : K.Pl} (h : K.startTag (60 :: l, p) = .ok (k, (r, q))) : ∃ b u, l = b :: (u ++ r) ∧ (∀ x ∈ b :: u, x ≠ 60) ∧ K.begins b = true ∧
    ∀ r' p', ∃ k' q', K.startTag (60 :: b :: (u ++ r'), p') = .ok (k', (r', q')) ∧ stT k' = stT k := by
  unfold K.startTag at h
  rw [K.skip_one] at h
  cases hn : K.name (l, K.adv p 60) with
  | error e => rw [hn] at h; cases h
  | ok z =>
    obtain ⟨n, l1, p1⟩ := z
    rw [hn] at h
    simp only at h
    cases ha : K.attrs (l1, p1) with
    | error e => rw [ha] at h; cases h
    | ok z =>
      obtain ⟨al, l2, p2⟩ := z
      rw [ha] at h
      simp only at h
      cases hw : K.want [62] (if K.sees [47] (l2, p2) = true then K.skip (l2, p2) 1 else (l2, p2)) with
      | error e => rw [hw] at h; cases h
      | ok z =>
        obtain ⟨l3, p3⟩ := z
        rw [hw] at h
        simp only [Except.ok.injEq, Prod.mk.injEq] at h
        obtain ⟨rfl, rfl, rfl⟩ := h
        obtain ⟨w, hl2, hw60, hww⟩ : ∃ w, l2 = w ++ l3 ∧ (w ≠ [] ∧ ∀ x ∈ w, x ≠ 60) ∧ ∀ r' p', K.sees [47] (w ++ r', p') = K.sees [47] (l2, p2) ∧ (w ++ r').head? = l2.head? ∧
            ∃ q', K.want [62] (if K.sees [47] (w ++ r', p') = true then K.skip (w ++ r', p') 1 else (w ++ r', p')) = .ok (r', q') := by
          by_cases hsee : K.sees [47] (l2, p2) = true
          · rw [if_pos hsee] at hw
            have hp : [47] <+: l2 := List.isPrefixOf_iff_prefix.1 hsee
            obtain ⟨t, rfl⟩ := hp
            have hsk : K.skip ([47] ++ t, p2) 1 = (t, K.adv p2 47) := rfl
            rw [hsk] at hw
            obtain ⟨rfl, hk⟩ := want_cl hw
            refine ⟨[47, 62], by simp, ⟨by simp, by decide⟩, fun r' p' => ⟨rfl, rfl, ?_⟩⟩
            have hs2 : K.sees [47] ([47, 62] ++ r', p') = true := rfl
            rw [if_pos hs2, show K.skip ([47, 62] ++ r', p') 1 = ([62] ++ r', K.adv p' 47) from rfl]
            exact ⟨_, hk r' _⟩
          · rw [if_neg hsee] at hw
            obtain ⟨rfl, hk⟩ := want_cl hw
            refine ⟨[62], by simp, ⟨by simp, by decide⟩, fun r' p' => ⟨rfl, rfl, ?_⟩⟩
            have hs2 : K.sees [47] ([62] ++ r', p') = false := rfl
            rw [hs2, if_neg Bool.false_ne_true]
            exact ⟨_, hk r' _⟩
        have hne2 : l2 ≠ [] := by
          rw [hl2]
          intro e
          exact hw60.1 (List.append_eq_nil_iff.1 e).1
        obtain ⟨ua, rfl, hua, hka⟩ := attrs_pk ha hne2
        obtain ⟨b, un, rfl, rfl, hbeg, hgo, hkn⟩ := name_pk hn (ne_nil_app hne2)
        refine ⟨b, un ++ (ua ++ w), by rw [hl2]; simp, ?_, hbeg, fun r' p' => ?_⟩
        · intro x hx
          rw [← List.cons_append] at hx
          rcases List.mem_append.1 hx with hx | hx
          · exact (goes_no (hgo x hx)).1
          rcases List.mem_append.1 hx with hx | hx
          · exact hua x hx
          · exact hw60.2 x hx
        · have hhead : (w ++ r').head? = l2.head? := (hww r' p').2.1
          have e1 := hkn (ua ++ (w ++ r')) (K.adv p' 60) (head_app hhead ua)
          obtain ⟨al', q2, e2, he2⟩ := hka (w ++ r') (K.advs (K.adv p' 60) (b :: un)) hhead
          obtain ⟨hs3, _, q3, e3⟩ := hww r' q2
          refine ⟨⟨1, b :: un, al', [], p', K.sees [47] (w ++ r', q2)⟩, q3, ?_, ?_⟩
          · have hl : 60 :: b :: (un ++ (ua ++ w) ++ r') = 60 :: b :: (un ++ (ua ++ (w ++ r'))) := by simp
            rw [hl]
            unfold K.startTag
            rw [K.skip_one, e1]
            simp only
            rw [e2]
            simp only
            rw [e3]
          · unfold stT
            simp only [he2, hs3]
theorem endTag_cl {l r : List Nat} {k : K.Tk} {p q : K.Pl} (h : K.endTag (60 :: 47 :: l, p) = .ok (k, (r, q))) : ∃ b u, l = b :: (u ++ r) ∧ (∀ x ∈ b :: u, x ≠ 60) ∧
    ∀ r' p', ∃ k' q', K.endTag (60 :: 47 :: b :: (u ++ r'), p') = .ok (k', (r', q')) ∧ stT k' = stT k := by
  have hsk : ∀ l p, K.skip (60 :: 47 :: l, p) 2 = (l, K.adv (K.adv p 60) 47) := fun _ _ => rfl
  unfold K.endTag at h
  rw [hsk] at h
  cases hn : K.name (l, K.adv (K.adv p 60) 47) with
  | error e => rw [hn] at h; cases h
  | ok z =>
    obtain ⟨n, l1, p1⟩ := z
    rw [hn] at h
    simp only at h
    cases hw : K.want [62] (K.blanks (l1, p1)) with
    | error e => rw [hw] at h; cases h
    | ok z =>
      obtain ⟨l2, p2⟩ := z
      rw [hw] at h
      simp only [Except.ok.injEq, Prod.mk.injEq] at h
      obtain ⟨rfl, rfl, rfl⟩ := h
      obtain ⟨uw, rfl, huw, hkw⟩ := bw_cl hw
      obtain ⟨b, un, rfl, rfl, hbeg, hgo, hkn⟩ := name_pk hn (ne_nil_app (by simp))
      refine ⟨b, un ++ (uw ++ [62]), by simp, ?_, fun r' p' => ?_⟩
      · intro x hx
        rw [← List.cons_append] at hx
        rcases List.mem_append.1 hx with hx | hx
        · exact (goes_no (hgo x hx)).1
        rcases List.mem_append.1 hx with hx | hx
        · exact (blank_no (huw x hx)).1
        · simp only [List.mem_singleton] at hx; subst hx; decide
      · have e1 := hkn (uw ++ 62 :: r') (K.adv (K.adv p' 60) 47) (head_app (by rfl) uw)
        obtain ⟨q2, e2⟩ := hkw r' (K.advs (K.adv (K.adv p' 60) 47) (b :: un))
        refine ⟨⟨2, b :: un, [], [], p', false⟩, q2, ?_, rfl⟩
        have hl : 60 :: 47 :: b :: (un ++ (uw ++ [62]) ++ r') = 60 :: 47 :: b :: (un ++ (uw ++ 62 :: r')) := by simp
        rw [hl]
        unfold K.endTag
        rw [hsk, e1]
        simp only
        rw [e2]
def Stop60 (s : List Nat) : Prop := s = [] ∨ s.head? = some 60
theorem wordsF_cl : ∀ (f : Nat) (l : List Nat) (p : K.Pl) (acc m s : List Nat) (q : K.Pl), l.length < f → K.wordsF f (l, p) acc = .ok (m, (s, q)) → ∃ u x, l = u ++ s ∧ (∀ y ∈ u, y ≠ 60) ∧ Stop60 s ∧ m = acc ++ x ∧
    ∀ f' s' p' acc', Stop60 s' → u.length < f' → ∃ q', K.wordsF f' (u ++ s', p') acc' = .ok (acc' ++ x, (s', q'))
  | 0, l, _, _, _, _, _, hf, _ => by omega
  | f + 1, [], p, acc, m, s, q, hf, h => by
    unfold K.wordsF at h
    simp only [Except.ok.injEq, Prod.mk.injEq] at h
    obtain ⟨rfl, rfl, rfl⟩ := h
    refine ⟨[], [], rfl, by simp, .inl rfl, by simp, fun f' s' p' acc' hs hf' => ?_⟩
    obtain ⟨k, rfl⟩ : ∃ k, f' = k + 1 := ⟨f' - 1, by omega⟩
    refine ⟨p', ?_⟩
    rcases hs with rfl | hs
    · show K.wordsF (k + 1) ([], p') acc' = _
      unfold K.wordsF
      simp
    · cases s' with
      | nil => cases hs
      | cons d s' =>
        simp only [List.head?_cons, Option.some.injEq] at hs
        subst hs
        show K.wordsF (k + 1) (60 :: s', p') acc' = _
        unfold K.wordsF
        rw [if_pos rfl]
        simp
  | f + 1, c :: l, p, acc, m, s, q, hf, h => by
    unfold K.wordsF at h
    by_cases h60 : c = 60
    · rw [if_pos h60] at h
      subst h60
      simp only [Except.ok.injEq, Prod.mk.injEq] at h
      obtain ⟨rfl, rfl, rfl⟩ := h
      refine ⟨[], [], rfl, by simp, .inr rfl, by simp, fun f' s' p' acc' hs hf' => ?_⟩
      obtain ⟨k, rfl⟩ : ∃ k, f' = k + 1 := ⟨f' - 1, by omega⟩
      refine ⟨p', ?_⟩
      rcases hs with rfl | hs
      · show K.wordsF (k + 1) ([], p') acc' = _
        unfold K.wordsF
        simp
      · cases s' with
        | nil => cases hs
        | cons d s' =>
          simp only [List.head?_cons, Option.some.injEq] at hs
          subst hs
          show K.wordsF (k + 1) (60 :: s', p') acc' = _
          unfold K.wordsF
          rw [if_pos rfl]
          simp
    · rw [if_neg h60] at h
      by_cases hsee : K.sees [93, 93, 62] (c :: l, p) = true
      · rw [if_pos hsee] at h; cases h
      · rw [if_neg hsee] at h
        by_cases h38 : c = 38
        · rw [if_pos h38] at h
          subst h38
          cases hr : K.reference (38 :: l, p) with
          | error e => rw [hr] at h; cases h
          | ok z =>
            obtain ⟨d, l2, p2⟩ := z
            rw [hr] at h
            simp only at h
            obtain ⟨u1, rfl, hu1, hl1⟩ := ref_cl hr
            obtain ⟨u2, x, rfl, hu2, hst, rfl, hl2⟩ := wordsF_cl f l2 p2 _ m s q (by simp at hf; omega) h
            refine ⟨38 :: (u1 ++ u2), d :: x, by simp, ?_, hst, by simp, fun f' s' p' acc' hs hf' => ?_⟩
            · intro y hy
              rcases List.mem_cons.1 hy with rfl | hy
              · decide
              · rcases List.mem_append.1 hy with hy | hy
                · exact (hu1 y hy).1
                · exact hu2 y hy
            · obtain ⟨k, rfl⟩ : ∃ k, f' = k + 1 := ⟨f' - 1, by omega⟩
              obtain ⟨q1, e1⟩ := hl1 (u2 ++ s') p'
              obtain ⟨q2, e2⟩ := hl2 k s' q1 (acc' ++ [d]) hs (by simp at hf'; omega)
              refine ⟨q2, ?_⟩
              show K.wordsF (k + 1) (38 :: (u1 ++ u2 ++ s'), p') acc' = _
              unfold K.wordsF
              rw [if_neg (by decide), if_neg (by unfold K.sees; simp [List.isPrefixOf]), if_pos rfl, List.append_assoc, e1]
              simp only
              rw [e2]
              simp
        · rw [if_neg h38] at h
          obtain ⟨u2, x, rfl, hu2, hst, rfl, hl2⟩ := wordsF_cl f l _ _ m s q (by simp at hf; omega) h
          refine ⟨c :: u2, c :: x, rfl, ?_, hst, by simp, fun f' s' p' acc' hs hf' => ?_⟩
          · intro y hy
            rcases List.mem_cons.1 hy with rfl | hy
            · exact h60
            · exact hu2 y hy
          · obtain ⟨k, rfl⟩ : ∃ k, f' = k + 1 := ⟨f' - 1, by omega⟩
            obtain ⟨q2, e2⟩ := hl2 k s' (K.adv p' c) (acc' ++ [c]) hs (by simp at hf'; omega)
            refine ⟨q2, ?_⟩
            have hstops : ∀ t, Stop60 t → Stops t := by
              intro t ht y hy
              rcases ht with rfl | ht
              · cases hy
              · rw [ht] at hy; exact .inl (Option.some.inj hy).symm
            have hno : ¬ K.sees [93, 93, 62] (c :: (u2 ++ s'), p') = true := by
              intro e
              apply hsee
              have e1 : ([93, 93, 62] : List Nat).isPrefixOf ((c :: u2) ++ s') = true := e
              rw [cross _ _ (hstops _ hs)] at e1
              show ([93, 93, 62] : List Nat).isPrefixOf ((c :: u2) ++ s) = true
              rw [cross _ _ (hstops _ hst)]
              exact e1
            show K.wordsF (k + 1) (c :: (u2 ++ s'), p') acc' = _
            unfold K.wordsF
            rw [if_neg h60, if_neg hno, if_neg h38, e2]
            simp
theorem words_cl {l m s : List Nat} {p q : K.Pl} (h : K.words (l, p) = .ok (m, (s, q))) : ∃ u, l = u ++ s ∧ (∀ y ∈ u, y ≠ 60) ∧ Stop60 s ∧ ∀ s' p', Stop60 s' → ∃ q', K.words (u ++ s', p') = .ok (m, (s', q')) := by
  obtain ⟨u, x, h1, h2, h3, h4, h5⟩ := wordsF_cl _ l p [] m s q (Nat.lt_succ_self _) h
  refine ⟨u, h1, h2, h3, fun s' p' hs => ?_⟩
  obtain ⟨q', e⟩ := h5 ((u ++ s').length + 1) s' p' [] hs (by simp; omega)
  exact ⟨q', by rw [h4]; exact e⟩

theorem pre_app : ∀ (t a x : List Nat), t.length ≤ a.length → t.isPrefixOf (a ++ x) = t.isPrefixOf a
  | [], a, x, _ => by simp [List.isPrefixOf]
  | b :: t, [], x, h => by simp at h
  | b :: t, c :: a, x, h => by
    simp only [List.cons_append, List.isPrefixOf]
    rw [pre_app t a x (by simpa using h)]
theorem idx_here {t : List Nat} (ht : t ≠ []) (r : List Nat) : K.idx t (t ++ r) = some 0 := by
  cases t with
  | nil => exact absurd rfl ht
  | cons b t =>
    have : (b :: t).isPrefixOf (b :: (t ++ r)) = true := List.isPrefixOf_iff_prefix.2 ⟨r, rfl⟩
    rw [List.cons_append]
    unfold K.idx
    rw [if_pos this]
/-- The first place doesn't hang on what stands behind. -/
theorem idx_cl {t : List Nat} (ht : t ≠ []) : ∀ (l : List Nat) (n : Nat), K.idx t l = some n → ∃ m r, l = m ++ (t ++ r) ∧ m.length = n ∧ ∀ r', K.idx t (m ++ (t ++ r')) = some n
  | [], n, h => by unfold K.idx at h; cases h
  | c :: l, n, h => by
    unfold K.idx at h
    split at h
    · rename_i hp
      have hp : t <+: c :: l := List.isPrefixOf_iff_prefix.1 hp
      obtain ⟨r, hr⟩ := hp
      simp only [Option.some.injEq] at h
      subst h
      exact ⟨[], r, hr.symm, rfl, fun r' => idx_here ht r'⟩
    · rename_i hp
      cases hi : K.idx t l with
      | none => rw [hi] at h; cases h
      | some k =>
        rw [hi] at h
        simp only [Option.map_some, Option.some.injEq] at h
        subst h
        obtain ⟨m, r, rfl, rfl, hk⟩ := idx_cl ht l k hi
        refine ⟨c :: m, r, rfl, rfl, fun r' => ?_⟩
        have hno : ¬ t.isPrefixOf (c :: (m ++ (t ++ r'))) = true := by
          intro e
          apply hp
          have e1 : t.isPrefixOf ((c :: (m ++ t)) ++ r') = true := by simpa using e
          rw [pre_app _ _ _ (by simp; omega)] at e1
          have e2 : t.isPrefixOf ((c :: (m ++ t)) ++ r) = true := by rw [pre_app _ _ _ (by simp; omega)]; exact e1
          simpa using e2
        rw [List.cons_append]
        unfold K.idx
        rw [if_neg hno, hk r']
        rfl
theorem upTo_cl {t m l r : List Nat} (ht : t ≠ []) {p q : K.Pl} (h : K.upTo t (l, p) = .ok (m, (r, q))) : l = m ++ (t ++ r) ∧ ∀ r' p', ∃ q', K.upTo t (m ++ (t ++ r'), p') = .ok (m, (r', q')) := by
  unfold K.upTo at h
  cases hi : K.idx t l with
  | none => simp only [hi] at h; cases h
  | some n =>
    simp only [hi] at h
    obtain ⟨a, b, rfl, rfl, hk⟩ := idx_cl ht l n hi
    have go : ∀ r p, K.skip (a ++ (t ++ r), p) (a.length + t.length) = (r, K.advs p (a ++ t)) := by
      intro r p
      have := skip_app (a ++ t) r p
      rw [List.append_assoc, List.length_append] at this
      exact this
    rw [go] at h
    simp only [List.take_left, Except.ok.injEq, Prod.mk.injEq] at h
    obtain ⟨rfl, rfl, rfl⟩ := h
    refine ⟨rfl, fun r' p' => ⟨K.advs p' (a ++ t), ?_⟩⟩
    unfold K.upTo
    simp only [hk r', go, List.take_left]
/-- What stands in marks is eaten up to its last mark. -/
theorem instruction_cl {l r : List Nat} {p q : K.Pl} (h : K.instruction (60 :: 63 :: l, p) = .ok (r, q)) : ∃ u, l = u ++ 62 :: r ∧ ∀ r' p', ∃ q', K.instruction (60 :: 63 :: (u ++ 62 :: r'), p') = .ok (r', q') := by
  have hsk : ∀ l p, K.skip (60 :: 63 :: l, p) 2 = (l, K.adv (K.adv p 60) 63) := fun _ _ => rfl
  unfold K.instruction at h
  rw [hsk] at h
  cases hn : K.name (l, K.adv (K.adv p 60) 63) with
  | error e => rw [hn] at h; cases h
  | ok z =>
    obtain ⟨n, l1, p1⟩ := z
    rw [hn] at h
    simp only at h
    split at h
    · cases h
    · rename_i hx
      split at h
      · rename_i h0
        obtain ⟨rfl, hk⟩ := want_cl h
        obtain ⟨b, un, rfl, rfl, hbeg, hgo, hkn⟩ := name_pk hn (by simp)
        refine ⟨b :: (un ++ [63]), by simp, fun r' p' => ?_⟩
        have e1 := hkn ([63, 62] ++ r') (K.adv (K.adv p' 60) 63) rfl
        refine ⟨K.advs (K.advs (K.adv (K.adv p' 60) 63) (b :: un)) [63, 62], ?_⟩
        have hl : 60 :: 63 :: (b :: (un ++ [63]) ++ 62 :: r') = 60 :: 63 :: b :: (un ++ ([63, 62] ++ r')) := by simp
        rw [hl]
        unfold K.instruction
        rw [hsk, e1]
        simp only
        rw [if_neg hx, if_pos (show K.nblank ([63, 62] ++ r', K.advs (K.adv (K.adv p' 60) 63) (b :: un)) = 0 from rfl)]
        exact hk r' _
      · rename_i h0
        obtain ⟨lb, pb, hb⟩ : ∃ lb pb, K.blanks (l1, p1) = (lb, pb) := ⟨_, _, rfl⟩
        rw [hb] at h
        cases hu : K.upTo [63, 62] (lb, pb) with
        | error e => rw [hu] at h; cases h
        | ok z =>
          obtain ⟨m, l2, p2⟩ := z
          rw [hu] at h
          simp only [Except.ok.injEq, Prod.mk.injEq] at h
          obtain ⟨rfl, rfl⟩ := h
          obtain ⟨rfl, hk⟩ := upTo_cl (by simp) hu
          have hne : m ++ ([63, 62] ++ l2) ≠ [] := ne_nil_app (by simp)
          obtain ⟨ub, rfl, hub, hnb, hkb⟩ := blanks_pk hb hne
          obtain ⟨b, un, rfl, rfl, hbeg, hgo, hkn⟩ := name_pk hn (ne_nil_app hne)
          refine ⟨b :: (un ++ (ub ++ (m ++ [63]))), by simp, fun r' p' => ?_⟩
          have hh : (m ++ ([63, 62] ++ r')).head? = (m ++ ([63, 62] ++ l2)).head? := head_app (by rfl) m
          have e1 := hkn (ub ++ (m ++ ([63, 62] ++ r'))) (K.adv (K.adv p' 60) 63) (head_app hh ub)
          obtain ⟨e2, e3⟩ := hkb (m ++ ([63, 62] ++ r')) (K.advs (K.adv (K.adv p' 60) 63) (b :: un)) hh
          obtain ⟨q4, e4⟩ := hk r' (K.advs (K.advs (K.adv (K.adv p' 60) 63) (b :: un)) ub)
          refine ⟨q4, ?_⟩
          have hl : 60 :: 63 :: (b :: (un ++ (ub ++ (m ++ [63]))) ++ 62 :: r') = 60 :: 63 :: b :: (un ++ (ub ++ (m ++ ([63, 62] ++ r')))) := by simp
          rw [hl]
          unfold K.instruction
          rw [hsk, e1]
          simp only
          rw [if_neg hx, if_neg (by rw [e2, ← hnb]; exact h0), e3, e4]
theorem comment_cl {l r : List Nat} {p q : K.Pl} (h : K.comment (60 :: 33 :: 45 :: 45 :: l, p) = .ok (r, q)) : ∃ u, l = u ++ 62 :: r ∧ ∀ r' p', ∃ q', K.comment (60 :: 33 :: 45 :: 45 :: (u ++ 62 :: r'), p') = .ok (r', q') := by
  have hsk : ∀ (m x : List Nat) p, K.skip (K.skip (60 :: 33 :: 45 :: 45 :: (m ++ x), p) 4) m.length = (x, K.advs (K.advs p [60, 33, 45, 45]) m) := fun m x p => skip_app m x _
  unfold K.comment at h
  rw [show (60 :: 33 :: 45 :: 45 :: l, p).1.drop 4 = l from rfl] at h
  cases hi : K.idx [45, 45] l with
  | none => simp only [hi] at h; cases h
  | some n =>
    simp only [hi] at h
    obtain ⟨m, x, rfl, rfl, hk⟩ := idx_cl (by simp) l n hi
    split at h
    · cases h
    · rw [hsk] at h
      obtain ⟨hx, hw⟩ := want_cl h
      have hx : x = 62 :: r := by simpa using hx
      subst hx
      refine ⟨m ++ [45, 45], by simp, fun r' p' => ⟨K.advs (K.advs (K.advs p' [60, 33, 45, 45]) m) [45, 45, 62], ?_⟩⟩
      have hl : 60 :: 33 :: 45 :: 45 :: (m ++ [45, 45] ++ 62 :: r') = 60 :: 33 :: 45 :: 45 :: (m ++ ([45, 45] ++ 62 :: r')) := by simp
      rw [hl]
      unfold K.comment
      rw [show (60 :: 33 :: 45 :: 45 :: (m ++ ([45, 45] ++ 62 :: r')), p').1.drop 4 = m ++ ([45, 45] ++ 62 :: r') from rfl]
      simp only [hk]
      rw [if_neg (by simp; omega), hsk]
      exact hw r' _
theorem section_cl {l m r : List Nat} {p q : K.Pl} (h : K.section_ (60 :: 33 :: 91 :: 67 :: 68 :: 65 :: 84 :: 65 :: 91 :: l, p) = .ok (m, (r, q))) : ∃ u, l = u ++ 62 :: r ∧ ∀ r' p', ∃ q', K.section_ (60 :: 33 :: 91 :: 67 :: 68 :: 65 :: 84 :: 65 :: 91 :: (u ++ 62 :: r'), p') = .ok (m, (r', q')) := by
  have hsk : ∀ (x : List Nat) p, K.skip (60 :: 33 :: 91 :: 67 :: 68 :: 65 :: 84 :: 65 :: 91 :: x, p) 9 = (x, K.advs p [60, 33, 91, 67, 68, 65, 84, 65, 91]) := fun _ _ => rfl
  unfold K.section_ at h
  rw [hsk] at h
  obtain ⟨rfl, hk⟩ := upTo_cl (by simp) h
  refine ⟨m ++ [93, 93], by simp, fun r' p' => ?_⟩
  obtain ⟨q', e⟩ := hk r' (K.advs p' [60, 33, 91, 67, 68, 65, 84, 65, 91])
  refine ⟨q', ?_⟩
  unfold K.section_
  rw [hsk]
  rw [← e]
  simp
end Go.Proofs.YtdilngjolhmjnaaGreatDoor
