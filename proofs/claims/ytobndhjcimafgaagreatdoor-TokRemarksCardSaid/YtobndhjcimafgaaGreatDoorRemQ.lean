/- What the law TokRemarks builds of a document, byte by byte, and its tokens. Plain facts. No conditions but those that each fact names. -/
import Derived.Test.YtobndhjcimafgaaGreatDoorRemP
namespace Go.Proofs.YtobndhjcimafgaaGreatDoor
open Go.RowKit Go.Shelf
set_option linter.all false

theorem noEnc_st (l : List K.At) : K.noEnc (l.map stA) = (K.noEnc l).map stA := by
  match l with
  | [] => rfl
  | (n, v, p) :: r =>
    show K.noEnc ((n, v, (0, 0)) :: r.map stA) = (K.noEnc ((n, v, p) :: r)).map stA
    unfold K.noEnc
    simp only
    split
    · rfl
    · rfl
theorem noAlone_st (l : List K.At) : K.noAlone (l.map stA) = (K.noAlone l).map stA := by
  match l with
  | [] => rfl
  | (n, v, p) :: r =>
    show K.noAlone ((n, v, (0, 0)) :: r.map stA) = (K.noAlone ((n, v, p) :: r)).map stA
    unfold K.noAlone
    simp only
    split
    · rfl
    · rfl
theorem declared_st (l : List K.At) : K.declared (l.map stA) = K.declared l := by
  match l with
  | [] => rfl
  | (n, v, p) :: r =>
    show K.declared ((n, v, (0, 0)) :: r.map stA) = K.declared ((n, v, p) :: r)
    unfold K.declared
    simp only
    rw [noEnc_st, noAlone_st]
    congr 1
    simp
theorem declared_like {l m : List K.At} (h : m.map stA = l.map stA) : K.declared m = K.declared l := by rw [← declared_st m, h, declared_st]
theorem declaration_cl {l r : List Nat} {p q : K.Pl} (h : K.declaration (60 :: 63 :: 120 :: 109 :: 108 :: l, p) = .ok (r, q)) : ∃ u, l = u ++ 62 :: r ∧ ∀ r' p', ∃ q', K.declaration (60 :: 63 :: 120 :: 109 :: 108 :: (u ++ 62 :: r'), p') = .ok (r', q') := by
  have hsk : ∀ l p, K.skip (60 :: 63 :: 120 :: 109 :: 108 :: l, p) 5 = (l, K.advs p [60, 63, 120, 109, 108]) := fun _ _ => rfl
  rw [declaration_eq, hsk] at h
  cases ha : K.attrs (l, K.advs p [60, 63, 120, 109, 108]) with
  | error e => rw [ha] at h; cases h
  | ok z =>
    obtain ⟨al, l1, p1⟩ := z
    rw [ha] at h
    simp only at h
    split at h
    · rename_i hc
      rw [Bool.and_eq_true] at hc
      obtain ⟨hd, hs⟩ := hc
      obtain ⟨x, rfl⟩ := sees_two hs
      have hx : K.skip ([63, 62] ++ x, p1) 2 = (x, K.advs p1 [63, 62]) := rfl
      rw [hx] at h
      simp only [Except.ok.injEq, Prod.mk.injEq] at h
      obtain ⟨rfl, _⟩ := h
      obtain ⟨u, rfl, _, hk⟩ := attrs_pk ha (by simp)
      refine ⟨u ++ [63], by simp, fun r' p' => ?_⟩
      obtain ⟨al', q', e, he⟩ := hk ([63, 62] ++ r') (K.advs p' [60, 63, 120, 109, 108]) rfl
      refine ⟨K.advs q' [63, 62], ?_⟩
      have hl : 60 :: 63 :: 120 :: 109 :: 108 :: (u ++ [63] ++ 62 :: r') = 60 :: 63 :: 120 :: 109 :: 108 :: (u ++ ([63, 62] ++ r')) := by simp
      rw [hl, declaration_eq, hsk, e]
      simp only
      rw [declared_like he, hd, sees_app]
      rfl
    · cases h
theorem declares_two {l : List Nat} {p : K.Pl} (h : K.declares (l, p) = true) : ∃ c r, l = 60 :: 63 :: 120 :: 109 :: 108 :: c :: r ∧ K.blank c = true := by
  unfold K.declares at h
  rw [Bool.and_eq_true] at h
  obtain ⟨h1, h2⟩ := h
  obtain ⟨x, rfl⟩ := sees_two h1
  rw [show (K.kXmlDecl ++ x, p).1.drop 5 = x from rfl] at h2
  cases x with
  | nil => cases h2
  | cons c r => exact ⟨c, r, rfl, h2⟩
theorem declares_mk {c : Nat} (r : List Nat) (p : K.Pl) (h : K.blank c = true) : K.declares (60 :: 63 :: 120 :: 109 :: 108 :: c :: r, p) = true := h
theorem rkN_cons {b : Bool} {r X : List Nat} {x : Nat} (hb : b = true) (h : rkN b r = x :: X) : ∃ r', r = x :: r' ∧ X = rkN (decide (x ≠ 62)) r' := by
  subst hb
  cases r with
  | nil => cases h
  | cons c r =>
    rw [rkN] at h
    obtain ⟨rfl, rfl⟩ := List.cons.inj h
    exact ⟨r, rfl, rfl⟩
/-- It begins with a declaration where the document did. -/
theorem declares_rk {l : List Nat} {p p' : K.Pl} (h : K.declares (rkN false l, p) = true) : K.declares (l, p') = true := by
  obtain ⟨c, r, hr, hc⟩ := declares_two h
  cases l with
  | nil => cases hr
  | cons a l =>
    rw [rkN] at hr
    split at hr
    · rename_i ha
      subst ha
      split at hr
      · obtain ⟨_, h1⟩ := List.cons.inj hr
        obtain ⟨r1, rfl, h2⟩ := rkN_cons rfl h1
        obtain ⟨r2, rfl, h3⟩ := rkN_cons (by decide) h2.symm
        obtain ⟨r3, rfl, h4⟩ := rkN_cons (by decide) h3.symm
        obtain ⟨r4, rfl, h5⟩ := rkN_cons (by decide) h4.symm
        obtain ⟨r5, rfl, h6⟩ := rkN_cons (by decide) h5.symm
        exact declares_mk _ _ hc
      · cases hr
    · rename_i ha
      exact absurd (List.cons.inj hr).1 ha
theorem doc_rk {cs : List Nat} {L : List K.Tk} (h : K.document cs = .ok L) (hck : ∀ a ∈ cks false cs, ∃ L0, K.document a = .ok L0) : ∃ L', K.document (rkN false cs) = .ok L' ∧ L'.map stT = L.map stT := by
  by_cases hd : K.declares (cs, (1, 1)) = true
  · rw [document_eq, if_pos hd] at h
    obtain ⟨c, l, rfl, hc⟩ := declares_two hd
    cases hdc : K.declaration (60 :: 63 :: 120 :: 109 :: 108 :: c :: l, (1, 1)) with
    | error e => rw [hdc] at h; cases h
    | ok z =>
      obtain ⟨r, q⟩ := z
      rw [hdc] at h
      simp only at h
      have hc62 : c ≠ 62 := (blank_no hc).2
      have h62 : 62 ∈ l := by
        obtain ⟨u, hu, _⟩ := declaration_cl hdc
        cases u with
        | nil => exact absurd (List.cons.inj hu).1 hc62
        | cons a u => rw [List.cons_append] at hu; rw [(List.cons.inj hu).2]; simp
      obtain ⟨u, r2, rfl, hu⟩ := split62 l h62
      have hu2 : ∀ x ∈ 63 :: 120 :: 109 :: 108 :: c :: u, x ≠ 62 := by
        intro x hx
        simp only [List.mem_cons] at hx
        rcases hx with rfl | rfl | rfl | rfl | rfl | hx
        · decide
        · decide
        · decide
        · decide
        · exact hc62
        · exact hu x hx
      have hbang : ∀ x, bang (63 :: x) := fun x => .inr rfl
      have hmem := cks_no62 (63 :: 120 :: 109 :: 108 :: c :: u) r2 hu2
      have hsplit : ∀ a, 60 :: ((63 :: 120 :: 109 :: 108 :: c :: u) ++ 62 :: a) = 60 :: 63 :: 120 :: 109 :: 108 :: (c :: u ++ 62 :: a) := fun _ => rfl
      obtain ⟨L0, hD⟩ := hck (60 :: ((63 :: 120 :: 109 :: 108 :: c :: u) ++ [62])) (by
        show _ ∈ cks false (60 :: ((63 :: 120 :: 109 :: 108 :: c :: u) ++ 62 :: r2))
        rw [cks, if_pos ⟨rfl, hbang _⟩]
        exact List.mem_map.2 ⟨_, hmem.1, rfl⟩)
      have hdm : ∀ x, K.declares (60 :: 63 :: 120 :: 109 :: 108 :: (c :: u ++ x), (1, 1)) = true := fun x => declares_mk (u ++ x) _ hc
      have hD : K.document (60 :: 63 :: 120 :: 109 :: 108 :: (c :: u ++ [62])) = .ok L0 := hD
      rw [document_eq, if_pos (hdm _)] at hD
      cases hda : K.declaration (60 :: 63 :: 120 :: 109 :: 108 :: (c :: u ++ [62]), (1, 1)) with
      | error e => rw [hda] at hD; cases hD
      | ok z =>
        obtain ⟨rb, qb⟩ := z
        obtain ⟨w, hw, hcl⟩ := declaration_cl hda
        have hrb : w = c :: u ∧ rb = [] := by
          rcases List.append_eq_append_iff.1 hw with ⟨z, h1, h2⟩ | ⟨z, h1, h2⟩
          · cases z with
            | nil => rw [List.append_nil] at h1; subst h1; simp at h2; exact ⟨rfl, h2⟩
            | cons a z => simp at h2
          · cases z with
            | nil => rw [List.append_nil] at h1; subst h1; simp at h2; exact ⟨rfl, h2⟩
            | cons a z =>
              exfalso
              simp only [List.cons_append, List.cons.injEq] at h2
              have : (62 : Nat) ∈ c :: u := by rw [h1, ← h2.1]; simp
              exact hu2 62 (by simp only [List.mem_cons] at this ⊢; exact .inr (.inr (.inr (.inr this)))) rfl
        obtain ⟨rfl, rfl⟩ := hrb
        obtain ⟨q3, e3⟩ := hcl r2 (1, 1)
        have hr2 : r = r2 := by
          rw [show (60 :: 63 :: 120 :: 109 :: 108 :: c :: (u ++ 62 :: r2), ((1, 1) : K.Pl)) = (60 :: 63 :: 120 :: 109 :: 108 :: (c :: u ++ 62 :: r2), (1, 1)) from rfl, e3] at hdc
          simp only [Except.ok.injEq, Prod.mk.injEq] at hdc
          exact hdc.1.symm
        subst hr2
        obtain ⟨q5, e5⟩ := hcl (rkN false r) (1, 1)
        obtain ⟨L', e6, h6⟩ := DF_rk r.length r (Nat.le_refl _) q q5 t0 t0 L ⟨rfl, rfl⟩ h (by
          intro a ha
          obtain ⟨La, hDa⟩ := hck (60 :: ((63 :: 120 :: 109 :: 108 :: c :: u) ++ 62 :: a)) (by
            show _ ∈ cks false (60 :: ((63 :: 120 :: 109 :: 108 :: c :: u) ++ 62 :: r))
            rw [cks, if_pos ⟨rfl, hbang _⟩]
            exact List.mem_map.2 ⟨_, hmem.2 a ha, rfl⟩)
          obtain ⟨q7, e7⟩ := hcl a (1, 1)
          rw [hsplit, document_eq, if_pos (hdm _), e7] at hDa
          exact ⟨_, _, _, hDa⟩)
        refine ⟨L', ?_, h6⟩
        have hrk : rkN false (60 :: 63 :: 120 :: 109 :: 108 :: c :: (u ++ 62 :: r)) = 60 :: 63 :: 120 :: 109 :: 108 :: (c :: u ++ 62 :: rkN false r) := by
          have := rkN_no62 (63 :: 120 :: 109 :: 108 :: c :: u) r hu2
          rw [rkN, if_pos rfl, if_pos (hbang _)]
          exact congrArg (60 :: ·) this
        rw [hrk, document_eq, if_pos (hdm _), e5]
        exact e6
  · rw [document_eq, if_neg hd] at h
    obtain ⟨L', e6, h6⟩ := DF_rk cs.length cs (Nat.le_refl _) (1, 1) (1, 1) t0 t0 L ⟨rfl, rfl⟩ h (by
      intro a ha
      obtain ⟨La, hDa⟩ := hck a ha
      obtain ⟨_, x, hx⟩ := cks_pre false cs a ha
      have hna : ¬ K.declares (a, (1, 1)) = true := by
        intro e
        obtain ⟨c, r, hr, hc⟩ := declares_two e
        apply hd
        rw [hx, hr]
        exact declares_mk _ _ hc
      rw [document_eq, if_neg hna] at hDa
      exact ⟨_, _, _, hDa⟩)
    refine ⟨L', ?_, h6⟩
    rw [document_eq, if_neg (fun e => hd (declares_rk e))]
    exact e6

/-- The same on bytes: what the law builds. -/
def remB : List UInt8 := [60, 33, 45, 45, 32, 60, 97, 62, 32, 45, 32, 38, 32, 45, 45, 62, 60, 63, 112, 105, 32, 60, 98, 62, 32, 63, 62]
def bangB (r : List UInt8) : Prop := r.head? = some 33 ∨ r.head? = some 63
instance (r : List UInt8) : Decidable (bangB r) := by unfold bangB; exact inferInstance
def rkB : Bool → List UInt8 → List UInt8
  | _, [] => []
  | true, c :: r => c :: rkB (decide (c ≠ 62)) r
  | false, c :: r => if c = 60 then (if bangB r then 60 :: rkB true r else remB ++ 60 :: rkB false r) else c :: rkB false r
def ckB : Bool → List UInt8 → List (List UInt8)
  | _, [] => []
  | true, c :: r => if c = 62 then [c] :: (ckB false r).map (c :: ·) else (ckB true r).map (c :: ·)
  | false, c :: r => if c = 60 ∧ bangB r then (ckB true r).map (c :: ·) else (ckB false r).map (c :: ·)
theorem ckB_pre : ∀ (b : Bool) (l a : List UInt8), a ∈ ckB b l → a ≠ [] ∧ ∃ r, l = a ++ r
  | _, [], a, h => by cases ‹Bool› <;> simp [ckB] at h
  | true, c :: l, a, h => by
    rw [ckB] at h
    split at h
    · rcases List.mem_cons.1 h with rfl | h
      · exact ⟨by simp, l, rfl⟩
      · obtain ⟨a', h', rfl⟩ := List.mem_map.1 h
        obtain ⟨_, r, rfl⟩ := ckB_pre false l a' h'
        exact ⟨by simp, r, rfl⟩
    · obtain ⟨a', h', rfl⟩ := List.mem_map.1 h
      obtain ⟨_, r, rfl⟩ := ckB_pre true l a' h'
      exact ⟨by simp, r, rfl⟩
  | false, c :: l, a, h => by
    rw [ckB] at h
    split at h
    · obtain ⟨a', h', rfl⟩ := List.mem_map.1 h
      obtain ⟨_, r, rfl⟩ := ckB_pre true l a' h'
      exact ⟨by simp, r, rfl⟩
    · obtain ⟨a', h', rfl⟩ := List.mem_map.1 h
      obtain ⟨_, r, rfl⟩ := ckB_pre false l a' h'
      exact ⟨by simp, r, rfl⟩
theorem rkB_head : ∀ (b : Bool) (l : List UInt8), (rkB b l).head? = l.head?
  | _, [] => by cases ‹Bool› <;> rfl
  | true, c :: l => by rw [rkB]; rfl
  | false, c :: l => by
    rw [rkB]
    split
    · rename_i h
      subst h
      split <;> rfl
    · rfl
theorem rkB_keep (b : Bool) : ∀ (e x : List UInt8), (∀ y ∈ e, y ≠ 60 ∧ y ≠ 62) → rkB b (e ++ x) = e ++ rkB b x ∧ ∀ q ∈ ckB b x, e ++ q ∈ ckB b (e ++ x)
  | [], x, _ => ⟨rfl, fun q hq => hq⟩
  | c :: e, x, h => by
    obtain ⟨h60, h62⟩ := h c List.mem_cons_self
    obtain ⟨h1, h2⟩ := rkB_keep b e x (fun y hy => h y (List.mem_cons_of_mem _ hy))
    cases b with
    | true =>
      rw [List.cons_append, rkB, ckB, decide_eq_true h62, if_neg h62, h1]
      exact ⟨rfl, fun q hq => List.mem_map.2 ⟨_, h2 q hq, rfl⟩⟩
    | false =>
      rw [List.cons_append, rkB, ckB, if_neg h60, if_neg (fun e => h60 e.1), h1]
      exact ⟨rfl, fun q hq => List.mem_map.2 ⟨_, h2 q hq, rfl⟩⟩
theorem rkB_length : ∀ (b : Bool) (l : List UInt8), (rkB b l).length ≤ 28 * l.length
  | _, [] => by cases ‹Bool› <;> exact Nat.zero_le _
  | true, c :: l => by
    have := rkB_length (decide (c ≠ 62)) l
    rw [rkB]
    simp only [List.length_cons]
    omega
  | false, c :: l => by
    have h1 := rkB_length true l
    have h2 := rkB_length false l
    have h3 : remB.length = 27 := rfl
    rw [rkB]
    split
    · split
      · simp only [List.length_cons]; omega
      · simp only [List.length_cons, List.length_append]; omega
    · simp only [List.length_cons]; omega
theorem u8_ne {c : Nat} (h : c < 128) {k : Nat} (hk : k < 128) (hne : c ≠ k) : UInt8.ofNat c ≠ UInt8.ofNat k := fun e => hne (K.ofNat_inj (by omega) (by omega) e)
/-- A document's next character: its bytes, which say it whatever stands behind. -/
theorem ch_step {l : List UInt8} {c n : Nat} (h0 : l ≠ []) (h : ch1 l = .ok (c, n)) : ∃ e x, l = e ++ x ∧ e.length = n ∧ e ≠ [] ∧ (c = 60 → e = [60]) ∧ (c = 62 → e = [62]) ∧ (c ≠ 60 → c ≠ 62 → ∀ y ∈ e, y ≠ 60 ∧ y ≠ 62) ∧
    (bangB l ↔ (c = 33 ∨ c = 63)) ∧ ∀ y p acc, y.head? = x.head? → CF (e ++ y) p acc = CF y (K.adv p c) (acc ++ [c]) := by
  have hx := h
  unfold ch1 at h
  split at h
  · cases h
  · rename_i hn0
    obtain ⟨c', n', hd⟩ : ∃ c' n', U.dec l = (c', n' + 1) := ⟨(U.dec l).1, (U.dec l).2 - 1, Prod.ext rfl (by simp only; omega)⟩
    obtain ⟨hs, hl, hsp⟩ := U.enc_dec l c' n' hd
    rw [hd] at h
    simp only at h
    split at h
    · rename_i h13
      subst h13
      have he : U.enc 13 = [13] := rfl
      rw [he] at hsp hl
      have hn' : n' = 0 := by simpa using hl.symm
      subst hn'
      obtain ⟨r, rfl⟩ : ∃ r, l = 13 :: r := ⟨_, hsp⟩
      simp only [Except.ok.injEq, Prod.mk.injEq] at h
      obtain ⟨rfl, hn⟩ := h
      by_cases h10 : r.head? = some 10
      · rw [if_pos (show (13 :: r).tail.head? = some 10 from h10)] at hn
        cases r with
        | nil => cases h10
        | cons a r =>
          simp only [List.head?_cons, Option.some.injEq] at h10
          subst h10
          refine ⟨[13, 10], r, rfl, hn, by simp, by simp, by simp, fun _ _ => by decide, ?_, fun y p acc _ => ?_⟩
          · constructor
            · rintro (e | e) <;> cases e
            · omega
          · have hc : ch1 (13 :: 10 :: y) = .ok (10, 2) := by
              unfold ch1
              rw [dec_13]
              rfl
            exact CF_ok (by simp) hc
      · rw [if_neg (show ¬ (13 :: r).tail.head? = some 10 from h10)] at hn
        refine ⟨[13], r, rfl, hn, by simp, by simp, by simp, fun _ _ => by decide, ?_, fun y p acc hy => ?_⟩
        · constructor
          · rintro (e | e) <;> cases e
          · omega
        · have hc : ch1 (13 :: y) = .ok (10, 1) := by
            unfold ch1
            rw [dec_13]
            rw [if_neg (by decide), if_pos rfl, if_neg (show ¬ (13 :: y).tail.head? = some 10 by rw [List.tail_cons, hy]; exact h10)]
          exact CF_ok (by simp) hc
    · rename_i h13
      split at h
      · rename_i hal
        simp only [Except.ok.injEq, Prod.mk.injEq] at h
        obtain ⟨rfl, rfl⟩ := h
        have hlow : c' < 128 → U.enc c' = [UInt8.ofNat c'] := fun h => K.enc_low h
        refine ⟨U.enc c', l.drop (n' + 1), hsp, hl, ?_, ?_, ?_, ?_, ?_, fun y p acc _ => ?_⟩
        · intro e; rw [e] at hl; simp at hl
        · rintro rfl; rfl
        · rintro rfl; rfl
        · intro h60 h62 y hy
          by_cases h128 : c' < 128
          · rw [hlow h128] at hy
            simp only [List.mem_singleton] at hy
            subst hy
            exact ⟨u8_ne h128 (by decide) h60, u8_ne h128 (by decide) h62⟩
          · have := K.enc_high_all (by omega) hs y hy
            constructor <;> (rintro rfl; revert this; decide)
        · rw [hsp]
          by_cases h128 : c' < 128
          · rw [hlow h128]
            unfold bangB
            simp only [List.cons_append, List.head?_cons, Option.some.injEq]
            constructor
            · rintro (e | e)
              · exact .inl (K.ofNat_inj (by omega) (by omega) e)
              · exact .inr (K.ofNat_inj (by omega) (by omega) e)
            · rintro (rfl | rfl)
              · exact .inl rfl
              · exact .inr rfl
          · obtain ⟨b, t, hb, hb2, _⟩ := K.enc_high (by omega) hs
            rw [hb]
            unfold bangB
            simp only [List.cons_append, List.head?_cons, Option.some.injEq]
            constructor
            · rintro (rfl | rfl)
              · exact absurd hb2 (by decide)
              · exact absurd hb2 (by decide)
            · omega
        · have := CF_n8 [c'] y p acc (by intro z hz; simp only [List.mem_singleton] at hz; subst hz; exact ⟨hs, hal⟩)
          rw [U.n8_cons, show U.n8 [] = [] from rfl, List.append_nil] at this
          exact this
      · cases h
theorem rem_ok : ∀ c ∈ rem, U.scalar c ∧ K.allowed c = true := by
  have hlit : ∀ l : List Nat, (∀ x ∈ l, x < 55296 ∧ K.allowed x = true) → ∀ x ∈ l, U.scalar x ∧ K.allowed x = true := fun l hl x hx => ⟨.inl (hl x hx).1, (hl x hx).2⟩
  exact hlit rem (by decide)
theorem rem_n8 : U.n8 rem = remB := by decide
/-- The characters of what the law builds, and of the beginnings of which it asks. -/
theorem CF_rk : ∀ (n : Nat) (l : List UInt8), l.length ≤ n → ∀ (p : K.Pl) (acc cs0 : List Nat), CF l p acc = .ok cs0 → ∃ cs, cs0 = acc ++ cs ∧ (bangB l ↔ bang cs) ∧
    (∀ b p' acc', CF (rkB b l) p' acc' = .ok (acc' ++ rkN b cs)) ∧ ∀ b, ∀ a ∈ cks b cs, ∃ q ∈ ckB b l, ∀ p' acc', CF q p' acc' = .ok (acc' ++ a)
  | n, [], _, p, acc, cs0, h => by
    rw [CF_nil] at h
    simp only [Except.ok.injEq] at h
    subst h
    refine ⟨[], by simp, ⟨(fun h => by rcases h with h | h <;> cases h), (fun h => by rcases h with h | h <;> cases h)⟩, fun b p' acc' => ?_, fun b a ha => ?_⟩
    · cases b <;> simp [rkB, rkN, CF_nil]
    · cases b <;> simp [cks] at ha
  | 0, b :: r, hn, _, _, _, _ => by simp at hn
  | n + 1, b :: r, hn, p, acc, cs0, h => by
    cases hc : ch1 (b :: r) with
    | error e => rw [CF_err (by simp) hc] at h; cases h
    | ok z =>
      obtain ⟨c, k⟩ := z
      obtain ⟨e, x, hl, hlen, hne, h60, h62, hoth, hbang, hstep⟩ := ch_step (by simp) hc
      have hxl : x.length ≤ n := by
        have := congrArg List.length hl
        simp only [List.length_append] at this
        have h1 : 0 < e.length := List.length_pos_iff.2 hne
        simp only [List.length_cons] at this hn
        omega
      rw [hl] at h hbang ⊢
      rw [hstep x p acc rfl] at h
      obtain ⟨cs, hcs, hbx, hr, hk⟩ := CF_rk n x hxl _ _ _ h
      refine ⟨c :: cs, by rw [hcs]; simp, ?_, fun d p' acc' => ?_, fun d a ha => ?_⟩
      · rw [hbang]
        unfold bang
        simp only [List.head?_cons, Option.some.injEq]
      · by_cases hc60 : c = 60
        · have he := h60 hc60
          subst hc60 he
          cases d with
          | true =>
            show CF (60 :: rkB (decide ((60 : UInt8) ≠ 62)) x) p' acc' = .ok (acc' ++ 60 :: rkN (decide ((60 : Nat) ≠ 62)) cs)
            have := hstep (rkB true x) p' acc' (rkB_head _ _)
            rw [show decide ((60 : UInt8) ≠ 62) = true by decide, show decide ((60 : Nat) ≠ 62) = true by decide]
            rw [show 60 :: rkB true x = [60] ++ rkB true x from rfl, this, hr]
            simp
          | false =>
            show CF (if (60 : UInt8) = 60 then (if bangB x then 60 :: rkB true x else remB ++ 60 :: rkB false x) else 60 :: rkB false x) p' acc' = .ok (acc' ++ (if (60 : Nat) = 60 then (if bang cs then 60 :: rkN true cs else rem ++ 60 :: rkN false cs) else 60 :: rkN false cs))
            rw [if_pos rfl, if_pos rfl]
            by_cases hbb : bangB x
            · rw [if_pos hbb, if_pos (hbx.1 hbb)]
              have := hstep (rkB true x) p' acc' (rkB_head _ _)
              rw [show 60 :: rkB true x = [60] ++ rkB true x from rfl, this, hr]
              simp
            · rw [if_neg hbb, if_neg (fun e => hbb (hbx.2 e)), ← rem_n8, CF_n8 rem _ _ _ rem_ok]
              have := hstep (rkB false x) (K.advs p' rem) (acc' ++ rem) (rkB_head _ _)
              rw [show 60 :: rkB false x = [60] ++ rkB false x from rfl, this, hr]
              simp
        · by_cases hc62 : c = 62
          · have he := h62 hc62
            subst hc62 he
            cases d with
            | true =>
              show CF (62 :: rkB (decide ((62 : UInt8) ≠ 62)) x) p' acc' = .ok (acc' ++ 62 :: rkN (decide ((62 : Nat) ≠ 62)) cs)
              have := hstep (rkB false x) p' acc' (rkB_head _ _)
              rw [show decide ((62 : UInt8) ≠ 62) = false by decide, show decide ((62 : Nat) ≠ 62) = false by decide]
              rw [show 62 :: rkB false x = [62] ++ rkB false x from rfl, this, hr]
              simp
            | false =>
              have e1 : rkB false ([62] ++ x) = [62] ++ rkB false x := by
                show (if (62 : UInt8) = 60 then _ else _) = _
                rw [if_neg (by decide)]
                rfl
              have e2 : rkN false (62 :: cs) = 62 :: rkN false cs := by rw [rkN, if_neg (by decide)]
              rw [e1, e2, hstep _ _ _ (rkB_head _ _), hr]
              simp
          · obtain ⟨e1, _⟩ := rkB_keep d e x (hoth hc60 hc62)
            have e2 : rkN d (c :: cs) = c :: rkN d cs := by
              cases d with
              | true => rw [rkN, decide_eq_true hc62]
              | false => rw [rkN, if_neg hc60]
            rw [e1, e2, hstep _ _ _ (rkB_head _ _), hr]
            simp
      · have lift : ∀ (d' : Bool) a', a' ∈ cks d' cs → (∀ q ∈ ckB d' x, e ++ q ∈ ckB d (e ++ x)) → ∃ q ∈ ckB d (e ++ x), ∀ p' acc', CF q p' acc' = .ok (acc' ++ c :: a') := by
          intro d' a' ha' hin
          obtain ⟨q, hq, hcf⟩ := hk d' a' ha'
          obtain ⟨hqne, z, hz⟩ := ckB_pre _ _ _ hq
          refine ⟨e ++ q, hin q hq, fun p' acc' => ?_⟩
          have hh : q.head? = x.head? := by
            cases q with
            | nil => exact absurd rfl hqne
            | cons a q => rw [hz]; rfl
          rw [hstep q _ _ hh, hcf]
          simp
        by_cases hc60 : c = 60
        · have he := h60 hc60
          subst hc60 he
          cases d with
          | true =>
            rw [cks, if_neg (by decide)] at ha
            obtain ⟨a', ha', rfl⟩ := List.mem_map.1 ha
            refine lift true a' ha' (fun q hq => ?_)
            show 60 :: q ∈ ckB true (60 :: x)
            rw [ckB, if_neg (by decide)]
            exact List.mem_map.2 ⟨q, hq, rfl⟩
          | false =>
            rw [cks] at ha
            by_cases hbb : bangB x
            · rw [if_pos ⟨rfl, hbx.1 hbb⟩] at ha
              obtain ⟨a', ha', rfl⟩ := List.mem_map.1 ha
              refine lift true a' ha' (fun q hq => ?_)
              show 60 :: q ∈ ckB false (60 :: x)
              rw [ckB, if_pos ⟨rfl, hbb⟩]
              exact List.mem_map.2 ⟨q, hq, rfl⟩
            · rw [if_neg (fun e => hbb (hbx.2 e.2))] at ha
              obtain ⟨a', ha', rfl⟩ := List.mem_map.1 ha
              refine lift false a' ha' (fun q hq => ?_)
              show 60 :: q ∈ ckB false (60 :: x)
              rw [ckB, if_neg (fun e => hbb e.2)]
              exact List.mem_map.2 ⟨q, hq, rfl⟩
        · by_cases hc62 : c = 62
          · have he := h62 hc62
            subst hc62 he
            cases d with
            | true =>
              rw [cks, if_pos rfl] at ha
              rcases List.mem_cons.1 ha with rfl | ha
              · refine ⟨[62], ?_, fun p' acc' => ?_⟩
                · show [62] ∈ ckB true (62 :: x)
                  rw [ckB, if_pos rfl]
                  exact List.mem_cons_self
                · exact CF_n8 [62] [] p' acc' (fun z hz => by simp only [List.mem_singleton] at hz; subst hz; exact ⟨.inl (by decide), rfl⟩)
              · obtain ⟨a', ha', rfl⟩ := List.mem_map.1 ha
                refine lift false a' ha' (fun q hq => ?_)
                show 62 :: q ∈ ckB true (62 :: x)
                rw [ckB, if_pos rfl]
                exact List.mem_cons_of_mem _ (List.mem_map.2 ⟨q, hq, rfl⟩)
            | false =>
              rw [cks, if_neg (by rintro ⟨e, _⟩; cases e)] at ha
              obtain ⟨a', ha', rfl⟩ := List.mem_map.1 ha
              refine lift false a' ha' (fun q hq => ?_)
              show 62 :: q ∈ ckB false (62 :: x)
              rw [ckB, if_neg (by rintro ⟨e, _⟩; revert e; decide)]
              exact List.mem_map.2 ⟨q, hq, rfl⟩
          · have hkeep := (rkB_keep d e x (hoth hc60 hc62)).2
            have ha2 : ∃ a', a' ∈ cks d cs ∧ a = c :: a' := by
              cases d with
              | true =>
                rw [cks, if_neg hc62] at ha
                obtain ⟨a', ha', rfl⟩ := List.mem_map.1 ha
                exact ⟨a', ha', rfl⟩
              | false =>
                rw [cks, if_neg (fun e => hc60 e.1)] at ha
                obtain ⟨a', ha', rfl⟩ := List.mem_map.1 ha
                exact ⟨a', ha', rfl⟩
            obtain ⟨a', ha', rfl⟩ := ha2
            exact lift d a' ha' hkeep
theorem same_st {L L' : List K.Tk} (h : L'.map stT = L.map stT) : SameL false L L' := by
  have hl : L.length = L'.length := by have := congrArg List.length h; simpa using this.symm
  refine ⟨hl, fun i s t hs ht => ?_⟩
  have h1 := congrArg (fun l => l[i]?) h
  simp only [List.getElem?_map, hs, ht, Option.map_some, Option.some.injEq] at h1
  unfold stT at h1
  injection h1 with a1 a2 a3 a4 a5 a6
  have hal : s.attrs.length = t.attrs.length := by have := congrArg List.length a3; simpa using this.symm
  refine ⟨a1.symm, a2.symm, a4.symm, a6.symm, hal, (fun h => by cases h), fun j a b ha hb => ?_⟩
  have h2 := congrArg (fun l => l[j]?) a3
  simp only [List.getElem?_map, ha, hb, Option.map_some, Option.some.injEq] at h2
  unfold stA at h2
  simp only [Prod.mk.injEq] at h2
  exact ⟨h2.1.symm, h2.2.1.symm, (fun h => by cases h)⟩
/-- The tokens of what the law builds. -/
theorem tokens_rk {d : List UInt8} {L : List K.Tk} (hl : d.length ≤ 2000) (h : K.tokens d = .ok L) (hck : ∀ q ∈ ckB false d, ∃ L0, K.tokens q = .ok L0) : ∃ L', K.tokens (rkB false d) = .ok L' ∧ SameL false L L' := by
  have hrl := rkB_length false d
  rw [tokens_eq, if_neg (by omega)] at h
  cases hc : CF d (1, 1) [] with
  | error e => rw [hc] at h; cases h
  | ok cs0 =>
    rw [hc] at h
    simp only at h
    obtain ⟨cs, rfl, _, h1, h2⟩ := CF_rk d.length d (Nat.le_refl _) _ _ _ hc
    obtain ⟨L', e, he⟩ := doc_rk h (by
      intro a ha
      obtain ⟨q, hq, hcf⟩ := h2 false a ha
      obtain ⟨L0, hL0⟩ := hck q hq
      obtain ⟨_, r, hr⟩ := ckB_pre false d q hq
      have hql : q.length ≤ d.length := by rw [hr]; simp
      rw [tokens_eq, if_neg (by omega), hcf (1, 1) []] at hL0
      exact ⟨L0, hL0⟩)
    refine ⟨L', ?_, same_st he⟩
    rw [tokens_eq, if_neg (by omega), h1 false (1, 1) []]
    exact e
end Go.Proofs.YtobndhjcimafgaaGreatDoor
