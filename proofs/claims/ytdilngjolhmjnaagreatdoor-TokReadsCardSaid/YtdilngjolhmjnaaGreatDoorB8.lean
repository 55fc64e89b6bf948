/- xmltok.declared tells whether a declaration's attributes are those that it may have; the reader takes a declaration. Conditions: those that each theorem names. The reader takes a declaration. Conditions: those that each theorem names. The reader goes through a document. Conditions: those that each theorem names. xmltok.newReader: the reader with the five names of characters. Conditions: those that each theorem names. -/
import Derived.Test.YtdilngjolhmjnaaGreatDoorDcl
namespace Go.Proofs.YtdilngjolhmjnaaGreatDoor
open Go.RowKit Go.Shelf
set_option linter.all false
set_option linter.unusedSimpArgs false

theorem dcl_nil (w : World) : Calls Tryz.prog 63 #[.slice none 0 0] w fun e w' => e = .returned (.bool false) ∧ Below w.heap.size w w' := by
  go_enter Tryz.func63, Tryz.ntmps63
  go_wp2
  go_ret
  exact ⟨rfl, Below.refl _ _⟩
theorem dcl_zero (g cap : Nat) (w : World) : Calls Tryz.prog 63 #[.slice (some ⟨g, 0, none⟩) 0 cap] w fun e w' => e = .returned (.bool false) ∧ Below w.heap.size w w' := by
  go_enter Tryz.func63, Tryz.ntmps63
  go_wp2
  go_ret
  exact ⟨rfl, Below.refl _ _⟩
theorem sm_version : Small K.kVersion := by unfold Small; decide
theorem sm_10 : Small K.k10 := by unfold Small; decide
theorem sm_enc : Small K.kEncoding := by unfold Small; decide
theorem sm_alone : Small K.kStandalone := by unfold Small; decide
theorem sm_yes : Small K.kYes := by unfold Small; decide
theorem sm_no : Small K.kNo := by unfold Small; decide
theorem b8_version : qVersion = K.b8 K.kVersion := by decide
theorem b8_10 : q10 = K.b8 K.k10 := by decide
theorem b8_enc : qEnc = K.b8 K.kEncoding := by decide
theorem b8_alone : qAlone = K.b8 K.kStandalone := by decide
theorem b8_yes : qYes = K.b8 K.kYes := by decide
theorem b8_no : qNo = K.b8 K.kNo := by decide
theorem utf8_noks : ∀ y ∈ [85, 84, 70, 45, 56], NoKs y := by
  intro y hy
  simp only [List.mem_cons, List.not_mem_nil, or_false] at hy
  rcases hy with rfl | rfl | rfl | rfl | rfl <;> exact ⟨by decide, by decide, by decide, by decide, by decide⟩
theorem fold_utf8 {v : List Nat} (hs : K.Sc v) (hl : v.length ≤ 65536) (w : World) (h : Low w) (h12 : 12 ≤ w.heap.size) (b : Bool) (hb : decide (v.map K.low = K.kUtf8) = b) : Fld (bs (U.n8 v)) w b := by
  have h4 := n8_len4 v
  have := fold_any v [85, 84, 70, 45, 56] hs (by omega) utf8_noks (by decide) w h h12
  subst hb
  exact this
theorem noks : True := trivial

set_option maxHeartbeats 4000000 in
theorem declared_any (l : List K.At) (n : Nat) (hn : n ≤ 65536) (hg : ∀ a ∈ l, Good n a) (hl : l.length ≤ 65536) (B : Nat) (av : Value) (w : World) (hown : w.ownsRow B 40 4 av l.length (attrCells l)) (hlow : Low w) (h12 : 12 ≤ w.heap.size) :
    Calls Tryz.prog 63 #[av] w fun e w' => e = .returned (.bool (K.declared l)) ∧ Below w.heap.size w w' := by
  have hk := hown
  obtain ⟨_, hcase⟩ := hk
  rcases hcase with ⟨rfl, h0⟩ | ⟨g, cap, cur, rfl, hB, hh, hnc, hcm, _, _⟩
  · obtain rfl : l = [] := List.eq_nil_of_length_eq_zero h0
    exact dcl_nil w
  · have hcell : ∀ j, j < l.length * 4 → ∀ u, (attrCells l)[j]? = some u → ∀ W, Below w.heap.size w W → W.cell? ⟨g, j, none⟩ = some u := by
      intro j hj u hu W hW
      have h1 := hown.cellAt j hj
      have hgl := lt_of_heap hh
      rw [show W.cell? ⟨g, j, none⟩ = w.cell? ⟨g, j, none⟩ from hW.cell (p := ⟨g, j, none⟩) hgl, h1, hu]
    match l with
    | [] => exact dcl_zero g cap w
    | [(n1, v1, p1)] =>
      have G1 := hg _ (List.mem_singleton.2 rfl)
      have c0 := hcell 0 (by simp) _ rfl w (Below.refl _ _)
      have c1 := hcell 1 (by simp) _ rfl w (Below.refl _ _)
      have x1 := cmp_b8 G1.name sm_version qVersion b8_version
      have y1 := cmp_b8 G1.value sm_10 q10 b8_10
      by_cases h1 : n1 = K.kVersion
      · by_cases h2 : v1 = K.k10
        · rw [show K.declared [(n1, v1, p1)] = true by simp [K.declared, K.noEnc, K.noAlone, h1, h2]]
          exact dcl_c1 g cap _ _ ⟨#[]⟩ ⟨#[]⟩ ⟨#[]⟩ ⟨#[]⟩ w hnc hcm c0 c1 (x1 _ (decide_eq_true h1)) (y1 _ (decide_eq_true h2))
        · rw [show K.declared [(n1, v1, p1)] = false by simp [K.declared, h2]]
          exact dcl_b1 g cap _ _ ⟨#[]⟩ ⟨#[]⟩ ⟨#[]⟩ ⟨#[]⟩ w hnc hcm c0 c1 (x1 _ (decide_eq_true h1)) (y1 _ (decide_eq_false h2))
      · rw [show K.declared [(n1, v1, p1)] = false by simp [K.declared, h1]]
        exact dcl_a1 g cap _ _ ⟨#[]⟩ ⟨#[]⟩ ⟨#[]⟩ ⟨#[]⟩ w hnc hcm c0 c1 (x1 _ (decide_eq_false h1))
    | [(n1, v1, p1), (n2, v2, p2)] =>
      have G1 := hg (n1, v1, p1) (by simp)
      have G2 := hg (n2, v2, p2) (by simp)
      have d : ∀ (W : World), Below w.heap.size w W → W.cell? ⟨g, 4, none⟩ = some (.string (bs (U.n8 n2))) ∧ W.cell? ⟨g, 5, none⟩ = some (.string (bs (U.n8 v2))) := fun W hW => ⟨hcell 4 (by simp) _ rfl W hW, hcell 5 (by simp) _ rfl W hW⟩
      have c0 := hcell 0 (by simp) _ rfl w (Below.refl _ _)
      have c1 := hcell 1 (by simp) _ rfl w (Below.refl _ _)
      obtain ⟨c4, c5⟩ := d w (Below.refl _ _)
      have x1 := cmp_b8 G1.name sm_version qVersion b8_version
      have y1 := cmp_b8 G1.value sm_10 q10 b8_10
      have x2 := cmp_b8 G2.name sm_enc qEnc b8_enc
      have z2 := cmp_b8 G2.name sm_alone qAlone b8_alone
      have s2 := cmp_b8 G2.value sm_yes qYes b8_yes
      have o2 := cmp_b8 G2.value sm_no qNo b8_no
      have hf := fold_utf8 G2.value (Nat.le_trans G2.len hn) w hlow h12
      have hne : K.kEncoding ≠ K.kStandalone := by decide
      by_cases h1 : n1 = K.kVersion
      · by_cases h2 : v1 = K.k10
        · by_cases h3 : n2 = K.kEncoding
          · have h5 : ¬ n2 = K.kStandalone := by rw [h3]; exact hne
            by_cases h4 : v2.map K.low = K.kUtf8
            · rw [show K.declared [(n1, v1, p1), (n2, v2, p2)] = true by simp [K.declared, K.noEnc, K.noAlone, h1, h2, h3, h4]]
              exact dcl_f2 g cap _ _ _ _ ⟨#[]⟩ ⟨#[]⟩ w hnc hcm c0 c1 c4 c5 (hf _ (decide_eq_true h4)) d (x1 _ (decide_eq_true h1)) (y1 _ (decide_eq_true h2)) (x2 _ (decide_eq_true h3))
            · rw [show K.declared [(n1, v1, p1), (n2, v2, p2)] = false by simp [K.declared, K.noEnc, K.noAlone, h1, h2, h3, h4, hne]]
              exact dcl_e2 g cap _ _ _ _ ⟨#[]⟩ ⟨#[]⟩ w hnc hcm c0 c1 c4 c5 (hf _ (decide_eq_false h4)) d (x1 _ (decide_eq_true h1)) (y1 _ (decide_eq_true h2)) (x2 _ (decide_eq_true h3)) (z2 _ (decide_eq_false h5))
          · by_cases h5 : n2 = K.kStandalone
            · by_cases h6 : v2 = K.kYes
              · rw [show K.declared [(n1, v1, p1), (n2, v2, p2)] = true by simp [K.declared, K.noEnc, K.noAlone, h1, h2, h3, h5, h6, hne.symm]]
                exact dcl_dy2 g cap _ _ _ _ ⟨#[]⟩ ⟨#[]⟩ w hnc hcm c0 c1 c4 c5 (x1 _ (decide_eq_true h1)) (y1 _ (decide_eq_true h2)) (x2 _ (decide_eq_false h3)) (z2 _ (decide_eq_true h5)) (s2 _ (decide_eq_true h6))
              · by_cases h7 : v2 = K.kNo
                · rw [show K.declared [(n1, v1, p1), (n2, v2, p2)] = true by simp [K.declared, K.noEnc, K.noAlone, h1, h2, h3, h5, h7, hne.symm]]
                  exact dcl_do2 g cap _ _ _ _ ⟨#[]⟩ ⟨#[]⟩ w hnc hcm c0 c1 c4 c5 (x1 _ (decide_eq_true h1)) (y1 _ (decide_eq_true h2)) (x2 _ (decide_eq_false h3)) (z2 _ (decide_eq_true h5)) (s2 _ (decide_eq_false h6)) (o2 _ (decide_eq_true h7))
                · rw [show K.declared [(n1, v1, p1), (n2, v2, p2)] = false by simp [K.declared, K.noEnc, K.noAlone, h1, h2, h3, h5, h6, h7, hne.symm]]
                  exact dcl_dz2 g cap _ _ _ _ ⟨#[]⟩ ⟨#[]⟩ w hnc hcm c0 c1 c4 c5 (x1 _ (decide_eq_true h1)) (y1 _ (decide_eq_true h2)) (x2 _ (decide_eq_false h3)) (z2 _ (decide_eq_true h5)) (s2 _ (decide_eq_false h6)) (o2 _ (decide_eq_false h7))
            · rw [show K.declared [(n1, v1, p1), (n2, v2, p2)] = false by simp [K.declared, K.noEnc, K.noAlone, h1, h2, h3, h5]]
              exact dcl_dn2 g cap _ _ _ _ ⟨#[]⟩ ⟨#[]⟩ w hnc hcm c0 c1 c4 c5 (x1 _ (decide_eq_true h1)) (y1 _ (decide_eq_true h2)) (x2 _ (decide_eq_false h3)) (z2 _ (decide_eq_false h5))
        · rw [show K.declared [(n1, v1, p1), (n2, v2, p2)] = false by simp [K.declared, h2]]
          exact dcl_b2 g cap _ _ _ _ ⟨#[]⟩ ⟨#[]⟩ w hnc hcm c0 c1 c4 c5 (x1 _ (decide_eq_true h1)) (y1 _ (decide_eq_false h2))
      · rw [show K.declared [(n1, v1, p1), (n2, v2, p2)] = false by simp [K.declared, h1]]
        exact dcl_a2 g cap _ _ _ _ ⟨#[]⟩ ⟨#[]⟩ w hnc hcm c0 c1 c4 c5 (x1 _ (decide_eq_false h1))
    | (n1, v1, p1) :: (n2, v2, p2) :: (n3, v3, p3) :: r =>
      have G1 := hg (n1, v1, p1) (by simp)
      have G2 := hg (n2, v2, p2) (by simp)
      have G3 := hg (n3, v3, p3) (by simp)
      have hll : ((n1, v1, p1) :: (n2, v2, p2) :: (n3, v3, p3) :: r).length = r.length + 3 := rfl
      have hj : ∀ j, j < 12 → j < ((n1, v1, p1) :: (n2, v2, p2) :: (n3, v3, p3) :: r).length * 4 := by intro j hj; rw [hll]; omega
      rw [hll] at hnc hl ⊢
      have d : ∀ (W : World), Below w.heap.size w W → W.cell? ⟨g, 4, none⟩ = some (.string (bs (U.n8 n2))) ∧ W.cell? ⟨g, 5, none⟩ = some (.string (bs (U.n8 v2))) ∧ W.cell? ⟨g, 8, none⟩ = some (.string (bs (U.n8 n3))) ∧ W.cell? ⟨g, 9, none⟩ = some (.string (bs (U.n8 v3))) :=
        fun W hW => ⟨hcell 4 (hj _ (by decide)) _ rfl W hW, hcell 5 (hj _ (by decide)) _ rfl W hW, hcell 8 (hj _ (by decide)) _ rfl W hW, hcell 9 (hj _ (by decide)) _ rfl W hW⟩
      have c0 := hcell 0 (hj _ (by decide)) _ rfl w (Below.refl _ _)
      have c1 := hcell 1 (hj _ (by decide)) _ rfl w (Below.refl _ _)
      obtain ⟨c4, c5, c8, c9⟩ := d w (Below.refl _ _)
      have x1 := cmp_b8 G1.name sm_version qVersion b8_version
      have y1 := cmp_b8 G1.value sm_10 q10 b8_10
      have x2 := cmp_b8 G2.name sm_enc qEnc b8_enc
      have z2 := cmp_b8 G2.name sm_alone qAlone b8_alone
      have s2 := cmp_b8 G2.value sm_yes qYes b8_yes
      have o2 := cmp_b8 G2.value sm_no qNo b8_no
      have z3 := cmp_b8 G3.name sm_alone qAlone b8_alone
      have s3 := cmp_b8 G3.value sm_yes qYes b8_yes
      have o3 := cmp_b8 G3.value sm_no qNo b8_no
      have hf := fold_utf8 G2.value (Nat.le_trans G2.len hn) w hlow h12
      have hne : K.kEncoding ≠ K.kStandalone := by decide
      have hk5 : r.length ≤ 100000 := by omega
      by_cases h1 : n1 = K.kVersion
      · by_cases h2 : v1 = K.k10
        · by_cases h3 : n2 = K.kEncoding
          · have h5 : ¬ n2 = K.kStandalone := by rw [h3]; exact hne
            by_cases h4 : v2.map K.low = K.kUtf8
            · by_cases h6 : n3 = K.kStandalone
              · have key : ∀ v, K.declared ((n1, v1, p1) :: (n2, v2, p2) :: (n3, v3, p3) :: r) = v → K.declared ((n1, v1, p1) :: (n2, v2, p2) :: (n3, v3, p3) :: r) = v := fun _ h => h
                by_cases h7 : v3 = K.kYes
                · cases r with
                  | nil =>
                    rw [show K.declared [(n1, v1, p1), (n2, v2, p2), (n3, v3, p3)] = true by simp [K.declared, K.noEnc, K.noAlone, h1, h2, h3, h4, h6, h7]]
                    exact dcl_gy3 g cap _ _ _ _ _ _ w hnc hcm c0 c1 c4 c5 c8 c9 (hf _ (decide_eq_true h4)) d (x1 _ (decide_eq_true h1)) (y1 _ (decide_eq_true h2)) (x2 _ (decide_eq_true h3)) (z3 _ (decide_eq_true h6)) (s3 _ (decide_eq_true h7))
                  | cons a4 r =>
                    rw [show K.declared ((n1, v1, p1) :: (n2, v2, p2) :: (n3, v3, p3) :: a4 :: r) = false by simp [K.declared, K.noEnc, K.noAlone, h1, h2, h3, h4, h6, h7]]
                    exact dcl_gym g cap r.length (by simp at hk5; omega) _ _ _ _ _ _ w hnc hcm c0 c1 c4 c5 c8 c9 (hf _ (decide_eq_true h4)) d (x1 _ (decide_eq_true h1)) (y1 _ (decide_eq_true h2)) (x2 _ (decide_eq_true h3)) (z3 _ (decide_eq_true h6)) (s3 _ (decide_eq_true h7))
                · by_cases h8 : v3 = K.kNo
                  · cases r with
                    | nil =>
                      rw [show K.declared [(n1, v1, p1), (n2, v2, p2), (n3, v3, p3)] = true by simp [K.declared, K.noEnc, K.noAlone, h1, h2, h3, h4, h6, h8]]
                      exact dcl_go3 g cap _ _ _ _ _ _ w hnc hcm c0 c1 c4 c5 c8 c9 (hf _ (decide_eq_true h4)) d (x1 _ (decide_eq_true h1)) (y1 _ (decide_eq_true h2)) (x2 _ (decide_eq_true h3)) (z3 _ (decide_eq_true h6)) (s3 _ (decide_eq_false h7)) (o3 _ (decide_eq_true h8))
                    | cons a4 r =>
                      rw [show K.declared ((n1, v1, p1) :: (n2, v2, p2) :: (n3, v3, p3) :: a4 :: r) = false by simp [K.declared, K.noEnc, K.noAlone, h1, h2, h3, h4, h6, h8]]
                      exact dcl_gom g cap r.length (by simp at hk5; omega) _ _ _ _ _ _ w hnc hcm c0 c1 c4 c5 c8 c9 (hf _ (decide_eq_true h4)) d (x1 _ (decide_eq_true h1)) (y1 _ (decide_eq_true h2)) (x2 _ (decide_eq_true h3)) (z3 _ (decide_eq_true h6)) (s3 _ (decide_eq_false h7)) (o3 _ (decide_eq_true h8))
                  · have hv : K.declared ((n1, v1, p1) :: (n2, v2, p2) :: (n3, v3, p3) :: r) = false := by simp [K.declared, K.noEnc, K.noAlone, h1, h2, h3, h4, h6, h7, h8]
                    rw [hv]
                    cases r with
                    | nil => exact dcl_gz3 g cap _ _ _ _ _ _ w hnc hcm c0 c1 c4 c5 c8 c9 (hf _ (decide_eq_true h4)) d (x1 _ (decide_eq_true h1)) (y1 _ (decide_eq_true h2)) (x2 _ (decide_eq_true h3)) (z3 _ (decide_eq_true h6)) (s3 _ (decide_eq_false h7)) (o3 _ (decide_eq_false h8))
                    | cons a4 r => exact dcl_gzm g cap r.length (by simp at hk5; omega) _ _ _ _ _ _ w hnc hcm c0 c1 c4 c5 c8 c9 (hf _ (decide_eq_true h4)) d (x1 _ (decide_eq_true h1)) (y1 _ (decide_eq_true h2)) (x2 _ (decide_eq_true h3)) (z3 _ (decide_eq_true h6)) (s3 _ (decide_eq_false h7)) (o3 _ (decide_eq_false h8))
              · have hv : K.declared ((n1, v1, p1) :: (n2, v2, p2) :: (n3, v3, p3) :: r) = false := by simp [K.declared, K.noEnc, K.noAlone, h1, h2, h3, h4, h6]
                rw [hv]
                cases r with
                | nil => exact dcl_gn3 g cap _ _ _ _ _ _ w hnc hcm c0 c1 c4 c5 c8 c9 (hf _ (decide_eq_true h4)) d (x1 _ (decide_eq_true h1)) (y1 _ (decide_eq_true h2)) (x2 _ (decide_eq_true h3)) (z3 _ (decide_eq_false h6))
                | cons a4 r => exact dcl_gnm g cap r.length (by simp at hk5; omega) _ _ _ _ _ _ w hnc hcm c0 c1 c4 c5 c8 c9 (hf _ (decide_eq_true h4)) d (x1 _ (decide_eq_true h1)) (y1 _ (decide_eq_true h2)) (x2 _ (decide_eq_true h3)) (z3 _ (decide_eq_false h6))
            · rw [show K.declared ((n1, v1, p1) :: (n2, v2, p2) :: (n3, v3, p3) :: r) = false by simp [K.declared, K.noEnc, K.noAlone, h1, h2, h3, h4, hne]]
              exact dcl_ek g cap r.length hk5 _ _ _ _ _ _ w hnc hcm c0 c1 c4 c5 c8 c9 (hf _ (decide_eq_false h4)) d (x1 _ (decide_eq_true h1)) (y1 _ (decide_eq_true h2)) (x2 _ (decide_eq_true h3)) (z2 _ (decide_eq_false h5))
          · by_cases h5 : n2 = K.kStandalone
            · by_cases h6 : v2 = K.kYes
              · rw [show K.declared ((n1, v1, p1) :: (n2, v2, p2) :: (n3, v3, p3) :: r) = false by simp [K.declared, K.noEnc, K.noAlone, h1, h2, h3, h5, h6, hne.symm]]
                exact dcl_dyk g cap r.length hk5 _ _ _ _ _ _ w hnc hcm c0 c1 c4 c5 c8 c9 (x1 _ (decide_eq_true h1)) (y1 _ (decide_eq_true h2)) (x2 _ (decide_eq_false h3)) (z2 _ (decide_eq_true h5)) (s2 _ (decide_eq_true h6))
              · by_cases h7 : v2 = K.kNo
                · rw [show K.declared ((n1, v1, p1) :: (n2, v2, p2) :: (n3, v3, p3) :: r) = false by simp [K.declared, K.noEnc, K.noAlone, h1, h2, h3, h5, h7, hne.symm]]
                  exact dcl_dok g cap r.length hk5 _ _ _ _ _ _ w hnc hcm c0 c1 c4 c5 c8 c9 (x1 _ (decide_eq_true h1)) (y1 _ (decide_eq_true h2)) (x2 _ (decide_eq_false h3)) (z2 _ (decide_eq_true h5)) (s2 _ (decide_eq_false h6)) (o2 _ (decide_eq_true h7))
                · rw [show K.declared ((n1, v1, p1) :: (n2, v2, p2) :: (n3, v3, p3) :: r) = false by simp [K.declared, K.noEnc, K.noAlone, h1, h2, h3, h5, h6, h7, hne.symm]]
                  exact dcl_dzk g cap r.length hk5 _ _ _ _ _ _ w hnc hcm c0 c1 c4 c5 c8 c9 (x1 _ (decide_eq_true h1)) (y1 _ (decide_eq_true h2)) (x2 _ (decide_eq_false h3)) (z2 _ (decide_eq_true h5)) (s2 _ (decide_eq_false h6)) (o2 _ (decide_eq_false h7))
            · rw [show K.declared ((n1, v1, p1) :: (n2, v2, p2) :: (n3, v3, p3) :: r) = false by simp [K.declared, K.noEnc, K.noAlone, h1, h2, h3, h5]]
              exact dcl_dnk g cap r.length hk5 _ _ _ _ _ _ w hnc hcm c0 c1 c4 c5 c8 c9 (x1 _ (decide_eq_true h1)) (y1 _ (decide_eq_true h2)) (x2 _ (decide_eq_false h3)) (z2 _ (decide_eq_false h5))
        · rw [show K.declared ((n1, v1, p1) :: (n2, v2, p2) :: (n3, v3, p3) :: r) = false by simp [K.declared, h2]]
          exact dcl_bk g cap r.length hk5 _ _ _ _ _ _ w hnc hcm c0 c1 c4 c5 c8 c9 (x1 _ (decide_eq_true h1)) (y1 _ (decide_eq_false h2))
      · rw [show K.declared ((n1, v1, p1) :: (n2, v2, p2) :: (n3, v3, p3) :: r) = false by simp [K.declared, h1]]
        exact dcl_ak g cap r.length hk5 _ _ _ _ _ _ w hnc hcm c0 c1 c4 c5 c8 c9 (x1 _ (decide_eq_false h1))
end Go.Proofs.YtdilngjolhmjnaaGreatDoor
namespace Go.Proofs.YtdilngjolhmjnaaGreatDoor
open Go.RowKit Go.Shelf
set_option linter.all false

theorem kQ : Small [63, 62] := by unfold Small; decide
theorem declaration_eq (s : K.St) : K.declaration s = match K.attrs (K.skip s 5) with
  | .error e => .error e
  | .ok (l, s1) => if K.declared l && K.sees [63, 62] s1 then .ok (K.skip s1 2) else .error (21, s.2) := rfl

theorem attrsF_count : ∀ (f : Nat) (s : K.St) (acc l : List K.At) (s' : K.St), K.attrsF f s acc = .ok (l, s') → l.length + s'.1.length ≤ acc.length + s.1.length
  | 0, s, acc, l, s', h => by
    unfold K.attrsF at h
    simp only [Except.ok.injEq, Prod.mk.injEq] at h
    obtain ⟨rfl, rfl⟩ := h
    exact Nat.le_refl _
  | f + 1, s, acc, l, s', h => by
    unfold K.attrsF at h
    have hb : (K.blanks s).1.length ≤ s.1.length := skip_le _ _
    split at h
    · simp only [Except.ok.injEq, Prod.mk.injEq] at h
      obtain ⟨rfl, rfl⟩ := h
      omega
    · rename_i hn
      have hlt := blanks_lt (fun h0 => hn (.inl h0))
      cases hq : K.attr1 (K.blanks s) with
      | error e => rw [hq] at h; cases h
      | ok q =>
        obtain ⟨a, s1⟩ := q
        rw [hq] at h
        have h1 := attr1_le hq value_le
        have h2 := attrsF_count f s1 _ _ _ h
        simp only [List.length_append, List.length_cons, List.length_nil] at h2
        omega
theorem attrs_count {s s' : K.St} {l : List K.At} (h : K.attrs s = .ok (l, s')) : l.length + s'.1.length ≤ s.1.length := by
  have := attrsF_count _ _ _ _ _ h
  simpa using this

set_option maxHeartbeats 8000000 in
set_option maxRecDepth 100000 in
theorem declaration_any (b mm : Nat) (s : K.St) (x : X6) (w : World) (h : Rd b s x w) (he : Env b mm x w) (hd : K.declares s = true) :
    Calls Tryz.prog 38 #[.pointer (some ⟨b, 0, none⟩)] w (Step b x w noRet (unitOf (K.declaration s))) := by
  obtain ⟨c0, c1, c2⟩ := h.cells
  have hlt := h.lt
  have hmlt := he.lt
  have h12 := he.hb
  have hse : K.sees K.kXmlDecl s = true := by
    have h1 : K.declares s = (K.sees K.kXmlDecl s && (match s.1.drop 5 with | [] => false | c :: _ => K.blank c)) := rfl
    rw [hd] at h1
    exact (Bool.and_eq_true_iff.1 h1.symm).1
  obtain ⟨hs5, hl5⟩ := sees_len decl_small hse
  have hs5 : (U.n8 (s.1.take 5)).length = 5 := hs5
  have hbox : Below w.heap.size w (w.alloc (.cells #[.int .i64 (s.2.1 : Int), .int .i64 (s.2.2 : Int)] 29)) := (Below.refl _ _).alloc (Nat.le_refl _) _
  have hnew := heap_new w (.cells #[.int .i64 (s.2.1 : Int), .int .i64 (s.2.2 : Int)] 29)
  have hR1 := h.below hbox
  have hE1 := he.bar (Below.bar (b := b) hbox) hlt
  have htk := take_any 5 b s x _ hR1 5 (by rw [hs5]; rfl)
  have hsz1 := heap_size w (.cells #[.int .i64 (s.2.1 : Int), .int .i64 (s.2.2 : Int)] 29)
  have hat : ∀ W, Bar b (w.alloc (.cells #[.int .i64 (s.2.1 : Int), .int .i64 (s.2.2 : Int)] 29)) W → W.cell? ⟨w.heap.size, 0, none⟩ = some (.int .i64 (s.2.1 : Int)) ∧ W.cell? ⟨w.heap.size, 1, none⟩ = some (.int .i64 (s.2.2 : Int)) := by
    intro W hW
    have := hW.keep (by omega) hnew
    exact ⟨by rw [Lib.cell_of_heap this]; rfl, by rw [Lib.cell_of_heap this]; rfl⟩
  have hatt : ∀ W, Rd b (K.skip s 5) x W → Env b mm x W → Calls Tryz.prog 62 #[.pointer (some ⟨b, 0, none⟩)] W (AttrStep b x W (K.attrs (K.skip s 5))) := fun W hW hE => attrs_ok b mm _ x W hW hE
  have hfl : ∀ W, Calls Tryz.prog 17 #[.int .i64 21, .agg #[.int .i64 (s.2.1 : Int), .int .i64 (s.2.2 : Int)]] W fun e w' => Fell (21, s.2) e w' ∧ Below W.heap.size W w' := fun W => fail_any 21 s.2.1 s.2.2 W
  have hb1 : Bar b w (w.alloc (.cells #[.int .i64 (s.2.1 : Int), .int .i64 (s.2.2 : Int)] 29)) := .of_below hbox
  have hsc := h.1.sc
  have hl6 : s.1.length ≤ 65536 := Nat.le_trans (K.n8_length_le _) h.1.len
  rw [declaration_eq]
  have HAt := Lib.hid hat
  have HE1 := Lib.hid hE1
  have HR1 := Lib.hid hR1
  have HB1 := Lib.hid hb1
  have HFl := Lib.hid hfl
  have HSZ := Lib.hid hsz1
  cases ha : K.attrs (K.skip s 5) with
  | error er =>
    rw [ha] at hatt
    have HA := Lib.hid hatt
    clear ha hatt h he hd hse hs5 hl5 hbox hnew hR1 hE1 hsz1 hat hfl hb1 hsc hl6
    show Calls Tryz.prog 38 #[.pointer (some ⟨b, 0, none⟩)] w (Step b x w noRet (.error er))
    go_enter Tryz.func38, Tryz.ntmps38
    go_wp2_with (first
      | (go_at_call 61; refine htk.mono ?_; rintro e w1 ⟨rfl, hR2, hB2⟩; have hac := HA.out _ hR2 (HE1.out.bar hB2 HR1.out.lt); have HB2 := Lib.hid hB2; clear hR2 hB2)
      | (go_at_call 62; refine hac.mono ?_; rintro e w2 ⟨⟨fb, rfl, hfc⟩, hfb⟩))
    exact ⟨rfl, ⟨_, rfl, hfc⟩, (HB1.out.trans HB2.out).trans hfb⟩
  | ok q =>
    obtain ⟨l, s1⟩ := q
    obtain ⟨hg, hsc1⟩ := attrs_facts ha (skip_sc hsc 5)
    have hskl : (K.skip s 5).1.length ≤ s.1.length := skip_le _ _
    have hll : l.length ≤ 65536 := by have := attrs_count ha; omega
    rw [ha] at hatt
    simp only
    have hdc : ∀ (B : Nat) (av : Value) (W : World), W.ownsRow B 40 4 av l.length (attrCells l) → Low W → 12 ≤ W.heap.size → Calls Tryz.prog 63 #[av] W fun e w' => e = .returned (.bool (K.declared l)) ∧ Below W.heap.size W w' :=
      fun B av W hO hL h12 => declared_any l 65536 (Nat.le_refl _) (fun a ha => (hg a ha).mono (by omega)) hll B av W hO hL h12
    have hss : ∀ W, Rd b s1 x W → Calls Tryz.prog 59 #[.pointer (some ⟨b, 0, none⟩), .string ⟨#[63, 62]⟩] W fun e w' => e = .returned (.bool (K.sees [63, 62] s1)) ∧ W = w' := fun W hW => sees_any [63, 62] kQ b s1 x W hW _ rfl
    have HA := Lib.hid hatt
    have HDc := Lib.hid hdc
    have HSs := Lib.hid hss
    cases hdl : K.declared l with
    | false =>
      rw [hdl] at HDc
      rw [if_neg (by simp)]
      clear ha hatt h he hd hse hs5 hl5 hbox hnew hR1 hE1 hsz1 hat hfl hb1 hsc hl6 hdc hss hdl hg hsc1 hll hskl
      show Calls Tryz.prog 38 #[.pointer (some ⟨b, 0, none⟩)] w (Step b x w noRet (.error (21, s.2)))
      go_enter Tryz.func38, Tryz.ntmps38
      go_wp2_with (first
        | (go_at_call 61; refine htk.mono ?_; rintro e w1 ⟨rfl, hR2, hB2⟩; have hac := HA.out _ hR2 (HE1.out.bar hB2 HR1.out.lt); have hE2 := HE1.out.bar hB2 HR1.out.lt; have HE2 := Lib.hid hE2; have HR2 := Lib.hid hR2; have HB2 := Lib.hid hB2; clear hR2 hB2 hE2)
        | (go_at_call 62; refine hac.mono ?_; rintro e w2 ⟨av, rfl, hO3, hR3, hB3⟩; obtain ⟨ap, an, ac, rfl⟩ := own_slice hO3; have hdd := HDc.out _ _ _ hO3 (HE2.out.bar hB3 HR2.out.lt).low (by have := hR3.lt; omega); have HR3 := Lib.hid hR3; have HB3 := Lib.hid hB3; clear hO3 hR3 hB3)
        | (go_at_call 63; refine hdd.mono ?_; rintro e w4 ⟨rfl, hb4⟩; have hB4 : Bar b (w.alloc (.cells #[.int .i64 (s.2.1 : Int), .int .i64 (s.2.2 : Int)] 29)) w4 := (HB2.out.trans HB3.out).bel hb4; obtain ⟨q0, q1⟩ := HAt.out _ hB4; have hf := HFl.out w4; have HB4 := Lib.hid hB4; clear hb4 hB4)
        | (go_at_call 17; refine hf.mono ?_; rintro e w5 ⟨⟨fb, rfl, hfc⟩, hfb⟩))
      exact ⟨rfl, ⟨_, rfl, hfc⟩, (HB1.out.trans HB4.out).bel hfb⟩
    | true =>
      rw [hdl] at HDc
      cases hsq : K.sees [63, 62] s1 with
      | false =>
        rw [hsq] at HSs
        rw [if_neg (by simp)]
        clear ha hatt h he hd hse hs5 hl5 hbox hnew hR1 hE1 hsz1 hat hfl hb1 hsc hl6 hdc hss hdl hg hsc1 hll hskl hsq
        show Calls Tryz.prog 38 #[.pointer (some ⟨b, 0, none⟩)] w (Step b x w noRet (.error (21, s.2)))
        go_enter Tryz.func38, Tryz.ntmps38
        go_wp2_with (first
          | (go_at_call 61; refine htk.mono ?_; rintro e w1 ⟨rfl, hR2, hB2⟩; have hac := HA.out _ hR2 (HE1.out.bar hB2 HR1.out.lt); have hE2 := HE1.out.bar hB2 HR1.out.lt; have HE2 := Lib.hid hE2; have HR2 := Lib.hid hR2; have HB2 := Lib.hid hB2; clear hR2 hB2 hE2)
          | (go_at_call 62; refine hac.mono ?_; rintro e w2 ⟨av, rfl, hO3, hR3, hB3⟩; obtain ⟨ap, an, ac, rfl⟩ := own_slice hO3; have hdd := HDc.out _ _ _ hO3 (HE2.out.bar hB3 HR2.out.lt).low (by have := hR3.lt; omega); have HR3 := Lib.hid hR3; have HB3 := Lib.hid hB3; clear hO3 hR3 hB3)
          | (go_at_call 63; refine hdd.mono ?_; rintro e w4 ⟨rfl, hb4⟩; have hs4 := HSs.out _ (HR3.out.below hb4); have hB4 : Bar b (w.alloc (.cells #[.int .i64 (s.2.1 : Int), .int .i64 (s.2.2 : Int)] 29)) w4 := (HB2.out.trans HB3.out).bel hb4; obtain ⟨q0, q1⟩ := HAt.out _ hB4; have hf := HFl.out w4; have HB4 := Lib.hid hB4; clear hb4 hB4)
          | (go_at_call 59; refine hs4.mono ?_; rintro e w6 ⟨rfl, rfl⟩)
          | (go_at_call 17; refine hf.mono ?_; rintro e w5 ⟨⟨fb, rfl, hfc⟩, hfb⟩))
        exact ⟨rfl, ⟨_, rfl, hfc⟩, (HB1.out.trans HB4.out).bel hfb⟩
      | true =>
        obtain ⟨hq2, hq3⟩ := sees_len kQ hsq
        rw [hsq] at HSs
        rw [if_pos (by simp)]
        have htk2 : ∀ W, Rd b s1 x W → Calls Tryz.prog 61 #[.pointer (some ⟨b, 0, none⟩), .int .i64 2] W (Took b s1 x 2 W) := fun W hW => take_any 2 b s1 x W hW 2 (by rw [show (U.n8 (s1.1.take 2)).length = 2 from hq2]; rfl)
        have HT2 := Lib.hid htk2
        clear ha hatt h he hd hse hs5 hl5 hbox hnew hR1 hE1 hsz1 hat hfl hb1 hsc hl6 hdc hss hdl hg hsc1 hll hskl hsq hq2 hq3 htk2
        show Calls Tryz.prog 38 #[.pointer (some ⟨b, 0, none⟩)] w (Step b x w noRet (.ok ((), K.skip s1 2)))
        go_enter Tryz.func38, Tryz.ntmps38
        go_wp2_with (first
          | (go_at_call 61; first | ((with_reducible refine htk.mono ?_); rintro e w1 ⟨rfl, hR2, hB2⟩; have hac := HA.out _ hR2 (HE1.out.bar hB2 HR1.out.lt); have hE2 := HE1.out.bar hB2 HR1.out.lt; have HE2 := Lib.hid hE2; have HR2 := Lib.hid hR2; have HB2 := Lib.hid hB2; clear hR2 hB2 hE2) | ((with_reducible refine ht6.mono ?_); rintro e w7 ⟨rfl, hR7, hB7⟩; have HR7 := Lib.hid hR7; have HB7 := Lib.hid hB7; clear hR7 hB7))
          | (go_at_call 62; refine hac.mono ?_; rintro e w2 ⟨av, rfl, hO3, hR3, hB3⟩; obtain ⟨ap, an, ac, rfl⟩ := own_slice hO3; have hdd := HDc.out _ _ _ hO3 (HE2.out.bar hB3 HR2.out.lt).low (by have := hR3.lt; omega); have HR3 := Lib.hid hR3; have HB3 := Lib.hid hB3; clear hO3 hR3 hB3)
          | (go_at_call 63; refine hdd.mono ?_; rintro e w4 ⟨rfl, hb4⟩; have hR4 := HR3.out.below hb4; have hs4 := HSs.out _ hR4; have ht6 := HT2.out _ hR4; have hB4 : Bar b (w.alloc (.cells #[.int .i64 (s.2.1 : Int), .int .i64 (s.2.2 : Int)] 29)) w4 := (HB2.out.trans HB3.out).bel hb4; have HB4 := Lib.hid hB4; clear hb4 hB4 hR4)
          | (go_at_call 59; refine hs4.mono ?_; rintro e w6 ⟨rfl, rfl⟩))
        first | go_end0 | refine bodyPost_ret (results_none rfl _ _ _) rfl ?_
        exact ⟨rfl, HR7.out, (HB1.out.trans HB4.out).trans HB7.out⟩
end Go.Proofs.YtdilngjolhmjnaaGreatDoor
namespace Go.Proofs.YtdilngjolhmjnaaGreatDoor
open Go.RowKit Go.Shelf
set_option linter.all false

theorem wordsF_le : ∀ (f : Nat) (s : K.St) (acc m : List Nat) (s' : K.St), K.wordsF f s acc = .ok (m, s') → s'.1.length ≤ s.1.length
  | 0, s, acc, m, s', h => by
    unfold K.wordsF at h
    simp only [Except.ok.injEq, Prod.mk.injEq] at h
    rw [← h.2]
    exact Nat.le_refl _
  | f + 1, ([], p), acc, m, s', h => by
    unfold K.wordsF at h
    simp only [Except.ok.injEq, Prod.mk.injEq] at h
    rw [← h.2]
    exact Nat.le_refl _
  | f + 1, (c :: r, p), acc, m, s', h => by
    unfold K.wordsF at h
    split at h
    · simp only [Except.ok.injEq, Prod.mk.injEq] at h
      rw [← h.2]
      exact Nat.le_refl _
    · split at h
      · cases h
      · split at h
        · cases hr : K.reference (c :: r, p) with
          | error e => rw [hr] at h; cases h
          | ok q =>
            obtain ⟨d, s1⟩ := q
            rw [hr] at h
            have h1 := ref_short hr
            have h2 := wordsF_le f s1 _ _ _ h
            simp only [List.length_cons]
            omega
        · have h2 := wordsF_le f _ _ _ _ h
          simp only [List.length_cons] at h2 ⊢
          omega
theorem words_lt {c : Nat} {r m : List Nat} {p : K.Pl} {s' : K.St} (h60 : c ≠ 60) (h : K.words (c :: r, p) = .ok (m, s')) : s'.1.length ≤ r.length := by
  unfold K.words at h
  rw [K.wordsF, if_neg h60] at h
  split at h
  · cases h
  · split at h
    · cases hr : K.reference (c :: r, p) with
      | error e => rw [hr] at h; cases h
      | ok q =>
        obtain ⟨d, s1⟩ := q
        rw [hr] at h
        have h1 := ref_short hr
        have h2 := wordsF_le _ s1 _ _ _ h
        omega
    · exact wordsF_le _ (r, _) _ _ _ h
theorem skip_lt {s : K.St} {n : Nat} (hn : 0 < n) (hs : 0 < s.1.length) : (K.skip s n).1.length < s.1.length := by
  show (s.1.drop n).length < _
  rw [List.length_drop]
  omega
theorem instruction_lt {s s1 : K.St} (h : K.instruction s = .ok s1) (hs : 0 < s.1.length) : s1.1.length < s.1.length := by
  have h0 := skip_lt (n := 2) (by decide) hs
  unfold K.instruction at h
  cases hn : K.name (K.skip s 2) with
  | error e => rw [hn] at h; cases h
  | ok q =>
    obtain ⟨n, s2⟩ := q
    rw [hn] at h
    simp only at h
    have h1 := name_le hn
    split at h
    · cases h
    · split at h
      · have := want_le h
        omega
      · have h3 : (K.blanks s2).1.length ≤ s2.1.length := skip_le _ _
        cases hu : K.upTo [63, 62] (K.blanks s2) with
        | error e => rw [hu] at h; cases h
        | ok q =>
          obtain ⟨m, s3⟩ := q
          rw [hu] at h
          simp only [Except.ok.injEq] at h
          have := upTo_le hu
          rw [← h]
          omega
theorem comment_lt {s s1 : K.St} (h : K.comment s = .ok s1) (hs : 0 < s.1.length) : s1.1.length < s.1.length := by
  have h0 := skip_lt (n := 4) (by decide) hs
  unfold K.comment at h
  split at h
  · cases h
  · split at h
    · cases h
    · have := want_le h
      have h3 := skip_le (K.skip s 4) ‹Nat›
      omega
theorem section_lt {s s1 : K.St} {m : List Nat} (h : K.section_ s = .ok (m, s1)) (hs : 0 < s.1.length) : s1.1.length < s.1.length := by
  have h0 := skip_lt (n := 9) (by decide) hs
  have := upTo_le h
  omega
theorem endTag_lt {s s1 : K.St} {k : K.Tk} (h : K.endTag s = .ok (k, s1)) (hs : 0 < s.1.length) : s1.1.length < s.1.length := by
  have h0 := skip_lt (n := 2) (by decide) hs
  unfold K.endTag at h
  cases hn : K.name (K.skip s 2) with
  | error e => rw [hn] at h; cases h
  | ok q =>
    obtain ⟨n, s2⟩ := q
    rw [hn] at h
    simp only at h
    have h1 := name_le hn
    cases hw : K.want [62] (K.blanks s2) with
    | error e => rw [hw] at h; cases h
    | ok s3 =>
      rw [hw] at h
      simp only [Except.ok.injEq, Prod.mk.injEq] at h
      have h2 := want_le hw
      have h3 : (K.blanks s2).1.length ≤ s2.1.length := skip_le _ _
      rw [← h.2]
      omega
theorem startTag_lt {s s1 : K.St} {k : K.Tk} (h : K.startTag s = .ok (k, s1)) (hs : 0 < s.1.length) : s1.1.length < s.1.length := by
  have h0 := skip_lt (n := 1) (by decide) hs
  unfold K.startTag at h
  cases hn : K.name (K.skip s 1) with
  | error e => rw [hn] at h; cases h
  | ok q =>
    obtain ⟨n, s2⟩ := q
    rw [hn] at h
    simp only at h
    have h1 := name_le hn
    cases ha : K.attrs s2 with
    | error e => rw [ha] at h; cases h
    | ok q =>
      obtain ⟨l, s3⟩ := q
      rw [ha] at h
      simp only at h
      have h2 := attrs_le ha
      cases hw : K.want [62] (if K.sees [47] s3 then K.skip s3 1 else s3) with
      | error e => rw [hw] at h; cases h
      | ok s4 =>
        rw [hw] at h
        simp only [Except.ok.injEq, Prod.mk.injEq] at h
        have h3 := want_le hw
        have h4 : (if K.sees [47] s3 then K.skip s3 1 else s3).1.length ≤ s3.1.length := by
          split
          · exact skip_le _ _
          · exact Nat.le_refl _
        rw [← h.2]
        omega
theorem onS_ok {t t1 : K.Told} {r : Except K.Er K.St} {s1 : K.St} (h : onS t r = .ok (t1, s1)) : r = .ok s1 := by
  cases r with
  | error e => cases h
  | ok s => simp only [onS, Except.ok.injEq, Prod.mk.injEq] at h; rw [h.2]
theorem onM_ok {t t1 : K.Told} {p : K.Pl} {r : Except K.Er (List Nat × K.St)} {s1 : K.St} (h : onM t p r = .ok (t1, s1)) : ∃ m, r = .ok (m, s1) := by
  cases r with
  | error e => cases h
  | ok s => simp only [onM, Except.ok.injEq, Prod.mk.injEq] at h; exact ⟨s.1, by rw [← h.2]⟩
theorem onT_ok {t t1 : K.Told} {r : Except K.Er (K.Tk × K.St)} {s1 : K.St} (h : onT t r = .ok (t1, s1)) : ∃ k, r = .ok (k, s1) := by
  cases r with
  | error e => cases h
  | ok s => simp only [onT, Except.ok.injEq, Prod.mk.injEq] at h; exact ⟨s.1, by rw [← h.2]⟩
/-- Each part has a character at least. -/
theorem part_lt {c : Nat} {r : List Nat} {p : K.Pl} {t t1 : K.Told} {s1 : K.St} (h : K.part (c :: r, p) t = .ok (t1, s1)) : s1.1.length ≤ r.length := by
  have hs : 0 < (c :: r, p).1.length := by simp
  have hl : (c :: r, p).1.length = r.length + 1 := rfl
  rw [part_eq] at h
  split at h
  · have := instruction_lt (onS_ok h) hs; omega
  · split at h
    · have := comment_lt (onS_ok h) hs; omega
    · split at h
      · obtain ⟨m, hm⟩ := onM_ok h
        have := section_lt hm hs; omega
      · split at h
        · cases h
        · split at h
          · cases h
          · split at h
            · obtain ⟨k, hk⟩ := onT_ok h
              have := endTag_lt hk hs; omega
            · split at h
              · obtain ⟨k, hk⟩ := onT_ok h
                have := startTag_lt hk hs; omega
              · rename_i h60
                obtain ⟨m, hm⟩ := onM_ok h
                refine words_lt ?_ hm
                rintro rfl
                exact h60 rfl
/-- The document behind what was read. -/
def DF (s : K.St) (t : K.Told) : Except K.Er (List K.Tk) := K.partsF (s.1.length + 1) s t
theorem partsF_fuel : ∀ (f : Nat) (s : K.St) (t : K.Told), s.1.length < f → K.partsF (f + 1) s t = K.partsF f s t
  | 0, s, t, h => by omega
  | f + 1, ([], p), t, h => by rw [K.partsF, K.partsF] <;> simp
  | f + 1, (c :: r, p), t, h => by
    rw [K.partsF, K.partsF]
    cases hp : K.part (c :: r, p) t with
    | error e => rfl
    | ok q =>
      obtain ⟨t1, s1⟩ := q
      have h1 := part_lt hp
      simp only [List.length_cons] at h
      exact partsF_fuel f s1 t1 (by omega)
theorem partsF_more (f : Nat) (s : K.St) (t : K.Told) (h : s.1.length < f) : K.partsF f s t = DF s t := by
  obtain ⟨k, rfl⟩ : ∃ k, f = s.1.length + 1 + k := ⟨f - (s.1.length + 1), by omega⟩
  clear h
  induction k with
  | zero => rfl
  | succ k ih => rw [show s.1.length + 1 + (k + 1) = (s.1.length + 1 + k) + 1 by omega, partsF_fuel _ _ _ (by omega)]; exact ih
theorem DF_nil (p : K.Pl) (t : K.Told) : DF ([], p) t = .ok (K.endText t) := rfl
theorem DF_err {c : Nat} {r : List Nat} {p : K.Pl} {t : K.Told} {er : K.Er} (h : K.part (c :: r, p) t = .error er) : DF (c :: r, p) t = .error er := by
  unfold DF
  rw [K.partsF, h]
theorem DF_ok {c : Nat} {r : List Nat} {p : K.Pl} {t t1 : K.Told} {s1 : K.St} (h : K.part (c :: r, p) t = .ok (t1, s1)) : DF (c :: r, p) t = DF s1 t1 := by
  have h1 := part_lt h
  conv => lhs; unfold DF
  rw [K.partsF, h]
  exact partsF_more _ _ _ (by simp only [List.length_cons]; omega)
theorem declaration_le {s s1 : K.St} (h : K.declaration s = .ok s1) : s1.1.length ≤ s.1.length := by
  rw [declaration_eq] at h
  have h0 : (K.skip s 5).1.length ≤ s.1.length := skip_le _ _
  cases ha : K.attrs (K.skip s 5) with
  | error e => rw [ha] at h; cases h
  | ok q =>
    obtain ⟨l, s2⟩ := q
    rw [ha] at h
    simp only at h
    have h1 := attrs_le ha
    split at h
    · simp only [Except.ok.injEq] at h
      have h2 : (K.skip s2 2).1.length ≤ s2.1.length := skip_le _ _
      rw [← h]
      omega
    · cases h
abbrev t0 : K.Told := ⟨[], [], (0, 0)⟩
theorem document_eq (l : List Nat) : K.document l = if K.declares (l, (1, 1)) then (match K.declaration (l, (1, 1)) with
    | .error e => .error e
    | .ok s => DF s t0) else DF (l, (1, 1)) t0 := by
  unfold K.document
  split
  · cases hd : K.declaration (l, (1, 1)) with
    | error e => rfl
    | ok s =>
      have := declaration_le hd
      exact partsF_more _ _ _ (by simp only at this; omega)
  · rfl

/-- What going through a document leaves. -/
def DocStep (b mm B : Nat) (w : World) (r : Except K.Er (List K.Tk)) (e : Ending) (w' : World) : Prop := match r with
  | .ok l => e = .returned (.tuple #[]) ∧ ∃ s p x', Inv b mm B s ⟨l, [], p⟩ x' w' ∧ Below B w w'
  | .error er => Fell er e w' ∧ Below B w w'
def DocRel (b mm B : Nat) (R : Except K.Er (List K.Tk)) (w : World) (g : Nat) (wr : World) : Prop :=
  ∃ (s : K.St) (t : K.Told) (x : X6), s.1.length = g ∧ DF s t = R ∧ Inv b mm B s t x wr ∧ Below B w wr

set_option maxHeartbeats 8000000 in
set_option maxRecDepth 100000 in
theorem doc_plain (b mm B : Nat) (s : K.St) (t : K.Told) (x : X6) (w : World) (h : Inv b mm B s t x w) (h12 : 12 ≤ B) (hd : K.declares s = false) :
    Calls Tryz.prog 20 #[.pointer (some ⟨b, 0, none⟩)] w (DocStep b mm B w (DF s t)) := by
  have hdc := declares_any b s x w h.rd
  rw [hd] at hdc
  obtain ⟨R, hR⟩ : ∃ R, DF s t = R := ⟨_, rfl⟩
  have hst : DocRel b mm B R w s.1.length w := ⟨s, t, x, rfl, hR, h, Below.refl _ _⟩
  rw [hR]
  have HST := Lib.hid hst
  clear hst hR h hd
  go_enter Tryz.func20, Tryz.ntmps20
  go_wp2_with (go_at_call 37; refine hdc.mono ?_; rintro e w1 ⟨rfl, rfl⟩)
  go_loopg [] s.1.length (fun g wr => DocRel b mm B R w g wr)
  case atStart => exact HST.out
  case round =>
    obtain ⟨⟨l1, p⟩, t, x1, hg, hDF, hI, hbel⟩ := hrel
    obtain ⟨c0, c1, c2⟩ := hI.rd.cells
    have hBlt := hI.blt
    have HBel := Lib.hid hbel
    cases l1 with
    | nil =>
      have hre : R = .ok (K.endText t) := hDF.symm.trans (DF_nil p t)
      replace c0 : wr.cell? ⟨b, 0, none⟩ = some (.string ⟨#[]⟩) := c0
      have hen := endText_any b mm B ([], p) t x1 wr hI h12
      unfold Ended at hen
      have HRE := Lib.hid hre
      clear hre hDF hI hbel c1 c2
      go_wp2_with (go_at_call 40; refine hen.mono ?_; rintro e w2 ⟨rfl, x2, hI2, hb2, _, _, _⟩; have HI2 := Lib.hid hI2; have HB2 := Lib.hid hb2; clear hI2 hb2)
      first | go_end0 | refine bodyPost_ret (results_none rfl _ _ _) rfl ?_
      rw [HRE.out]
      exact ⟨rfl, _, _, x2, HI2.out, HBel.out.trans HB2.out⟩
    | cons c r =>
      have hne0 := n8_some c r
      have hpt := part_any b mm B (c :: r, p) t x1 wr hI h12
      simp only [List.length_cons] at hg
      cases hp : K.part (c :: r, p) t with
      | error er =>
        rw [hp] at hpt
        have hre : R = .error er := hDF.symm.trans (DF_err hp)
        have HRE := Lib.hid hre
        clear hre hDF hI hbel c1 c2 hp
        go_wp2_with (go_at_call 39; refine hpt.mono ?_; rintro e w2 ⟨⟨fb, rfl, hfc⟩, hfb⟩)
        refine ⟨rfl, ?_⟩
        rw [HRE.out]
        exact ⟨⟨_, rfl, hfc⟩, HBel.out.trans hfb⟩
      | ok q =>
        obtain ⟨t1, s1⟩ := q
        have hlt := part_lt hp
        rw [hp] at hpt
        have hre : DF s1 t1 = R := (DF_ok hp).symm.trans hDF
        have HRE := Lib.hid hre
        clear hre hDF hI hbel c1 c2 hp
        go_wp2_with (go_at_call 39; refine hpt.mono ?_; rintro e w2 ⟨rfl, x2, hI2, hb2⟩; have HI2 := Lib.hid hI2; have HB2 := Lib.hid hb2; clear hI2 hb2)
        go_roundg s1.1.length
        case measure => omega
        case rel => exact ⟨s1, t1, x2, rfl, HRE.out, HI2.out, HBel.out.trans HB2.out⟩

set_option maxHeartbeats 8000000 in
set_option maxRecDepth 100000 in
theorem doc_declared (b mm B : Nat) (s : K.St) (t : K.Told) (x : X6) (w : World) (h : Inv b mm B s t x w) (h12 : 12 ≤ B) (hd : K.declares s = true) (s1 : K.St) (hs : K.declaration s = .ok s1) :
    Calls Tryz.prog 20 #[.pointer (some ⟨b, 0, none⟩)] w (DocStep b mm B w (DF s1 t)) := by
  have hdc := declares_any b s x w h.rd
  rw [hd] at hdc
  have hdn := declaration_any b mm s x w h.rd h.env hd
  rw [hs] at hdn
  have hdn : Calls Tryz.prog 38 #[.pointer (some ⟨b, 0, none⟩)] w (Step b x w noRet (.ok ((), s1))) := hdn
  obtain ⟨R, hR⟩ : ∃ R, DF s1 t = R := ⟨_, rfl⟩
  rw [hR]
  have hle := declaration_le hs
  have hst : ∀ w1, Rd b s1 x w1 → Bar b w w1 → DocRel b mm B R w s1.1.length w1 := fun w1 hR1 hB1 => ⟨s1, t, x, rfl, hR, h.step hR1 hB1 hle, hB1.below h.hB h.blt⟩
  have HST0 := Lib.hid hst
  clear hst hR h hd hs
  go_enter Tryz.func20, Tryz.ntmps20
  go_wp2_with (first | (go_at_call 37; refine hdc.mono ?_; rintro e w1 ⟨rfl, rfl⟩) | (go_at_call 38; refine hdn.mono ?_; rintro e w1 ⟨rfl, hR1, hB1⟩; have HST := Lib.hid (HST0.out _ hR1 hB1); clear hR1 hB1))
  go_loopg [] s1.1.length (fun g wr => DocRel b mm B R w g wr)
  case atStart => exact HST.out
  case round =>
    obtain ⟨⟨l1, p⟩, t, x1, hg, hDF, hI, hbel⟩ := hrel
    obtain ⟨c0, c1, c2⟩ := hI.rd.cells
    have hBlt := hI.blt
    have HBel := Lib.hid hbel
    cases l1 with
    | nil =>
      have hre : R = .ok (K.endText t) := hDF.symm.trans (DF_nil p t)
      replace c0 : wr.cell? ⟨b, 0, none⟩ = some (.string ⟨#[]⟩) := c0
      have hen := endText_any b mm B ([], p) t x1 wr hI h12
      unfold Ended at hen
      have HRE := Lib.hid hre
      clear hre hDF hI hbel c1 c2
      go_wp2_with (go_at_call 40; refine hen.mono ?_; rintro e w2 ⟨rfl, x2, hI2, hb2, _, _, _⟩; have HI2 := Lib.hid hI2; have HB2 := Lib.hid hb2; clear hI2 hb2)
      first | go_end0 | refine bodyPost_ret (results_none rfl _ _ _) rfl ?_
      rw [HRE.out]
      exact ⟨rfl, _, _, x2, HI2.out, HBel.out.trans HB2.out⟩
    | cons c r =>
      have hne0 := n8_some c r
      have hpt := part_any b mm B (c :: r, p) t x1 wr hI h12
      simp only [List.length_cons] at hg
      cases hp : K.part (c :: r, p) t with
      | error er =>
        rw [hp] at hpt
        have hre : R = .error er := hDF.symm.trans (DF_err hp)
        have HRE := Lib.hid hre
        clear hre hDF hI hbel c1 c2 hp
        go_wp2_with (go_at_call 39; refine hpt.mono ?_; rintro e w2 ⟨⟨fb, rfl, hfc⟩, hfb⟩)
        refine ⟨rfl, ?_⟩
        rw [HRE.out]
        exact ⟨⟨_, rfl, hfc⟩, HBel.out.trans hfb⟩
      | ok q =>
        obtain ⟨t1, s1⟩ := q
        have hlt := part_lt hp
        rw [hp] at hpt
        have hre : DF s1 t1 = R := (DF_ok hp).symm.trans hDF
        have HRE := Lib.hid hre
        clear hre hDF hI hbel c1 c2 hp
        go_wp2_with (go_at_call 39; refine hpt.mono ?_; rintro e w2 ⟨rfl, x2, hI2, hb2⟩; have HI2 := Lib.hid hI2; have HB2 := Lib.hid hb2; clear hI2 hb2)
        go_roundg s1.1.length
        case measure => omega
        case rel => exact ⟨s1, t1, x2, rfl, HRE.out, HI2.out, HBel.out.trans HB2.out⟩

set_option maxHeartbeats 8000000 in
set_option maxRecDepth 100000 in
theorem doc_wrong (b mm B : Nat) (s : K.St) (t : K.Told) (x : X6) (w : World) (h : Inv b mm B s t x w) (h12 : 12 ≤ B) (hd : K.declares s = true) (er : K.Er) (hs : K.declaration s = .error er) :
    Calls Tryz.prog 20 #[.pointer (some ⟨b, 0, none⟩)] w (DocStep b mm B w (.error er)) := by
  have hdc := declares_any b s x w h.rd
  rw [hd] at hdc
  have hdn := declaration_any b mm s x w h.rd h.env hd
  rw [hs] at hdn
  have hdn : Calls Tryz.prog 38 #[.pointer (some ⟨b, 0, none⟩)] w fun e w' => Fell er e w' ∧ Bar b w w' := hdn
  have hB := h.hB
  have hBlt := h.blt
  clear h hd hs
  go_enter Tryz.func20, Tryz.ntmps20
  go_wp2_with (first | (go_at_call 37; refine hdc.mono ?_; rintro e w1 ⟨rfl, rfl⟩) | (go_at_call 38; refine hdn.mono ?_; rintro e w1 ⟨⟨fb, rfl, hfc⟩, hfb⟩))
  exact ⟨rfl, ⟨_, rfl, hfc⟩, hfb.below hB hBlt⟩

theorem document_any (b mm B : Nat) (l : List Nat) (x : X6) (w : World) (h : Inv b mm B (l, (1, 1)) t0 x w) (h12 : 12 ≤ B) :
    Calls Tryz.prog 20 #[.pointer (some ⟨b, 0, none⟩)] w (DocStep b mm B w (K.document l)) := by
  rw [document_eq]
  cases hd : K.declares (l, (1, 1)) with
  | false => exact doc_plain b mm B _ _ x w h h12 hd
  | true =>
    rw [if_pos rfl]
    cases hs : K.declaration (l, (1, 1)) with
    | error er => exact doc_wrong b mm B _ _ x w h h12 hd er hs
    | ok s1 => exact doc_declared b mm B _ _ x w h h12 hd s1 hs
end Go.Proofs.YtdilngjolhmjnaaGreatDoor
namespace Go.Proofs.YtdilngjolhmjnaaGreatDoor
open Go.RowKit Go.Shelf Go.Maps
set_option linter.all false

/-- An entry of a map that is being laid, at the operation. -/
theorem wpList_insert_own {H : Type} {P : Program} (w : World) {ops : Array Oper} {rest : List Oper} {o : Oper} {a : Act} {Q : Exit → Act → World → Prop}
    (hg : o.guard = none) (m x v : Operand) (t : TypeId) (hop : o.op = Op.insert t m x v)
    (k e : TypeId) (K : Keyed P k) (ht : P.underlying t = some (.map k e)) (R : Value → Option (DataW H × List MemPlace)) (b n : Nat) (D : DataW H)
    (hm : a.eval m = .map (some b)) (hown : w.ownsMap P k R b n D) (hn : n < maxLen) (key val : Value) (kl : Lit) (hx : a.eval x = key) (hv : a.eval v = val) (hkey : keyOf P k key = some kl)
    (d : DataW H) (ps : List MemPlace) (hval : R val = some (d, ps))
    (hK : ∀ w', w'.ownsMap P k R b (n + 1) (D.put kl d) → w.grownBy w' (some b) → wpList P ops Q rest (a.put o.dst undef) w') :
    wpList P ops Q (o :: rest) a w := by
  refine wpList_plain hg fun K' hK' => ?_
  obtain ⟨w', hrun, r1, r2⟩ := hown.update K ht hn hkey hval
  unfold Oper.wp
  simp [execOp, hop, hm, hx, hv, hrun, Result.andThen]
  exact hK' _ _ (hK w' r1 r2)

/-- What newReader leaves. -/
def NewRet (l : List Nat) (N : Nat) (w : World) (e : Ending) (w' : World) : Prop :=
  ∃ b mm x, e = .returned (.pointer (some ⟨b, 0, none⟩)) ∧ Inv b mm N (l, (1, 1)) t0 x w' ∧ Below N w w'

set_option maxHeartbeats 8000000 in
set_option maxRecDepth 100000 in
theorem newReader_any (l : List Nat) (hl : (U.n8 l).length ≤ 65536) (hs : K.Sc l) (w : World) (hlow : Low w) (h12 : 12 ≤ w.heap.size) :
    Calls Tryz.prog 18 #[.string (bs (U.n8 l))] w (NewRet l w.heap.size w) := by
  have hmm := @run_makeMap Tryz.prog
  have hm0 : (w.alloc (.map #[] 0)).ownsMap Tryz.prog 9 (plainElem (H := Unit) Tryz.prog 21) w.heap.size 0 (.map []) := World.ownsMap_made w Tryz.prog 9 _
  have k1 : keyOf Tryz.prog 9 (.string ⟨#[38, 108, 116, 59]⟩) = some (keyL [38, 108, 116, 59]) := by kernel_rfl
  have k2 : keyOf Tryz.prog 9 (.string ⟨#[38, 103, 116, 59]⟩) = some (keyL [38, 103, 116, 59]) := by kernel_rfl
  have k3 : keyOf Tryz.prog 9 (.string ⟨#[38, 97, 109, 112, 59]⟩) = some (keyL [38, 97, 109, 112, 59]) := by kernel_rfl
  have k4 : keyOf Tryz.prog 9 (.string ⟨#[38, 113, 117, 111, 116, 59]⟩) = some (keyL [38, 113, 117, 111, 116, 59]) := by kernel_rfl
  have k5 : keyOf Tryz.prog 9 (.string ⟨#[38, 97, 112, 111, 115, 59]⟩) = some (keyL [38, 97, 112, 111, 115, 59]) := by kernel_rfl
  have v1 : plainElem (H := Unit) Tryz.prog 21 (.int .i32 60) = some (.lit (.int .i32 60), []) := by kernel_rfl
  have v2 : plainElem (H := Unit) Tryz.prog 21 (.int .i32 62) = some (.lit (.int .i32 62), []) := by kernel_rfl
  have v3 : plainElem (H := Unit) Tryz.prog 21 (.int .i32 38) = some (.lit (.int .i32 38), []) := by kernel_rfl
  have v4 : plainElem (H := Unit) Tryz.prog 21 (.int .i32 34) = some (.lit (.int .i32 34), []) := by kernel_rfl
  have v5 : plainElem (H := Unit) Tryz.prog 21 (.int .i32 39) = some (.lit (.int .i32 39), []) := by kernel_rfl
  have b0 : Below w.heap.size w (w.alloc (.map #[] 0)) := (Below.refl _ _).alloc (Nat.le_refl _) _
  have HLow := Lib.hid hlow
  have HSc := Lib.hid hs
  have HL := Lib.hid hl
  clear hlow hs hl
  go_enter Tryz.func18, Tryz.ntmps18
  go_wp2_with (refine wpList_insert_own _ rfl _ _ _ 51 rfl 9 21 law9 Tryz.underlying51 (plainElem (H := Unit) Tryz.prog 21) w.heap.size 0 (.map []) rfl hm0 (by decide) _ _ _ rfl rfl k1 _ [] v1 ?_; intro w1 hm1 hg1; refine wpList_insert_own _ rfl _ _ _ 51 rfl 9 21 law9 Tryz.underlying51 (plainElem (H := Unit) Tryz.prog 21) w.heap.size 1 _ rfl hm1 (by decide) _ _ _ rfl rfl k2 _ [] v2 ?_; intro w2 hm2 hg2; refine wpList_insert_own _ rfl _ _ _ 51 rfl 9 21 law9 Tryz.underlying51 (plainElem (H := Unit) Tryz.prog 21) w.heap.size 2 _ rfl hm2 (by decide) _ _ _ rfl rfl k3 _ [] v3 ?_; intro w3 hm3 hg3; refine wpList_insert_own _ rfl _ _ _ 51 rfl 9 21 law9 Tryz.underlying51 (plainElem (H := Unit) Tryz.prog 21) w.heap.size 3 _ rfl hm3 (by decide) _ _ _ rfl rfl k4 _ [] v4 ?_; intro w4 hm4 hg4; refine wpList_insert_own _ rfl _ _ _ 51 rfl 9 21 law9 Tryz.underlying51 (plainElem (H := Unit) Tryz.prog 21) w.heap.size 4 _ rfl hm4 (by decide) _ _ _ rfl rfl k5 _ [] v5 ?_; intro w5 hm5 hg5)
  have hN0 : w.heap.size ≤ (w.alloc (.map #[] 0)).heap.size := by rw [heap_size]; omega
  have hw : ∀ j, some w.heap.size = some j → w.heap.size ≤ j := fun j hj => by cases hj; exact Nat.le_refl _
  have b1 := b0.grown hg1 hN0 hw
  have b2 := b1.grown hg2 b1.size hw
  have b3 := b2.grown hg3 b2.size hw
  have b4 := b3.grown hg4 b3.size hw
  have b5 := b4.grown hg5 b4.size hw
  have b6 : Below w.heap.size w5 (w5.alloc (.cells #[.string (bs (U.n8 l)), .int .i64 1, .int .i64 1, .map (some w.heap.size), .slice none 0 0, .pointer none, .slice none 0 0, .int .i64 0, .int .i64 0] 57)) := (Below.refl _ _).alloc b5.size _
  have hnew := heap_new w5 (.cells #[.string (bs (U.n8 l)), .int .i64 1, .int .i64 1, .map (some w.heap.size), .slice none 0 0, .pointer none, .slice none 0 0, .int .i64 0, .int .i64 0] 57)
  have hmlt : w.heap.size < w5.heap.size := World.ownsMap.lt hm5
  have hll : l.length ≤ 65536 := Nat.le_trans (K.n8_length_le l) HL.out
  go_ret
  refine ⟨w5.heap.size, w.heap.size, (.map (some w.heap.size), .slice none 0 0, .pointer none, .slice none 0 0, .int .i64 0, .int .i64 0), rfl, ?_, b5.trans b6⟩
  refine ⟨⟨⟨HSc.out, HL.out, by have := HL.out; simp only; omega, by have := HL.out; simp only; omega⟩, hnew⟩, ⟨rfl, ?_, HLow.out.below (b5.trans b6) h12, by omega, by omega⟩, by omega, ⟨[], ⟨rfl, .inl ⟨rfl, rfl⟩⟩, rfl⟩, ⟨by omega, kindReader, hnew, .inl rfl, .slice none 0 0, rfl, World.ownsRowF_nil _ _ _ _⟩, fun h => absurd rfl h, ⟨0, 0, rfl, rfl⟩, (fun c hc => by cases hc), ?_, ?_⟩
  · exact World.ownsMap.alloc hm5 _
  · simp only [List.length_nil]; omega
  · simp only [List.length_nil, if_pos]; omega
end Go.Proofs.YtdilngjolhmjnaaGreatDoor
