/- Layer 8: the document's Index. Conditions: those that each theorem names. -/
import Derived.Test.YtmndmnajgfabnaaDoorIf
import Derived.Deep.LoopGhost
namespace Go.Proofs.YtmndmnajgfabnaaDoor
open Go.RowKit Go.Maps Go.Shelf
set_option linter.all false

theorem not_empty {S : ByteArray} (h : S ≠ ⟨#[]⟩) : S.toList.isEmpty = false := by
  rw [Lib.toList_data]
  cases hd : S.data.toList with
  | nil => exact absurd (str_ext (a := S) (b := ⟨#[]⟩) (by show S.data.toList = []; exact hd)) h
  | cons a r => rfl
theorem bs_inj8 {a b : List UInt8} (h : bs a = bs b) : a = b := congrArg (fun x : ByteArray => x.data.toList) h
set_option maxRecDepth 100000 in
set_option maxHeartbeats 2000000 in
theorem refIndex_any (l : List UInt8) (hl : l.length ≤ 1000) (w : World) :
    Calls Tryd.prog 10 #[.string (bs l)] w fun e w' => e = .returned (.int .i64 (refI l)) ∧ Fr [] w w' := by
  have hsz : (bs l).size = l.length := bs_size l
  have hat := refAt_in (bs l) (by rw [hsz]; omega)
  have hls : ls (bs l) = l := rfl
  rw [hls] at hat
  rw [hsz] at hat
  obtain ⟨R, hR⟩ : ∃ R, R = refI l := ⟨_, rfl⟩
  have hR1 : (l = [] ∨ l.length % 2 = 1 ∨ 20 < l.length) → R = -1 := fun h => by rw [hR]; unfold refI; rw [if_pos h]
  have hR2 : ¬ (l = [] ∨ l.length % 2 = 1 ∨ 20 < l.length) → digs l (l.length / 2) 0 0 = none → R = -1 := fun h h2 => by rw [hR]; unfold refI; rw [if_neg h, h2]
  have hR3 : ¬ (l = [] ∨ l.length % 2 = 1 ∨ 20 < l.length) → ∀ n, digs l (l.length / 2) 0 0 = some n → R = if 2147483647 < n ∨ bs (keyB (n : Int)) ≠ bs l then (-1 : Int) else (n : Int) := fun h n h2 => by
    rw [hR]; unfold refI; rw [if_neg h, h2]
    have : (bs (keyB (n : Int)) ≠ bs l) = (keyB (n : Int) ≠ l) := by
      apply propext
      exact ⟨fun h e => h (by rw [e]), fun h e => h (bs_inj8 e)⟩
    simp only [this]
  rw [← hR]
  clear hR
  have hE : l = [] ↔ bs l = ⟨#[]⟩ := ⟨fun h => by rw [h]; rfl, fun h => bs_inj8 h⟩
  obtain ⟨c, hc⟩ : ∃ c, c = l.length / 2 := ⟨_, rfl⟩
  by_cases hbad : l = [] ∨ l.length % 2 = 1 ∨ 20 < l.length
  · have hr := hR1 hbad
    subst hr
    rw [hE, ← hsz] at hbad
    clear hR1 hR2 hR3 hE hat hls hc
    obtain ⟨S, hS⟩ : ∃ S, S = bs l := ⟨_, rfl⟩
    rw [← hS] at hsz hbad ⊢
    have hs : S.size ≤ 1000 := by omega
    clear hS hsz hl
    by_cases h0 : S = ⟨#[]⟩
    · subst h0
      clear hbad
      go_enter Tryd.func10, Tryd.ntmps10
      go_wp2
      go_ret
      exact ⟨rfl, Fr.refl _ _⟩
    · have hem := not_empty h0
      by_cases h1 : S.size % 2 = 1
      · have h1' : (S.size : Int) % 2 = 1 := by omega
        clear hbad h1 h0
        go_enter Tryd.func10, Tryd.ntmps10
        go_wp2
        go_ret
        exact ⟨rfl, Fr.refl _ _⟩
      · have h1' : ((S.size : Int) % 2 == 1) = false := by rw [beq_eq_false_iff_ne]; omega
        have h2 : 20 < (S.size : Int) := by
          rcases hbad with h | h | h
          · exact absurd h h0
          · exact absurd h h1
          · omega
        clear hbad h1 h0
        go_enter Tryd.func10, Tryd.ntmps10
        go_wp2
        go_ret
        exact ⟨rfl, Fr.refl _ _⟩
  · replace hR2 := hR2 hbad
    replace hR3 := hR3 hbad
    have hne : bs l ≠ ⟨#[]⟩ := fun h => hbad (.inl (hE.2 h))
    have hc10 : c ≤ 10 := by omega
    have hc0 : 0 < c := by
      have : l ≠ [] := fun h => hbad (.inl h)
      have := List.length_pos_iff.2 this
      omega
    have hev : l.length = 2 * c := by omega
    rw [← hc] at hR2 hR3
    have hat' : ∀ (i : Nat), i < c → ∀ (W : World), Calls Tryd.prog 33 #[.string (bs l), .int .i64 (i : Int)] W fun e w' => e = .returned (.int .i64 (U.unitAt l i : Nat)) ∧ ∃ n, w' = W.drewN n := fun i hi W => hat i (by omega) W
    have hul : ∀ i, U.unitAt l i < 65536 := by
      intro i
      unfold U.unitAt
      have h1 : U.g l (2 * i) < 256 := U.g_lt _ _
      have h2 : U.g l (2 * i + 1) < 256 := U.g_lt _ _
      omega
    have hkey : ∀ (n : Nat), n ≤ 2147483647 → ∀ W, Calls Tryd.prog 12 #[.int .i64 (n : Int)] W fun e w' => e = .returned (.string (bs (keyB (n : Int)))) ∧ Fr [] W w' := fun n hn W => refKey_any (n : Int) (by omega) (by omega) W
    have hsc : (bs l).size = 2 * c := by omega
    have HE := Lib.hid hR2
    have HI := Lib.hid hR3
    have HU := Lib.hid hul
    have HAT := Lib.hid hat'
    have HK := Lib.hid hkey
    have HSt : Hid (IdxRel l c w c 0 0 w) := ⟨by omega, by decide, rfl, 0, rfl⟩
    clear hR1 hR2 hR3 hE hbad hat hls hul hat' hkey hc hev hsz hl
    obtain ⟨S, hS⟩ : ∃ S, S = bs l := ⟨_, rfl⟩
    rw [← hS] at hne hsc HI HAT ⊢
    clear hS
    have g1 : ((S.size : Int) % 2 == 1) = false := by rw [beq_eq_false_iff_ne]; omega
    have g2 : (S.size : Int) ≤ 20 := by omega
    have g3 : (S.size : Int) / 2 = (c : Int) := by omega
    have hem := not_empty hne
    have g4 : ¬ (20 : Int) < (S.size : Int) := by omega
    have HSC := Lib.hid hsc
    clear hne g2 hsc
    go_enter Tryd.func10, Tryd.ntmps10
    go_wp2
    go_loopg [3, 4, 5] c (fun g nv iv uv wr => ∃ i n : Nat, nv = .int .i64 (n : Int) ∧ iv = .int .i64 (i : Int) ∧ Hid (IdxRel l c w g i n wr))
    case atStart => exact ⟨0, 0, rfl, rfl, HSt⟩
    case round =>
      obtain ⟨i, n, rfl, rfl, hrl⟩ := hrel
      have hk := hrl.out
      obtain ⟨hik, hn, hd, m, rfl⟩ := hk
      have hn10 : n < 10000000000 := Nat.lt_of_lt_of_le hn (pow10_le (b := 10) (by omega))
      have hi10 : i ≤ 10 := by omega
      cases gk with
      | zero =>
        have hic : i = c := by omega
        subst hic
        have hdg : digs l i 0 0 = some n := hd
        have hI := HI.out n hdg
        have hkey := HK.out
        clear hrl hd hdg hn hik HI HE HU HAT HSt
        by_cases hM : 2147483647 < n
        · rw [if_pos (.inl hM)] at hI
          subst hI
          have hM' : 2147483647 < (n : Int) := by omega
          clear hM HK hkey
          go_wp2
          go_ret
          exact ⟨rfl, Fr.of_below ⟨rfl, rfl, rfl, Nat.le_refl _, fun _ _ => rfl⟩⟩
        · have hM' : (n : Int) ≤ 2147483647 := by omega
          have hk := hkey n (by omega)
          clear hkey HK
          generalize bs (keyB (n : Int)) = K at *
          by_cases hKS : K = S
          · subst hKS
            rw [if_neg (by rintro (h | h)
                           · exact hM h
                           · exact h rfl)] at hI
            subst hI
            clear hM
            go_wp2_with (go_at_call 12; ((with_reducible refine (hk _).mono ?_); rintro e w2 ⟨rfl, hf2⟩; have F2 := Lib.hid hf2; clear hf2))
            go_ret
            exact ⟨rfl, (Fr.of_below ⟨rfl, rfl, rfl, Nat.le_refl _, fun _ _ => rfl⟩ : Fr [] w (w.drewN m)).trans F2.out (fun _ h => by cases h)⟩
          · rw [if_pos (.inr hKS)] at hI
            subst hI
            have hKS' : (K.toList == S.toList) = false := by
              rw [beq_eq_false_iff_ne, Lib.toList_data, Lib.toList_data]
              exact fun h => hKS (str_ext h)
            clear hM
            go_wp2_with (go_at_call 12; ((with_reducible refine (hk _).mono ?_); rintro e w2 ⟨rfl, hf2⟩; have F2 := Lib.hid hf2; clear hf2))
            go_ret
            exact ⟨rfl, (Fr.of_below ⟨rfl, rfl, rfl, Nat.le_refl _, fun _ _ => rfl⟩ : Fr [] w (w.drewN m)).trans F2.out (fun _ h => by cases h)⟩
      | succ gk =>
        have hic : i < c := by omega
        have h0 := HAT.out i hic
        have hu0 := HU.out i
        have hE := HE.out
        have hd' : digs l c 0 0 = if U.unitAt l i < 48 ∨ 57 < U.unitAt l i then none else digs l gk (i + 1) (10 * n + (U.unitAt l i - 48)) := hd
        have HN := Lib.hid hn
        have HIK := Lib.hid hik
        clear hrl hd hn hik
        obtain ⟨u, hu⟩ : ∃ u, u = U.unitAt l i := ⟨_, rfl⟩
        rw [← hu] at h0 hd' hu0
        have HU2 := Lib.hid hu
        clear hu
        by_cases hdig : u < 48 ∨ 57 < u
        · rw [if_pos hdig] at hd'
          have hR := hE hd'
          subst hR
          clear hd' hn10 hi10 HI HE HU HAT HSt hc0 hu0 hE HK
          obtain ⟨y, hy⟩ : ∃ y : Int, y = (u : Int) := ⟨_, rfl⟩
          by_cases hlo : u < 48
          · have d1 : y < 48 := by omega
            rw [← hy] at h0
            clear hdig hlo hy
            go_wp2_with (go_at_call 33; refine (h0 _).mono ?_; rintro e w' ⟨rfl, k, rfl⟩)
            go_ret
            exact ⟨rfl, Fr.of_below ⟨rfl, rfl, rfl, Nat.le_refl _, fun _ _ => rfl⟩⟩
          · have d1 : ¬ y < 48 := by omega
            have d2 : 57 < y := by omega
            rw [← hy] at h0
            clear hdig hlo hy
            go_wp2_with (go_at_call 33; refine (h0 _).mono ?_; rintro e w' ⟨rfl, k, rfl⟩)
            go_ret
            exact ⟨rfl, Fr.of_below ⟨rfl, rfl, rfl, Nat.le_refl _, fun _ _ => rfl⟩⟩
        · rw [if_neg hdig] at hd'
          have d1 : 48 ≤ (u : Int) := by omega
          have d2 : (u : Int) ≤ 57 := by omega
          have e1 : IntKind.i64.wrap ((n : Int) * 10) = (n : Int) * 10 := IntWalk.i64_in _ (by omega)
          have e2 : IntKind.i64.wrap ((n : Int) * 10 + (u : Int)) = (n : Int) * 10 + (u : Int) := IntWalk.i64_in _ (by omega)
          have e3 : IntKind.i64.wrap ((n : Int) * 10 + (u : Int) - 48) = (n : Int) * 10 + (u : Int) - 48 := IntWalk.i64_in _ (by omega)
          have hRR : ∀ k, IdxRel l c w gk (i + 1) (10 * n + (u - 48)) ((w.drewN m).drewN k) := by
            intro k
            refine ⟨by have := HIK.out; omega, ?_, ?_, _, World.drewN_drewN _ _ _⟩
            · have := HN.out
              show 10 * n + (u - 48) < 10 * pow10 i
              omega
            · rw [hd', HU2.out]
          have hcast : (n : Int) * 10 + (u : Int) - 48 = ((10 * n + (u - 48) : Nat) : Int) := by omega
          have HR := Lib.hid hRR
          have HC := Lib.hid hcast
          clear hRR hcast hdig hd' HI HE HU HAT HSt HN HIK HU2 hc0 hu0 hE HK
          go_wp2_with (go_at_call 33; refine (h0 _).mono ?_; rintro e w' ⟨rfl, k, rfl⟩)
          go_roundg gk
          case measure => omega
          case rel => exact ⟨i + 1, 10 * n + (u - 48), by rw [← HC.out], by go_num, by rw [← World.drewN_drewN]; exact Lib.hid (HR.out _)⟩
end Go.Proofs.YtmndmnajgfabnaaDoor
