/- The walk of the law UtfNext: for every text and place it answers true. -/
import Derived.Test.YtalhpihoblhacaaDoorAwake
namespace Go.Proofs.YtalhpihoblhacaaDoor
open Go.RowKit Go.Shelf
set_option linter.unusedVariables false

theorem char_any (s : ByteArray) (hs : s.size ≤ 140737488355328) (i : Int) (C N : Nat) (h : nextAt (ls s) i = (C, N)) (w : World) :
    Calls Tryd.prog 27 #[.string s, .int .i64 i] w fun e w' => e = .returned (.tuple #[.int .i64 (C : Int), .int .i64 (N : Int)]) ∧ w = w' := by
  by_cases ho : i < 0 ∨ (s.size : Int) ≤ i
  · rw [nextAt_out s i ho] at h
    injection h with h1 h2
    subst h1 h2
    exact char_out s i hs ho w
  · obtain ⟨k, rfl⟩ : ∃ k : Nat, i = k := ⟨i.toNat, by omega⟩
    have hk : k < s.size := by omega
    rw [nextAt_in s k hk] at h
    have hg : U.g ((ls s).drop k) 0 = (s[k]).toNat := g_drop s k 0 (by omega)
    have hlen : ((ls s).drop k).length = s.size - k := by rw [List.length_drop, ls_length]
    have hne : (ls s).drop k ≠ [] := by intro e; rw [e] at hlen; simp at hlen; omega
    have hlt := (s[k]).toNat_lt
    by_cases h1 : (s[k]).toNat < 128
    · rw [U.dec_ascii _ hne (by rw [hg]; exact h1), hg] at h
      injection h with e1 e2
      subst e1 e2
      exact char_ascii s k hs hk _ rfl (by omega) w
    · by_cases h2 : (s[k]).toNat < 192 ∨ 248 ≤ (s[k]).toNat
      · rw [U.dec_badlead _ (by rw [hg]; omega)] at h
        injection h with e1 e2
        subst e1 e2
        exact char_bad s k hs hk _ rfl (by omega) w
      · have hL : ∃ n c low, U.Lead (s[k]).toNat n c low := by
          unfold U.Lead
          by_cases h3 : (s[k]).toNat < 224
          · exact ⟨2, _, 128, .inl ⟨by omega, h3, rfl, rfl, rfl⟩⟩
          · by_cases h4 : (s[k]).toNat < 240
            · exact ⟨3, _, 2048, .inr (.inl ⟨by omega, h4, rfl, rfl, rfl⟩)⟩
            · exact ⟨4, _, 65536, .inr (.inr ⟨by omega, by omega, rfl, rfl, rfl⟩)⟩
        obtain ⟨n, c, low, hL⟩ := hL
        by_cases hn : k + n ≤ s.size
        · exact char_full s k hs hk _ rfl n c low hL hn C N h w
        · rw [U.dec_short _ n c low (by rw [hg]; exact hL) (by rw [hlen]; omega)] at h
          injection h with e1 e2
          subst e1 e2
          exact char_short s k hs hk _ rfl n c low hL (by omega) w

theorem law_next (b : ByteArray) (hs : b.size ≤ 140737488355328) (i : Int) (w : World) (hT : Lib.Utf8Tabs 0 1 w) :
    Calls Tryd.prog 5 #[.string b, .int .i64 i] w fun e w' => e = .returned (.bool true) ∧ Below w.heap.size w w' := by
  have HT := Lib.hid hT
  clear hT
  obtain ⟨C, N, hd⟩ : ∃ C N, nextAt (ls b) i = (C, N) := ⟨_, _, rfl⟩
  have cc := char_any b hs i C N hd
  cases N with
  | zero =>
    have hC : C = 0 := by
      unfold nextAt at hd
      split at hd
      · unfold U.dec at hd
        split at hd
        · injection hd with h1 h2; exact h1.symm
        · exfalso
          have hp : (U.decL ((ls b).drop i.toNat)).2 ≠ 0 := by
            unfold U.decL Lib.decodeN
            repeat' split
            all_goals simp
          rw [hd] at hp
          exact hp rfl
      · injection hd with h1 h2; exact h1.symm
    subst hC
    have cn := fun w hT => next_no b hs i 0 hd w hT
    have HD := Lib.hid hd
    clear hd
    go_enter Tryd.func5, Tryd.ntmps5
    go_wp2_with fail
    refine (awake_any _ HT.out).mono ?_
    rintro e w1 ⟨rfl, hb1⟩
    go_wp2_with fail
    refine (cn _ (Utf8Tabs_below HT.out hb1)).mono ?_
    rintro e w2 ⟨rfl, hb2⟩
    go_wp2_with fail
    refine (cc _).mono ?_
    rintro e w3 ⟨rfl, rfl⟩
    go_wp2
    go_ret
    exact ⟨rfl, hb1.trans (hb2.mono hb1.size)⟩
  | succ n =>
    have hin : 0 ≤ i ∧ i < (ls b).length := by
      unfold nextAt at hd
      split at hd
      · assumption
      · injection hd with h1 h2; cases h2
    obtain ⟨k, rfl⟩ : ∃ k : Nat, i = k := ⟨i.toNat, by omega⟩
    have hk : k < b.size := by have := hin.2; rw [ls_length] at this; omega
    rw [nextAt_in b k hk] at hd
    have cn := fun w hT => next_ok b hs k hk C n hd w hT
    have HD := Lib.hid hd
    have HI := Lib.hid hin
    clear hd hin
    go_enter Tryd.func5, Tryd.ntmps5
    go_wp2_with fail
    refine (awake_any _ HT.out).mono ?_
    rintro e w1 ⟨rfl, hb1⟩
    go_wp2_with fail
    refine (cn _ (Utf8Tabs_below HT.out hb1)).mono ?_
    rintro e w2 ⟨rfl, hb2⟩
    go_wp2_with fail
    refine (cc _).mono ?_
    rintro e w3 ⟨rfl, rfl⟩
    go_wp2
    go_ret
    exact ⟨rfl, hb1.trans (hb2.mono hb1.size)⟩
end Go.Proofs.YtalhpihoblhacaaDoor
