/- Layer 8: which keys are indexes. Conditions: those that each theorem names. -/
import Derived.Test.YtmndmnajgfabnaaDoorH2
import Derived.Test.YtmndmnajgfabnaaDoorW4
import Derived.Deep.LoopGhost
namespace Go.Proofs.YtmndmnajgfabnaaDoor
open Go.RowKit Go.Maps
set_option linter.all false

/-- The number that k digits from unit i on say, behind n. -/
def digs (l : List UInt8) : Nat → Nat → Nat → Option Nat
  | 0, _, n => some n
  | k + 1, i, n => if U.unitAt l i < 48 ∨ 57 < U.unitAt l i then none else digs l k (i + 1) (10 * n + (U.unitAt l i - 48))
def idx (l : List UInt8) : Option Nat :=
  if l.length % 2 = 1 ∨ l.length / 2 = 0 ∨ 10 < l.length / 2 then none else
  match digs l (l.length / 2) 0 0 with
  | none => none
  | some n => if (U.unitAt l 0 = 48 ∧ 1 < l.length / 2) ∨ 2147483647 < n then none else some n
def idxAns (o : Option Nat) : Value := match o with
  | none => .tuple #[.int .i64 0, .bool false]
  | some n => .tuple #[.int .i64 (n : Int), .bool true]
def pow10 : Nat → Nat
  | 0 => 1
  | n + 1 => 10 * pow10 n
theorem pow10_le : ∀ {a b : Nat}, a ≤ b → pow10 a ≤ pow10 b
  | a, 0, h => by have : a = 0 := by omega
                  subst this; exact Nat.le_refl _
  | 0, b + 1, h => by have := pow10_le (a := 0) (b := b) (Nat.zero_le _); show 1 ≤ 10 * pow10 b; have : pow10 0 = 1 := rfl; omega
  | a + 1, b + 1, h => by have := pow10_le (a := a) (b := b) (by omega); show 10 * pow10 a ≤ 10 * pow10 b; omega
theorem idx_lt {l : List UInt8} {n : Nat} (h : idx l = some n) : n ≤ 2147483647 := by
  unfold idx at h
  split at h
  · cases h
  · split at h
    · cases h
    · split at h
      · cases h
      · rename_i h2
        cases h
        omega
theorem idx_of_bad {l : List UInt8} (h : l.length % 2 = 1 ∨ l.length / 2 = 0 ∨ 10 < l.length / 2) : idx l = none := by unfold idx; rw [if_pos h]
def IdxPost (o : Option Nat) (w : World) (e : Ending) (w' : World) : Prop := e = .returned (idxAns o) ∧ ∃ n, w' = w.drewN n
def IdxRel (l : List UInt8) (c : Nat) (w : World) (k i n : Nat) (wr : World) : Prop := i + k = c ∧ n < pow10 i ∧ digs l c 0 0 = digs l k i n ∧ ∃ m, wr = w.drewN m
set_option maxRecDepth 100000 in
set_option maxHeartbeats 2000000 in
theorem index_any (l : List UInt8) (hl : l.length ≤ 140737488355328) (w : World) :
    Calls Tryd.prog 9 #[.string (bs l)] w (IdxPost (idx l) w) := by
  have hsz : (bs l).size = l.length := bs_size l
  have hlen := length_any (bs l) (by rw [hsz]; exact hl)
  have hat := at_in (bs l) (by rw [hsz]; exact hl)
  have hls : ls (bs l) = l := rfl
  rw [hls] at hat
  rw [hsz] at hlen hat
  obtain ⟨S, hS⟩ : ∃ S, S = bs l := ⟨_, rfl⟩
  rw [← hS] at hlen hat hsz ⊢
  clear hS hls
  obtain ⟨c, hc⟩ : ∃ c, c = l.length / 2 := ⟨_, rfl⟩
  have hlen' : ∀ W, Calls Tryd.prog 31 #[.string S] W fun e w' => e = .returned (.int .i64 (c : Int)) ∧ W = w' := by
    intro W
    refine (hlen W).mono ?_
    rintro e w' ⟨rfl, rfl⟩
    exact ⟨ret_int (by omega), rfl⟩
  by_cases hbad : l.length % 2 = 1 ∨ l.length / 2 = 0 ∨ 10 < l.length / 2
  · have hi := idx_of_bad hbad
    rw [hi]
    have HP : Hid (∀ n, IdxPost none w (.returned (.tuple #[.int .i64 0, .bool false])) (w.drewN n)) := fun n => ⟨rfl, n, rfl⟩
    rw [← hc] at hbad
    rw [← hsz] at hl hbad
    clear hi hat hsz hlen hc
    by_cases h : S.size % 2 = 1
    · have h' : ((S.size : Int) % 2 != 0) = true := by rw [bne_iff_ne]; omega
      clear h hbad
      go_enter Tryd.func9, Tryd.ntmps9
      go_wp2_with (go_at_call 31; refine (hlen' _).mono ?_; rintro e w' ⟨rfl, rfl⟩)
      go_ret2
      exact HP.out 0
    · have h' : ((S.size : Int) % 2 != 0) = false := by rw [bne_eq_false_iff_eq]; omega
      by_cases h0 : c = 0
      · subst h0
        clear h hbad
        go_enter Tryd.func9, Tryd.ntmps9
        go_wp2_with (go_at_call 31; refine (hlen' _).mono ?_; rintro e w' ⟨rfl, rfl⟩)
        go_ret2
        exact HP.out 0
      · have h1 : ((c : Int) == 0) = false := beq_eq_false_iff_ne.2 (by omega)
        have h2 : (10 : Int) < (c : Int) := by omega
        clear h hbad h0
        go_enter Tryd.func9, Tryd.ntmps9
        go_wp2_with (go_at_call 31; refine (hlen' _).mono ?_; rintro e w' ⟨rfl, rfl⟩)
        go_ret2
        exact HP.out 0
  · have h' : ((S.size : Int) % 2 != 0) = false := by rw [bne_eq_false_iff_eq]; omega
    have h1 : ((c : Int) == 0) = false := beq_eq_false_iff_ne.2 (by omega)
    have h2 : (c : Int) ≤ 10 := by omega
    have hc0 : 0 < c := by omega
    have hev : l.length = 2 * c := by omega
    have hat' : ∀ (i : Nat), i < c → ∀ (W : World), Calls Tryd.prog 32 #[.string S, .int .i64 (i : Int)] W fun e w' => e = .returned (.tuple #[.int .i64 (U.unitAt l i : Nat), .bool true]) ∧ ∃ n, w' = W.drewN n := fun i hi W => hat i (by omega) W
    have hidx : idx l = match digs l c 0 0 with | none => none | some n => if (U.unitAt l 0 = 48 ∧ 1 < c) ∨ 2147483647 < n then none else some n := by
      unfold idx; rw [if_neg hbad, ← hc]
    have hul : ∀ i, U.unitAt l i < 65536 := by
      intro i
      unfold U.unitAt
      have h1 : U.g l (2 * i) < 256 := U.g_lt _ _
      have h2 : U.g l (2 * i + 1) < 256 := U.g_lt _ _
      omega
    obtain ⟨O, hO⟩ : ∃ O, idx l = O := ⟨_, rfl⟩
    rw [hO] at hidx ⊢
    have HI := Lib.hid hidx
    have HU := Lib.hid hul
    have HSt : Hid (IdxRel l c w c 0 0 w) := ⟨by omega, by decide, rfl, 0, rfl⟩
    clear hO hidx hbad hev hat hlen hsz hc hl hul
    go_enter Tryd.func9, Tryd.ntmps9
    go_wp2_with (go_at_call 31; refine (hlen' _).mono ?_; rintro e w' ⟨rfl, rfl⟩)
    go_loopg [5, 26] c (fun g nv iv wr => ∃ i n : Nat, nv = .int .i64 (n : Int) ∧ iv = .int .i64 (i : Int) ∧ Hid (IdxRel l c w g i n wr))
    case atStart => exact ⟨0, 0, rfl, rfl, HSt⟩
    case round =>
      obtain ⟨i, n, rfl, rfl, hrl⟩ := hrel
      have hk := hrl.out
      obtain ⟨hik, hn, hd, m, rfl⟩ := hk
      have hn10 : n < 10000000000 := Nat.lt_of_lt_of_le hn (pow10_le (b := 10) (by omega))
      have hi10 : i ≤ 10 := by omega
      cases gk with
      | zero =>
        have hic : i = c := by omega
        subst hic
        have h0 := hat' 0 hc0
        have hu0 := HU.out 0
        have hdg : digs l i 0 0 = some n := hd
        have hI := HI.out
        rw [hdg] at hI
        replace hI : O = if (U.unitAt l 0 = 48 ∧ 1 < i) ∨ 2147483647 < n then none else some n := hI
        clear hrl hd hdg hn hik HI
        obtain ⟨u, hu⟩ : ∃ u, u = U.unitAt l 0 := ⟨_, rfl⟩
        rw [← hu] at h0 hI hu0
        clear hu
        clear hn10 hi10 h' h1
        obtain ⟨z, hz⟩ : ∃ z : Int, z = (n : Int) := ⟨_, rfl⟩
        have HP : Hid (∀ k, IdxPost none w (.returned (.tuple #[.int .i64 0, .bool false])) (w.drewN k)) := fun n => ⟨rfl, n, rfl⟩
        have HP2 : Hid (∀ k, IdxPost (some n) w (.returned (.tuple #[.int .i64 z, .bool true])) (w.drewN k)) := fun k => ⟨by rw [hz]; rfl, k, rfl⟩
        have hB : O = if ((((u : Int) == 48) && decide ((1 : Int) < (i : Int))) || decide ((2147483647 : Int) < z)) = true then none else some n := by
          rw [hI]
          congr 1
          simp only [Bool.or_eq_true, Bool.and_eq_true, beq_iff_eq, decide_eq_true_eq]
          apply propext
          omega
        rw [← hz]
        clear hz hI hu0 h2 hc0 HU HSt
        obtain ⟨y, hy⟩ : ∃ y : Int, y = (u : Int) := ⟨_, rfl⟩
        rw [← hy] at h0 hB
        clear hy
        cases b1 : (y == 48) <;> cases b2 : decide ((1 : Int) < (i : Int)) <;> cases b3 : decide ((2147483647 : Int) < z)
        all_goals
          rw [b1, b2, b3] at hB
          first
            | (have hB' : O = none := hB
               subst hB'
               clear hB
               go_wp2_with (go_at_call 32; refine (h0 _).mono ?_; rintro e w' ⟨rfl, k, rfl⟩)
               go_ret2
               try rw [World.drewN_drewN]
               exact HP.out _)
            | (have hB' : O = some n := hB
               subst hB'
               clear hB
               go_wp2_with (go_at_call 32; refine (h0 _).mono ?_; rintro e w' ⟨rfl, k, rfl⟩)
               go_ret2
               try rw [World.drewN_drewN]
               exact HP2.out _)
      | succ gk =>
        have hic : i < c := by omega
        have h0 := hat' i hic
        have hu0 := HU.out i
        have hI := HI.out
        have hd' : digs l c 0 0 = if U.unitAt l i < 48 ∨ 57 < U.unitAt l i then none else digs l gk (i + 1) (10 * n + (U.unitAt l i - 48)) := hd
        have HN := Lib.hid hn
        have HIK := Lib.hid hik
        clear hrl hd hn hik
        obtain ⟨u, hu⟩ : ∃ u, u = U.unitAt l i := ⟨_, rfl⟩
        rw [← hu] at h0 hd' hu0
        have HU2 := Lib.hid hu
        clear hu h' h1
        by_cases hdig : u < 48 ∨ 57 < u
        · rw [if_pos hdig] at hd'
          rw [hd'] at hI
          replace hI : O = none := hI
          subst hI
          have HP : Hid (∀ k, IdxPost none w (.returned (.tuple #[.int .i64 0, .bool false])) (w.drewN k)) := fun n => ⟨rfl, n, rfl⟩
          clear hd' hn10 hi10 HI HU HSt h2 hc0 hu0
          obtain ⟨y, hy⟩ : ∃ y : Int, y = (u : Int) := ⟨_, rfl⟩
          by_cases hlo : u < 48
          · have d1 : y < 48 := by omega
            rw [← hy] at h0
            clear hdig hlo hy
            go_wp2_with (go_at_call 32; refine (h0 _).mono ?_; rintro e w' ⟨rfl, k, rfl⟩)
            go_ret2
            try rw [World.drewN_drewN]
            exact HP.out _
          · have d1 : ¬ y < 48 := by omega
            have d2 : 57 < y := by omega
            rw [← hy] at h0
            clear hdig hlo hy
            go_wp2_with (go_at_call 32; refine (h0 _).mono ?_; rintro e w' ⟨rfl, k, rfl⟩)
            go_ret2
            try rw [World.drewN_drewN]
            exact HP.out _
        · rw [if_neg hdig] at hd'
          have d1 : 48 ≤ (u : Int) := by omega
          have d2 : (u : Int) ≤ 57 := by omega
          have e1 : IntKind.i64.wrap (10 * (n : Int)) = 10 * (n : Int) := IntWalk.i64_in _ (by omega)
          have e2 : IntKind.i64.wrap (10 * (n : Int) + ((u : Int) - 48)) = 10 * (n : Int) + ((u : Int) - 48) := IntWalk.i64_in _ (by omega)
          have hR : ∀ k, IdxRel l c w gk (i + 1) (10 * n + (u - 48)) ((w.drewN m).drewN k) := by
            intro k
            refine ⟨by have := HIK.out; omega, ?_, ?_, _, World.drewN_drewN _ _ _⟩
            · have := HN.out
              show 10 * n + (u - 48) < 10 * pow10 i
              omega
            · rw [hd', HU2.out]
          have hcast : (10 * (n : Int) + ((u : Int) - 48)) = ((10 * n + (u - 48) : Nat) : Int) := by omega
          have HR := Lib.hid hR
          have HC := Lib.hid hcast
          clear hR hcast hdig hd' hI HI HU HSt hn10 HN HIK HU2 hc0 hu0
          go_wp2_with (go_at_call 32; refine (h0 _).mono ?_; rintro e w' ⟨rfl, k, rfl⟩)
          go_roundg gk
          case measure => omega
          case rel => exact ⟨i + 1, 10 * n + (u - 48), by rw [HC.out], by go_num, by rw [← World.drewN_drewN]; exact Lib.hid (HR.out _)⟩
end Go.Proofs.YtmndmnajgfabnaaDoor
