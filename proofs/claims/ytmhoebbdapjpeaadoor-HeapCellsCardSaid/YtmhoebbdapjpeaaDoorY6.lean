/- Layer 8: which keys are indexes. Conditions: those that each theorem names. Layer 8: an object's keys: length, indexes. Conditions: those that each theorem names. Layer 8: putOwn. Conditions: those that each theorem names. -/
import Derived.Test.YtmhoebbdapjpeaaDoorY2
import Derived.Test.YtmhoebbdapjpeaaDoorY5
import Derived.Deep.LoopGhost
import Derived.Test.YtmhoebbdapjpeaaDoorHd
namespace Go.Proofs.YtmhoebbdapjpeaaDoor
open Go.RowKit Go.Maps
set_option linter.all false

/-- The number that k digits from unit i on say, behind n. -/
def digs (l : List UInt8) : Nat → Nat → Nat → Option Nat
  | 0, _, n => some n
  | k + 1, i, n => if U.unitAt l i < 48 ∨ 57 < U.unitAt l i then none else digs l k (i + 1) (10 * n + (U.unitAt l i - 48))
def idx (l : List UInt8) : Option Nat :=
  if l.length % 2 = 1 ∨ l.length / 2 = 0 ∨ 10 < l.length / 2 then none else
  match digs l (l.length / 2) 0 0 with
  | none => none
  | some n => if (U.unitAt l 0 = 48 ∧ 1 < l.length / 2) ∨ 2147483647 < n then none else some n
def idxAns (o : Option Nat) : Value := match o with
  | none => .tuple #[.int .i64 0, .bool false]
  | some n => .tuple #[.int .i64 (n : Int), .bool true]
def pow10 : Nat → Nat
  | 0 => 1
  | n + 1 => 10 * pow10 n
theorem pow10_le : ∀ {a b : Nat}, a ≤ b → pow10 a ≤ pow10 b
  | a, 0, h => by have : a = 0 := by omega
                  subst this; exact Nat.le_refl _
  | 0, b + 1, h => by have := pow10_le (a := 0) (b := b) (Nat.zero_le _); show 1 ≤ 10 * pow10 b; have : pow10 0 = 1 := rfl; omega
  | a + 1, b + 1, h => by have := pow10_le (a := a) (b := b) (by omega); show 10 * pow10 a ≤ 10 * pow10 b; omega
theorem idx_lt {l : List UInt8} {n : Nat} (h : idx l = some n) : n ≤ 2147483647 := by
  unfold idx at h
  split at h
  · cases h
  · split at h
    · cases h
    · split at h
      · cases h
      · rename_i h2
        cases h
        omega
theorem idx_of_bad {l : List UInt8} (h : l.length % 2 = 1 ∨ l.length / 2 = 0 ∨ 10 < l.length / 2) : idx l = none := by unfold idx; rw [if_pos h]
def IdxPost (o : Option Nat) (w : World) (e : Ending) (w' : World) : Prop := e = .returned (idxAns o) ∧ ∃ n, w' = w.drewN n
def IdxRel (l : List UInt8) (c : Nat) (w : World) (k i n : Nat) (wr : World) : Prop := i + k = c ∧ n < pow10 i ∧ digs l c 0 0 = digs l k i n ∧ ∃ m, wr = w.drewN m
set_option maxRecDepth 100000 in
set_option maxHeartbeats 2000000 in
theorem index_any (l : List UInt8) (hl : l.length ≤ 140737488355328) (w : World) :
    Calls Tryd.prog 9 #[.string (bs l)] w (IdxPost (idx l) w) := by
  have hsz : (bs l).size = l.length := bs_size l
  have hlen := length_any (bs l) (by rw [hsz]; exact hl)
  have hat := at_in (bs l) (by rw [hsz]; exact hl)
  have hls : ls (bs l) = l := rfl
  rw [hls] at hat
  rw [hsz] at hlen hat
  obtain ⟨S, hS⟩ : ∃ S, S = bs l := ⟨_, rfl⟩
  rw [← hS] at hlen hat hsz ⊢
  clear hS hls
  obtain ⟨c, hc⟩ : ∃ c, c = l.length / 2 := ⟨_, rfl⟩
  have hlen' : ∀ W, Calls Tryd.prog 31 #[.string S] W fun e w' => e = .returned (.int .i64 (c : Int)) ∧ W = w' := by
    intro W
    refine (hlen W).mono ?_
    rintro e w' ⟨rfl, rfl⟩
    exact ⟨ret_int (by omega), rfl⟩
  by_cases hbad : l.length % 2 = 1 ∨ l.length / 2 = 0 ∨ 10 < l.length / 2
  · have hi := idx_of_bad hbad
    rw [hi]
    have HP : Hid (∀ n, IdxPost none w (.returned (.tuple #[.int .i64 0, .bool false])) (w.drewN n)) := fun n => ⟨rfl, n, rfl⟩
    rw [← hc] at hbad
    rw [← hsz] at hl hbad
    clear hi hat hsz hlen hc
    by_cases h : S.size % 2 = 1
    · have h' : ((S.size : Int) % 2 != 0) = true := by rw [bne_iff_ne]; omega
      clear h hbad
      go_enter Tryd.func9, Tryd.ntmps9
      go_wp2_with (go_at_call 31; refine (hlen' _).mono ?_; rintro e w' ⟨rfl, rfl⟩)
      go_ret2
      exact HP.out 0
    · have h' : ((S.size : Int) % 2 != 0) = false := by rw [bne_eq_false_iff_eq]; omega
      by_cases h0 : c = 0
      · subst h0
        clear h hbad
        go_enter Tryd.func9, Tryd.ntmps9
        go_wp2_with (go_at_call 31; refine (hlen' _).mono ?_; rintro e w' ⟨rfl, rfl⟩)
        go_ret2
        exact HP.out 0
      · have h1 : ((c : Int) == 0) = false := beq_eq_false_iff_ne.2 (by omega)
        have h2 : (10 : Int) < (c : Int) := by omega
        clear h hbad h0
        go_enter Tryd.func9, Tryd.ntmps9
        go_wp2_with (go_at_call 31; refine (hlen' _).mono ?_; rintro e w' ⟨rfl, rfl⟩)
        go_ret2
        exact HP.out 0
  · have h' : ((S.size : Int) % 2 != 0) = false := by rw [bne_eq_false_iff_eq]; omega
    have h1 : ((c : Int) == 0) = false := beq_eq_false_iff_ne.2 (by omega)
    have h2 : (c : Int) ≤ 10 := by omega
    have hc0 : 0 < c := by omega
    have hev : l.length = 2 * c := by omega
    have hat' : ∀ (i : Nat), i < c → ∀ (W : World), Calls Tryd.prog 32 #[.string S, .int .i64 (i : Int)] W fun e w' => e = .returned (.tuple #[.int .i64 (U.unitAt l i : Nat), .bool true]) ∧ ∃ n, w' = W.drewN n := fun i hi W => hat i (by omega) W
    have hidx : idx l = match digs l c 0 0 with | none => none | some n => if (U.unitAt l 0 = 48 ∧ 1 < c) ∨ 2147483647 < n then none else some n := by
      unfold idx; rw [if_neg hbad, ← hc]
    have hul : ∀ i, U.unitAt l i < 65536 := by
      intro i
      unfold U.unitAt
      have h1 : U.g l (2 * i) < 256 := U.g_lt _ _
      have h2 : U.g l (2 * i + 1) < 256 := U.g_lt _ _
      omega
    obtain ⟨O, hO⟩ : ∃ O, idx l = O := ⟨_, rfl⟩
    rw [hO] at hidx ⊢
    have HI := Lib.hid hidx
    have HU := Lib.hid hul
    have HSt : Hid (IdxRel l c w c 0 0 w) := ⟨by omega, by decide, rfl, 0, rfl⟩
    clear hO hidx hbad hev hat hlen hsz hc hl hul
    go_enter Tryd.func9, Tryd.ntmps9
    go_wp2_with (go_at_call 31; refine (hlen' _).mono ?_; rintro e w' ⟨rfl, rfl⟩)
    go_loopg [5, 26] c (fun g nv iv wr => ∃ i n : Nat, nv = .int .i64 (n : Int) ∧ iv = .int .i64 (i : Int) ∧ Hid (IdxRel l c w g i n wr))
    case atStart => exact ⟨0, 0, rfl, rfl, HSt⟩
    case round =>
      obtain ⟨i, n, rfl, rfl, hrl⟩ := hrel
      have hk := hrl.out
      obtain ⟨hik, hn, hd, m, rfl⟩ := hk
      have hn10 : n < 10000000000 := Nat.lt_of_lt_of_le hn (pow10_le (b := 10) (by omega))
      have hi10 : i ≤ 10 := by omega
      cases gk with
      | zero =>
        have hic : i = c := by omega
        subst hic
        have h0 := hat' 0 hc0
        have hu0 := HU.out 0
        have hdg : digs l i 0 0 = some n := hd
        have hI := HI.out
        rw [hdg] at hI
        replace hI : O = if (U.unitAt l 0 = 48 ∧ 1 < i) ∨ 2147483647 < n then none else some n := hI
        clear hrl hd hdg hn hik HI
        obtain ⟨u, hu⟩ : ∃ u, u = U.unitAt l 0 := ⟨_, rfl⟩
        rw [← hu] at h0 hI hu0
        clear hu
        clear hn10 hi10 h' h1
        obtain ⟨z, hz⟩ : ∃ z : Int, z = (n : Int) := ⟨_, rfl⟩
        have HP : Hid (∀ k, IdxPost none w (.returned (.tuple #[.int .i64 0, .bool false])) (w.drewN k)) := fun n => ⟨rfl, n, rfl⟩
        have HP2 : Hid (∀ k, IdxPost (some n) w (.returned (.tuple #[.int .i64 z, .bool true])) (w.drewN k)) := fun k => ⟨by rw [hz]; rfl, k, rfl⟩
        have hB : O = if ((((u : Int) == 48) && decide ((1 : Int) < (i : Int))) || decide ((2147483647 : Int) < z)) = true then none else some n := by
          rw [hI]
          congr 1
          simp only [Bool.or_eq_true, Bool.and_eq_true, beq_iff_eq, decide_eq_true_eq]
          apply propext
          omega
        rw [← hz]
        clear hz hI hu0 h2 hc0 HU HSt
        obtain ⟨y, hy⟩ : ∃ y : Int, y = (u : Int) := ⟨_, rfl⟩
        rw [← hy] at h0 hB
        clear hy
        cases b1 : (y == 48) <;> cases b2 : decide ((1 : Int) < (i : Int)) <;> cases b3 : decide ((2147483647 : Int) < z)
        all_goals
          rw [b1, b2, b3] at hB
          first
            | (have hB' : O = none := hB
               subst hB'
               clear hB
               go_wp2_with (go_at_call 32; refine (h0 _).mono ?_; rintro e w' ⟨rfl, k, rfl⟩)
               go_ret2
               try rw [World.drewN_drewN]
               exact HP.out _)
            | (have hB' : O = some n := hB
               subst hB'
               clear hB
               go_wp2_with (go_at_call 32; refine (h0 _).mono ?_; rintro e w' ⟨rfl, k, rfl⟩)
               go_ret2
               try rw [World.drewN_drewN]
               exact HP2.out _)
      | succ gk =>
        have hic : i < c := by omega
        have h0 := hat' i hic
        have hu0 := HU.out i
        have hI := HI.out
        have hd' : digs l c 0 0 = if U.unitAt l i < 48 ∨ 57 < U.unitAt l i then none else digs l gk (i + 1) (10 * n + (U.unitAt l i - 48)) := hd
        have HN := Lib.hid hn
        have HIK := Lib.hid hik
        clear hrl hd hn hik
        obtain ⟨u, hu⟩ : ∃ u, u = U.unitAt l i := ⟨_, rfl⟩
        rw [← hu] at h0 hd' hu0
        have HU2 := Lib.hid hu
        clear hu h' h1
        by_cases hdig : u < 48 ∨ 57 < u
        · rw [if_pos hdig] at hd'
          rw [hd'] at hI
          replace hI : O = none := hI
          subst hI
          have HP : Hid (∀ k, IdxPost none w (.returned (.tuple #[.int .i64 0, .bool false])) (w.drewN k)) := fun n => ⟨rfl, n, rfl⟩
          clear hd' hn10 hi10 HI HU HSt h2 hc0 hu0
          obtain ⟨y, hy⟩ : ∃ y : Int, y = (u : Int) := ⟨_, rfl⟩
          by_cases hlo : u < 48
          · have d1 : y < 48 := by omega
            rw [← hy] at h0
            clear hdig hlo hy
            go_wp2_with (go_at_call 32; refine (h0 _).mono ?_; rintro e w' ⟨rfl, k, rfl⟩)
            go_ret2
            try rw [World.drewN_drewN]
            exact HP.out _
          · have d1 : ¬ y < 48 := by omega
            have d2 : 57 < y := by omega
            rw [← hy] at h0
            clear hdig hlo hy
            go_wp2_with (go_at_call 32; refine (h0 _).mono ?_; rintro e w' ⟨rfl, k, rfl⟩)
            go_ret2
            try rw [World.drewN_drewN]
            exact HP.out _
        · rw [if_neg hdig] at hd'
          have d1 : 48 ≤ (u : Int) := by omega
          have d2 : (u : Int) ≤ 57 := by omega
          have e1 : IntKind.i64.wrap (10 * (n : Int)) = 10 * (n : Int) := IntWalk.i64_in _ (by omega)
          have e2 : IntKind.i64.wrap (10 * (n : Int) + ((u : Int) - 48)) = 10 * (n : Int) + ((u : Int) - 48) := IntWalk.i64_in _ (by omega)
          have hR : ∀ k, IdxRel l c w gk (i + 1) (10 * n + (u - 48)) ((w.drewN m).drewN k) := by
            intro k
            refine ⟨by have := HIK.out; omega, ?_, ?_, _, World.drewN_drewN _ _ _⟩
            · have := HN.out
              show 10 * n + (u - 48) < 10 * pow10 i
              omega
            · rw [hd', HU2.out]
          have hcast : (10 * (n : Int) + ((u : Int) - 48)) = ((10 * n + (u - 48) : Nat) : Int) := by omega
          have HR := Lib.hid hR
          have HC := Lib.hid hcast
          clear hR hcast hdig hd' hI HI HU HSt hn10 HN HIK HU2 hc0 hu0
          go_wp2_with (go_at_call 32; refine (h0 _).mono ?_; rintro e w' ⟨rfl, k, rfl⟩)
          go_roundg gk
          case measure => omega
          case rel => exact ⟨i + 1, 10 * n + (u - 48), by rw [HC.out], by go_num, by rw [← World.drewN_drewN]; exact Lib.hid (HR.out _)⟩
end Go.Proofs.YtmhoebbdapjpeaaDoor
namespace Go.Proofs.YtmhoebbdapjpeaaDoor
open Go.RowKit Go.Maps
set_option linter.all false

def lenB : List UInt8 := [0, 108, 0, 101, 0, 110, 0, 103, 0, 116, 0, 104]
theorem bs_beq (a b : List UInt8) : ((bs a).toList == b) = decide (a = b) := by
  have : (bs a).toList = a := Lib.toList_data _
  rw [this, Bool.eq_iff_iff, beq_iff_eq, decide_eq_true_eq]
theorem isLength_any (b : Nat) (kind : Int) (l : List UInt8) (w : World) (hc : w.cell? ⟨b, 0, none⟩ = some (.int .i64 kind)) :
    Calls Tryd.prog 47 #[.pointer (some ⟨b, 0, none⟩), .string (bs l)] w fun e w' => e = .returned (.bool (decide (kind = 2) && decide (l = lenB))) ∧ w = w' := by
  by_cases h2 : kind = 2
  · subst h2
    have hd : ((bs l).toList == [0, 108, 0, 101, 0, 110, 0, 103, 0, 116, 0, 104]) = decide (l = lenB) := bs_beq l lenB
    rw [← hd, decide_eq_true rfl, Bool.true_and]
    clear hd
    generalize bs l = S
    go_enter Tryd.func47, Tryd.ntmps47
    go_wp2
    go_ret
    exact ⟨rfl, rfl⟩
  · have h2' : (kind == 2) = false := by simpa using h2
    rw [decide_eq_false h2, Bool.false_and]
    clear h2
    go_enter Tryd.func47, Tryd.ntmps47
    go_wp2
    go_ret
    exact ⟨rfl, rfl⟩
/-- An object's index: none of others than arrays. -/
def oIdx (kind : Int) (l : List UInt8) : Option Nat := if kind = 2 then idx l else none
theorem oIndex_any (b : Nat) (kind : Int) (l : List UInt8) (hl : l.length ≤ 140737488355328) (w : World) (hc : w.cell? ⟨b, 0, none⟩ = some (.int .i64 kind)) :
    Calls Tryd.prog 49 #[.pointer (some ⟨b, 0, none⟩), .string (bs l)] w (IdxPost (oIdx kind l) w) := by
  unfold oIdx
  by_cases h2 : kind = 2
  · subst h2
    rw [if_pos rfl]
    have hi := fun W => index_any l hl W
    have hI : ∀ W, Calls Tryd.prog 9 #[.string (bs l)] W fun e w' => ∃ (n : Int) (k : Bool), e = .returned (.tuple #[.int .i64 n, .bool k]) ∧ idxAns (idx l) = .tuple #[.int .i64 n, .bool k] ∧ ∃ d, w' = W.drewN d := by
      intro W
      refine (hi W).mono ?_
      rintro e w' ⟨rfl, hw⟩
      cases ho : idx l with
      | none => exact ⟨0, false, rfl, rfl, hw⟩
      | some n => exact ⟨n, true, rfl, rfl, hw⟩
    clear hi
    generalize bs l = S at *
    go_enter Tryd.func49, Tryd.ntmps49
    go_wp2_with (go_at_call 9; ((with_reducible refine (hI _).mono ?_); rintro e w' ⟨n, k, rfl, hn, d, rfl⟩; have HN := Lib.hid hn; clear hn))
    go_ret2
    exact ⟨by rw [HN.out]; rfl, d, rfl⟩
  · have h2' : (kind != 2) = true := by simpa using h2
    rw [if_neg h2]
    clear h2
    go_enter Tryd.func49, Tryd.ntmps49
    go_wp2
    go_ret2
    exact ⟨rfl, 0, rfl⟩
end Go.Proofs.YtmhoebbdapjpeaaDoor
namespace Go.Proofs.YtmhoebbdapjpeaaDoor
open Go.RowKit Go.Maps
set_option linter.all false

def setP (l : List (List UInt8 × V)) (k : List UInt8) (v : V) : List (List UInt8 × V) := l.map fun q => if q.1 = k then (q.1, v) else q
def hasP (l : List (List UInt8 × V)) (k : List UInt8) : Bool := l.any fun q => decide (q.1 = k)
def putP (l : List (List UInt8 × V)) (k : List UInt8) (v : V) : List (List UInt8 × V) := if hasP l k = true then setP l k v else l ++ [(k, v)]
theorem setP_L (L : List Pr) (k : List UInt8) (v : V) : (setL L k v).map (·.2) = setP (L.map (·.2)) k v := by
  unfold setL setP
  rw [List.map_map, List.map_map]
  congr 1
  funext q
  simp only [Function.comp]
  split <;> rfl
theorem hasP_L (L : List Pr) (k : List UInt8) : hasP (L.map (·.2)) k = L.any (fun q => decide (q.2.1 = k)) := by
  unfold hasP; rw [List.any_map]; rfl
theorem Gx.blk_mem (g : Gx) : g.blk ∈ g.blocks := by unfold Gx.blocks; exact List.mem_cons_self
theorem Gx.r_mem (g : Gx) {b : Nat} (h : b ∈ blocksR g.op g.L) : b ∈ g.blocks := by unfold Gx.blocks; exact List.mem_cons_of_mem _ (List.mem_append_left _ h)
theorem Gx.it_mem (g : Gx) {b : Nat} (h : b ∈ g.it.ownBlock.toList) : b ∈ g.blocks := by unfold Gx.blocks; exact List.mem_cons_of_mem _ (List.mem_append_right _ h)
theorem apart_R {b m r : Nat} {L : List Pr} {it : Value} (h : (Gx.mk b (some (m, r)) L it).blocks.Nodup) : ApartR m r L ∧ b ∉ m :: r :: L.map (·.1) := by
  unfold Gx.blocks at h
  rw [List.nodup_cons, List.nodup_append] at h
  exact ⟨h.2.1, fun hb => h.1 (List.mem_append_left _ hb)⟩
theorem ObAt.setProps {o : Ob} {h b m r : Nat} {L L' : List Pr} {it : Value} {w w' : World} (H : ObAt o ⟨b, some (m, r), L, it⟩ w) (hP : PropsR (some (m, r)) L' w') (hg : h ∉ (Gx.mk b (some (m, r)) L it).blocks) (hf : Fr (h :: m :: r :: L.map (·.1)) w w') (hlt : ∀ x ∈ (Gx.mk b (some (m, r)) L it).blocks, x < w.heap.size)
    (hA : (Gx.mk b (some (m, r)) L' it).blocks.Nodup) (hK : (L'.map (·.2.1)).Nodup) : ObAt { o with props := L'.map (·.2) } ⟨b, some (m, r), L', it⟩ w' := by
  have hb := (apart_R H.apart).2
  have hap := H.apart
  unfold Gx.blocks at hap
  rw [List.nodup_cons, List.nodup_append] at hap
  have hne : ∀ x ∈ (Gx.mk b (some (m, r)) L it).blocks, x ∉ m :: r :: L.map (·.1) → x ∉ h :: m :: r :: L.map (·.1) := by
    intro x hx h1 h2
    rcases List.mem_cons.1 h2 with rfl | h2
    · exact hg hx
    · exact h1 h2
  refine ⟨?_, hP, rfl, hA, hK, row_keep H.items (fun x hx => hf.block x (hlt x (Gx.it_mem _ hx)) (hne x (Gx.it_mem _ hx) (fun hm => hap.2.2.2 x hm x hx rfl)))⟩
  exact (hf.block b (hlt b (Gx.blk_mem _)) (hne b (Gx.blk_mem _) hb)).trans H.blk
theorem nodup_blocks {b m r : Nat} {L L' : List Pr} {it : Value} (h : (Gx.mk b (some (m, r)) L it).blocks.Nodup) (hs : (L'.map (·.1)).Nodup) {N : Nat} (hsub : ∀ x ∈ L'.map (·.1), x ∈ L.map (·.1) ∨ N ≤ x) (hlt : ∀ x ∈ (Gx.mk b (some (m, r)) L it).blocks, x < N) : (Gx.mk b (some (m, r)) L' it).blocks.Nodup := by
  have e : ∀ L, (Gx.mk b (some (m, r)) L it).blocks = [b, m, r] ++ (L.map (·.1) ++ it.ownBlock.toList) := fun L => rfl
  rw [e] at h hlt ⊢
  exact nodup_swap h hs hsub hlt
theorem Upd.props {h : Nat} {sv : Value} {left : Int} {o : Ob} {b m r : Nat} {L L' : List Pr} {it : Value} {w w' : World} (H : ObAt o ⟨b, some (m, r), L, it⟩ w) (hh : HpC h sv left w') (hP : PropsR (some (m, r)) L' w') (hg : h ∉ (Gx.mk b (some (m, r)) L it).blocks) (hf : Fr (h :: m :: r :: L.map (·.1)) w w') (hlt : ∀ x ∈ (Gx.mk b (some (m, r)) L it).blocks, x < w.heap.size)
    (hs : (L'.map (·.1)).Nodup) (hsub : ∀ x ∈ L'.map (·.1), (x ∈ L.map (·.1) ∨ w.heap.size ≤ x) ∧ x < w'.heap.size) (hK : (L'.map (·.2.1)).Nodup) : Upd h sv ⟨b, some (m, r), L, it⟩ { o with props := L'.map (·.2) } left w w' := by
  refine ⟨⟨⟨b, some (m, r), L', it⟩, rfl, H.setProps hP hg hf hlt (nodup_blocks H.apart hs (fun x hx => (hsub x hx).1) hlt) hK, ?_⟩, hh, ?_⟩
  · have e : ∀ L, (Gx.mk b (some (m, r)) L it).blocks = [b, m, r] ++ (L.map (·.1) ++ it.ownBlock.toList) := fun L => rfl
    intro x hx
    rw [e] at hx
    rw [e]
    rw [e] at hlt
    rcases List.mem_append.1 hx with h1 | h1
    · exact ⟨Or.inl (List.mem_append_left _ h1), Nat.lt_of_lt_of_le (hlt x (List.mem_append_left _ h1)) hf.size⟩
    · rcases List.mem_append.1 h1 with h1 | h1
      · exact ⟨(hsub x h1).1.imp (fun h => List.mem_append_right _ (List.mem_append_left _ h)) id, (hsub x h1).2⟩
      · exact ⟨Or.inl (List.mem_append_right _ (List.mem_append_right _ h1)), Nat.lt_of_lt_of_le (hlt x (List.mem_append_right _ (List.mem_append_right _ h1))) hf.size⟩
  · refine hf.mono (fun x hx => Or.inl ?_)
    rcases List.mem_cons.1 hx with rfl | hx
    · exact List.mem_cons_self
    · refine List.mem_cons_of_mem _ (Gx.r_mem _ ?_)
      exact hx
set_option maxRecDepth 100000 in
set_option maxHeartbeats 1000000 in
theorem putOwn_old (h : Nat) (sv : Value) (left : Int) (o : Ob) (g : Gx) (k : List UInt8) (hk : k.length ≤ maxLen) (vk : Int) (vn : Nat) (vt : List UInt8) (vr : Int) (w : World)
    (hh : HpC h sv left w) (hg : h ∉ g.blocks) (H : ObAt o g w) (hlt : ∀ x ∈ g.blocks, x < w.heap.size) (hp : hasP o.props k = true) :
    Calls Tryd.prog 51 #[.pointer (some ⟨h, 0, none⟩), .pointer (some ⟨g.blk, 0, none⟩), .string (bs k), .agg #[.int .i64 vk, .float .f64 vn, .string (bs vt), .int .i64 vr]] w fun e w' => e = .returned (.int .i64 0) ∧ Upd h sv g { o with props := setP o.props k ⟨vk, vn, vt, vr⟩ } left w w' := by
  obtain ⟨b, op, L, it⟩ := g
  have hpL : L.any (fun q => decide (q.2.1 = k)) = true := by rw [← hasP_L, ← H.eq]; exact hp
  obtain ⟨⟨x, k', v0⟩, hf⟩ : ∃ q, L.find? (fun q => decide (q.2.1 = k)) = some q := by
    rw [find_any, Option.isSome_iff_exists] at hpL; exact hpL
  obtain ⟨m, r, rfl⟩ : ∃ m r, op = some (m, r) := by
    rcases op with _ | ⟨m, r⟩
    · have : L = [] := H.props
      subst this
      cases hf
    · exact ⟨m, r, rfl⟩
  obtain ⟨hA, hbb⟩ := apart_R H.apart
  have hbl : b < w.heap.size := hlt b (Gx.blk_mem _)
  have hw1 : ∀ x ∈ (Gx.mk b (some (m, r)) L it).blocks, ∀ O, (w.alloc O).heap[x]? = w.heap[x]? := fun x hx O => Below.heap_alloc _ _ _ (hlt x hx)
  have hob : ∀ O, ObAt o ⟨b, some (m, r), L, it⟩ (w.alloc O) := fun O => H.keep (fun x hx => hw1 x hx O)
  have hltR : ∀ O, ∀ x ∈ blocksR (some (m, r)) L, x < (w.alloc O).drew.heap.size := fun O x hx => by
    show x < (w.alloc O).heap.size
    rw [heap_size]; have := hlt x (Gx.r_mem _ hx); omega
  have hhas : ∀ O, Calls Tryd.prog 69 #[.pointer (some ⟨b, 2, none⟩), .string (bs k)] (w.alloc O) fun e w' => e = .returned (.bool true) ∧ w.alloc O = w' := by
    intro O
    refine (pHas_any b (some (m, r)) L k hk (w.alloc O) (blk_cell (hob O).blk 2 _ rfl) (hob O).props).mono ?_
    rintro e w' ⟨rfl, rfl⟩
    exact ⟨by rw [hpL], rfl⟩
  have hput : ∀ O, Calls Tryd.prog 70 #[.pointer (some ⟨b, 2, none⟩), .string (bs k), .agg #[.int .i64 vk, .float .f64 vn, .string (bs vt), .int .i64 vr]] (w.alloc O).drew fun e w' => e = .returned (.tuple #[]) ∧ Upd h sv ⟨b, some (m, r), L, it⟩ { o with props := setP o.props k ⟨vk, vn, vt, vr⟩ } left w w' := by
    intro O
    have hobd : ObAt o ⟨b, some (m, r), L, it⟩ (w.alloc O).drew := (hob O).keep (fun _ _ => rfl)
    refine (pPut_old b m r L k hk vk vn vt vr (w.alloc O).drew (blk_cell hobd.blk 2 _ rfl) hobd.props hA H.keys (hltR O) x k' v0 hf).mono ?_
    rintro e w' ⟨rfl, hq⟩
    refine ⟨rfl, ?_⟩
    have hfr : Fr (m :: r :: L.map (·.1)) w w' := ((Fr.alloc w O).drew.mono (fun _ h => by cases h)).trans hq.fr (fun z hz => Or.inl (List.mem_cons_of_mem _ (List.mem_cons_of_mem _ hz)))
    have hU := Upd.props (h := h) (sv := sv) (left := left) (L' := setL L k ⟨vk, vn, vt, vr⟩) H ?_ hq.props hg (hfr.mono (fun _ h => Or.inl (List.mem_cons_of_mem _ h))) hlt (by rw [setL_blocks]; exact (List.nodup_cons.1 (List.nodup_cons.1 hA).2).2) ?_ ?_
    · rw [setP_L, ← H.eq] at hU; exact hU
    · exact (hfr.block h hh.lt (fun hm => hg (Gx.r_mem _ hm))).trans hh
    · intro y hy
      rw [setL_blocks] at hy
      exact ⟨Or.inl hy, Nat.lt_of_lt_of_le (hlt y (Gx.r_mem _ (List.mem_cons_of_mem _ (List.mem_cons_of_mem _ hy)))) hfr.size⟩
    · have : (setL L k ⟨vk, vn, vt, vr⟩).map (·.2.1) = L.map (·.2.1) := by
        unfold setL; rw [List.map_map]; congr 1; funext q; simp only [Function.comp]; split <;> rfl
      rw [this]; exact H.keys
  have hst := store_float
  generalize bs k = S at *
  generalize bs vt = T at *
  have HPUT := Lib.hid hput
  clear hput hltR hob hw1 hbl hbb hA hf hpL hp hlt H hg hh
  go_enter Tryd.func51, Tryd.ntmps51
  go_wp2_with (go_at_call 69; ((with_reducible refine (hhas _).mono ?_); rintro e w1 ⟨rfl, rfl⟩))
  have hbx := Bx.new vk vn T vr w
  obtain ⟨y0, y1, y2, y3⟩ := hbx.cells
  have hput := HPUT.out (.cells #[.int .i64 vk, .float .f64 vn, .string T, .int .i64 vr] 31)
  clear HPUT hbx hhas
  generalize w.alloc (.cells #[.int .i64 vk, .float .f64 vn, .string T, .int .i64 vr] 31) = W1 at *
  generalize w.heap.size = N at *
  go_still_tail 5, (by kernel_rfl)
  change wpList _ _ _ _ _ W1.drew
  go_wp2_with (go_at_call 70; ((with_reducible refine hput.mono ?_); rintro e w2 ⟨rfl, hU⟩; have HU := Lib.hid hU; clear hU))
  go_ret
  exact ⟨rfl, HU.out⟩
theorem putOwn_full (h : Nat) (sv : Value) (o : Ob) (g : Gx) (k : List UInt8) (hk : k.length ≤ maxLen) (vk : Int) (vn : Nat) (T : ByteArray) (vr : Int) (w : World)
    (hh : HpC h sv 0 w) (H : ObAt o g w) (hlt : ∀ x ∈ g.blocks, x < w.heap.size) (hp : hasP o.props k = false) :
    Calls Tryd.prog 51 #[.pointer (some ⟨h, 0, none⟩), .pointer (some ⟨g.blk, 0, none⟩), .string (bs k), .agg #[.int .i64 vk, .float .f64 vn, .string T, .int .i64 vr]] w fun e w' => e = .returned (.int .i64 112) ∧ Below w.heap.size w w' := by
  have hhas : ∀ O, Calls Tryd.prog 69 #[.pointer (some ⟨g.blk, 2, none⟩), .string (bs k)] (w.alloc O) fun e w' => e = .returned (.bool false) ∧ w.alloc O = w' := by
    intro O
    have hob : ObAt o g (w.alloc O) := H.keep (fun x hx => Below.heap_alloc _ _ _ (hlt x hx))
    refine (pHas_any g.blk g.op g.L k hk (w.alloc O) (blk_cell hob.blk 2 _ rfl) hob.props).mono ?_
    rintro e w' ⟨rfl, rfl⟩
    exact ⟨by rw [← hasP_L, ← H.eq, hp], rfl⟩
  have h1 := hh.c1
  have hl := hh.lt
  generalize bs k = S at *
  generalize g.blk = b at *
  clear H hlt hp hk hh
  have hst := store_float
  go_enter Tryd.func51, Tryd.ntmps51
  go_wp2_with (go_at_call 69; ((with_reducible refine (hhas _).mono ?_); rintro e w1 ⟨rfl, rfl⟩))
  go_ret
  exact ⟨rfl, (Below.refl _ _).alloc (Nat.le_refl _) _⟩
set_option maxRecDepth 100000 in
set_option maxHeartbeats 1000000 in
theorem putOwn_new (h : Nat) (sv : Value) (left : Nat) (hleft : left ≤ 10000) (o : Ob) (g : Gx) (k : List UInt8) (hk : k.length ≤ maxLen) (vk : Int) (vn : Nat) (vt : List UInt8) (vr : Int) (w : World)
    (hh : HpC h sv ((left + 1 : Nat) : Int) w) (hg : h ∉ g.blocks) (H : ObAt o g w) (hlt : ∀ x ∈ g.blocks, x < w.heap.size) (hp : hasP o.props k = false) (hn : o.props.length < maxLen) :
    Calls Tryd.prog 51 #[.pointer (some ⟨h, 0, none⟩), .pointer (some ⟨g.blk, 0, none⟩), .string (bs k), .agg #[.int .i64 vk, .float .f64 vn, .string (bs vt), .int .i64 vr]] w fun e w' => e = .returned (.int .i64 0) ∧ Upd h sv g { o with props := o.props ++ [(k, ⟨vk, vn, vt, vr⟩)] } (left : Int) w w' := by
  have hpL : g.L.any (fun q => decide (q.2.1 = k)) = false := by rw [← hasP_L, ← H.eq]; exact hp
  have hf : g.L.find? (fun q => decide (q.2.1 = k)) = none := by
    rw [find_any] at hpL
    cases hq : g.L.find? (fun q => decide (q.2.1 = k)) with
    | none => rfl
    | some q => rw [hq] at hpL; cases hpL
  have hnk : ∀ q ∈ g.L, q.2.1 ≠ k := by
    intro q hq e
    rw [List.any_eq_false] at hpL
    exact hpL q hq (by simpa using e)
  have hhas : ∀ O, Calls Tryd.prog 69 #[.pointer (some ⟨g.blk, 2, none⟩), .string (bs k)] (w.alloc O) fun e w' => e = .returned (.bool false) ∧ w.alloc O = w' := by
    intro O
    have hob : ObAt o g (w.alloc O) := H.keep (fun x hx => Below.heap_alloc _ _ _ (hlt x hx))
    refine (pHas_any g.blk g.op g.L k hk (w.alloc O) (blk_cell hob.blk 2 _ rfl) hob.props).mono ?_
    rintro e w' ⟨rfl, rfl⟩
    exact ⟨by rw [hpL], rfl⟩
  have hput : ∀ O, Calls Tryd.prog 70 #[.pointer (some ⟨g.blk, 2, none⟩), .string (bs k), .agg #[.int .i64 vk, .float .f64 vn, .string (bs vt), .int .i64 vr]] ((w.setCell ⟨h, 1, none⟩ (.int .i64 (left : Int))).alloc O).drew fun e w' => e = .returned (.tuple #[]) ∧ Upd h sv g { o with props := o.props ++ [(k, ⟨vk, vn, vt, vr⟩)] } (left : Int) w w' := by
    intro O
    obtain ⟨W, hW⟩ : ∃ W, W = ((w.setCell ⟨h, 1, none⟩ (.int .i64 (left : Int))).alloc O).drew := ⟨_, rfl⟩
    have hfr0 : Fr [h] w W := by rw [hW]; exact ((Fr.set w h 1 _).trans (Fr.alloc _ O) (fun _ h => by cases h)).drew
    have hWh : HpC h sv (left : Int) W := by
      rw [hW]
      have h1 : (w.setCell ⟨h, 1, none⟩ (.int .i64 (left : Int))).heap[h]? = _ := heap_set hh 1 _
      show ((w.setCell ⟨h, 1, none⟩ (.int .i64 (left : Int))).alloc O).heap[h]? = _
      rw [Below.heap_alloc _ _ _ (by rw [heap_size_set]; exact hh.lt), h1]
      rfl
    rw [← hW]
    clear hW
    have hkb : ∀ x ∈ g.blocks, W.heap[x]? = w.heap[x]? := fun x hx => hfr0.block x (hlt x hx) (fun hm => by simp only [List.mem_singleton] at hm; exact hg (hm ▸ hx))
    have hobW : ObAt o g W := H.keep hkb
    have hltW : ∀ x ∈ g.blocks, x < W.heap.size := fun x hx => Nat.lt_of_lt_of_le (hlt x hx) hfr0.size
    obtain ⟨b, op, L, it⟩ := g
    rcases op with _ | ⟨m, r⟩
    · have hL : L = [] := H.props
      subst hL
      refine (pPut_first b (.int .i64 o.kind) (.int .i64 o.proto) it (.int .i64 o.a) (.int .i64 o.b) (.int .i64 o.s) k hk vk vn vt vr W hobW.blk).mono ?_
      rintro e w' ⟨rfl, hq⟩
      refine ⟨rfl, ?_⟩
      obtain ⟨m, r, x, h1, h2, h3, h4, h5, h6⟩ := hq.ex
      have hbn : b ≠ h := fun e => hg (by rw [← e]; exact Gx.blk_mem _)
      have hbW : b < W.heap.size := hltW b (Gx.blk_mem _)
      have hitb : ∀ y ∈ it.ownBlock.toList, y < W.heap.size ∧ y ≠ b := by
        intro y hy
        refine ⟨hltW y (Gx.it_mem (Gx.mk b none [] it) hy), ?_⟩
        rintro rfl
        have := H.apart
        unfold Gx.blocks at this
        exact (List.nodup_cons.1 this).1 (List.mem_append_right _ hy)
      refine ⟨⟨⟨b, some (m, r), [(x, k, ⟨vk, vn, vt, vr⟩)], it⟩, rfl, ⟨h6, h5, ?_, ?_, ?_, ?_⟩, ?_⟩, ?_, ?_⟩
      · show o.props ++ _ = _
        rw [H.eq]; rfl
      · have hit : it.ownBlock.toList.Nodup := by
          cases it.ownBlock <;> simp
        show (b :: (m :: r :: [x] ++ it.ownBlock.toList)).Nodup
        rw [List.nodup_cons, List.nodup_append]
        refine ⟨?_, by simp; omega, hit, ?_⟩
        · intro hm
          rcases List.mem_append.1 hm with hm | hm
          · simp at hm; omega
          · exact (hitb b hm).2 rfl
        · intro a ha c hc e
          have := (hitb c hc).1
          simp at ha
          omega
      · simp
      · exact row_keep hobW.items (fun y hy => hq.fr.block y (hitb y hy).1 (fun hm => (hitb y hy).2 (by simpa using hm)))
      · intro y hy
        have hyc : y ∈ b :: (m :: r :: [x] ++ it.ownBlock.toList) := hy
        have hWw := hq.fr.size
        have hww := hfr0.size
        rcases List.mem_cons.1 hyc with rfl | hy1
        · exact ⟨Or.inl (Gx.blk_mem _), by omega⟩
        · rcases List.mem_append.1 hy1 with hy1 | hy1
          · simp at hy1
            exact ⟨Or.inr (by omega), by omega⟩
          · exact ⟨Or.inl (Gx.it_mem (Gx.mk b none [] it) hy1), by have := (hitb y hy1).1; omega⟩
      · exact (hq.fr.block h hWh.lt (fun hm => hbn (List.mem_singleton.1 hm).symm)).trans hWh
      · refine (hfr0.mono (fun z hz => Or.inl (by simp at hz; rw [hz]; exact List.mem_cons_self))).trans hq.fr (fun z hz => Or.inl ?_)
        simp at hz
        rw [hz]
        exact List.mem_cons_of_mem _ (Gx.blk_mem _)
    · obtain ⟨hA, hbb⟩ := apart_R H.apart
      have hltR : ∀ x ∈ blocksR (some (m, r)) L, x < W.heap.size := fun x hx => hltW x (Gx.r_mem (Gx.mk b (some (m, r)) L it) hx)
      have hLn : L.length < maxLen := by have := H.eq; rw [this, List.length_map] at hn; exact hn
      refine (pPut_new b m r L k hk vk vn vt vr W (blk_cell hobW.blk 2 _ rfl) (blk_cell hobW.blk 3 _ rfl) hobW.props hA hbb hltR hf hLn).mono ?_
      rintro e w' ⟨rfl, hq⟩
      refine ⟨rfl, ?_⟩
      obtain ⟨x, hx1, hx2, hP⟩ := hq.props
      have hfr : Fr (h :: m :: r :: L.map (·.1)) w w' := (hfr0.mono (fun z hz => Or.inl (by simp at hz; rw [hz]; exact List.mem_cons_self))).trans hq.fr (fun z hz => Or.inl (List.mem_cons_of_mem _ hz))
      have hxL : x ∉ L.map (·.1) := fun hm => by have := hltR x (List.mem_cons_of_mem _ (List.mem_cons_of_mem _ hm)); omega
      have hLnd := (List.nodup_cons.1 (List.nodup_cons.1 hA).2).2
      have hU := Upd.props (h := h) (sv := sv) (left := (left : Int)) (L' := L ++ [(x, k, ⟨vk, vn, vt, vr⟩)]) H ?_ hP hg hfr hlt ?_ ?_ ?_
      · rw [List.map_append, ← H.eq] at hU; exact hU
      · exact (hq.fr.block h hWh.lt (fun hm => hg (Gx.r_mem _ hm))).trans hWh
      · rw [List.map_append, List.nodup_append]
        refine ⟨hLnd, by simp, ?_⟩
        intro a ha c hc e
        simp at hc
        subst hc
        exact hxL (e ▸ ha)
      · intro y hy
        rw [List.map_append] at hy
        have := hq.fr.size
        have := hfr0.size
        rcases List.mem_append.1 hy with hy | hy
        · exact ⟨Or.inl hy, by have := hltR y (List.mem_cons_of_mem _ (List.mem_cons_of_mem _ hy)); omega⟩
        · simp at hy
          subst hy
          exact ⟨Or.inr (by omega), hx2⟩
      · rw [List.map_append, List.nodup_append]
        refine ⟨H.keys, by simp, ?_⟩
        intro a ha c hc e
        simp at hc
        subst hc
        rw [List.mem_map] at ha
        obtain ⟨q, hq, rfl⟩ := ha
        exact hnk q hq e
  have h1 := hh.c1
  have f1 := blk_free hh 1
  have hl := hh.lt
  have hst := store_float
  generalize bs k = S at *
  generalize bs vt = T at *
  have i1 : (((left + 1 : Nat) : Int) == 0) = false := beq_eq_false_iff_ne.2 (by omega)
  obtain ⟨z, hz⟩ : ∃ z : Int, z = ((left + 1 : Nat) : Int) := ⟨_, rfl⟩
  have hz1 : IntKind.i64.wrap (z - 1) = z - 1 := IntWalk.i64_in _ (by omega)
  have hzl : (left : Int) = z - 1 := by omega
  rw [← hz] at h1 i1
  rw [hzl] at hput ⊢
  have HPUT := Lib.hid hput
  clear hput hzl hz hpL hf hnk H hg hh hlt hp hn hk hleft
  generalize g.blk = b at *
  go_enter Tryd.func51, Tryd.ntmps51
  go_wp2_with (go_at_call 69; ((with_reducible refine (hhas _).mono ?_); rintro e w1 ⟨rfl, rfl⟩))
  have hput := HPUT.out (.cells #[.int .i64 vk, .float .f64 vn, .string T, .int .i64 vr] 31)
  have hbx := Bx.new vk vn T vr (w.setCell ⟨h, 1, none⟩ (.int .i64 (z - 1)))
  rw [heap_size_set] at hbx
  obtain ⟨y0, y1, y2, y3⟩ := hbx.cells
  clear HPUT hbx hhas
  generalize (w.setCell ⟨h, 1, none⟩ (.int .i64 (z - 1))).alloc (.cells #[.int .i64 vk, .float .f64 vn, .string T, .int .i64 vr] 31) = W1 at *
  generalize w.heap.size = N at *
  go_still_tail 5, (by kernel_rfl)
  change wpList _ _ _ _ _ W1.drew
  go_wp2_with (go_at_call 70; ((with_reducible refine hput.mono ?_); rintro e w2 ⟨rfl, hU⟩; have HU := Lib.hid hU; clear hU))
  go_ret
  exact ⟨rfl, HU.out⟩
end Go.Proofs.YtmhoebbdapjpeaaDoor
