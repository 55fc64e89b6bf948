/- The reader's small steps: sees, take, want, breakOff, blanks, beginsName, name. Conditions: those that each theorem names. The reader's small steps, on: breakOff, beginsName, blanks, name. Conditions: those that each theorem names. -/
import Derived.Test.YtdilngjolhmjnaaGreatDoorA2
import Derived.Test.YtdilngjolhmjnaaGreatDoorShelf
import Derived.LoopTactic
namespace Go.Proofs.YtdilngjolhmjnaaGreatDoor
open Go.RowKit
set_option linter.all false

theorem Rd.cells {b : Nat} {s : K.St} {x : X6} {w : World} (h : Rd b s x w) :
    w.cell? ⟨b, 0, none⟩ = some (.string (bs (U.n8 s.1))) ∧ w.cell? ⟨b, 1, none⟩ = some (.int .i64 (s.2.1 : Int)) ∧ w.cell? ⟨b, 2, none⟩ = some (.int .i64 (s.2.2 : Int)) := by
  refine ⟨?_, ?_, ?_⟩ <;> rw [Lib.cell_of_heap h.2] <;> rfl
theorem Rd.free {b : Nat} {s : K.St} {x : X6} {w : World} (h : Rd b s x w) (i : Nat) : w.frozen? ⟨b, i, none⟩ = false := Lib.frozen_of_heap h.2 i
/-- A text of small characters. -/
def Small (t : List Nat) : Prop := ∀ c ∈ t, c < 128
theorem sees_n8 {t : List Nat} (ht : Small t) {s : K.St} (hs : K.Sc s.1) : Lib.hasPrefix (bs (U.n8 s.1)).data.toList (bs (K.b8 t)).data.toList = K.sees t s := by
  rw [bs_list, bs_list]
  exact K.pre_n8 t s.1 ht hs

theorem sees_any (t : List Nat) (ht : Small t) (b : Nat) (s : K.St) (x : X6) (w : World) (h : Rd b s x w) (q : ByteArray) (hq : q = bs (K.b8 t)) :
    Calls Tryz.prog 59 #[.pointer (some ⟨b, 0, none⟩), .string q] w fun e w' => e = .returned (.bool (K.sees t s)) ∧ w = w' := by
  obtain ⟨c0, _, _⟩ := h.cells
  have he := sees_n8 ht h.1.sc
  subst hq
  rw [← he]
  clear he
  generalize hm : bs (U.n8 s.1) = m at c0
  clear hm h
  go_enter Tryz.func59, Tryz.ntmps59
  go_wp2_with (go_at_call 54; refine (Tryz.strings_HasPrefix _ _ _).mono ?_; rintro e w' ⟨rfl, rfl⟩)
  go_ret
  exact ⟨rfl, rfl⟩

/-- What take leaves, and tells. -/
def Took (b : Nat) (s : K.St) (x : X6) (k : Nat) (w : World) (e : Ending) (w' : World) : Prop :=
  e = .returned (.string (bs (U.n8 (s.1.take k)))) ∧ Rd b (K.skip s k) x w' ∧ Bar b w w'
theorem n8_take_le (l : List Nat) (k : Nat) : (U.n8 (l.take k)).length ≤ (U.n8 l).length := by
  have := congrArg List.length (U.n8_append (l.take k) (l.drop k))
  rw [List.take_append_drop, List.length_append] at this
  omega
theorem Rd.mk_cells {b : Nat} {s : K.St} {x : X6} {w : World} {c : Array Value} {f : Nat × Nat} (hf : Fit s) (h : w.heap[b]? = some (.cells c 57 f))
    (hc : c = #[.string (bs (U.n8 s.1)), .int .i64 (s.2.1 : Int), .int .i64 (s.2.2 : Int), x.1, x.2.1, x.2.2.1, x.2.2.2.1, x.2.2.2.2.1, x.2.2.2.2.2]) (hff : f = (0, 0)) : Rd b s x w := ⟨hf, by rw [h, hc, hff]⟩

set_option maxHeartbeats 1000000 in
theorem take_any (k : Nat) (b : Nat) (s : K.St) (x : X6) (w : World) (h : Rd b s x w) (n : Int) (hn : n = ((U.n8 (s.1.take k)).length : Int)) :
    Calls Tryz.prog 61 #[.pointer (some ⟨b, 0, none⟩), .int .i64 n] w (Took b s x k w) := by
  obtain ⟨c0, c1, c2⟩ := h.cells
  have f0 := h.free 0
  have f1 := h.free 1
  have f2 := h.free 2
  have hF := h.1
  have hle := n8_take_le s.1 k
  have hlen := hF.len
  have hsz : (bs (U.n8 s.1)).size = (U.n8 s.1).length := bs_size _
  have et : (bs (U.n8 s.1)).extract 0 (U.n8 (s.1.take k)).length = bs (U.n8 (s.1.take k)) := by rw [bs_take, K.n8_take]
  have ed : (bs (U.n8 s.1)).extract (U.n8 (s.1.take k)).length (bs (U.n8 s.1)).size = bs (U.n8 (s.1.drop k)) := by rw [bs_drop, K.n8_drop]
  have eb : (U.n8 (s.1.take k)).foldl K.advB s.2 = K.advs s.2 (s.1.take k) := K.advB_n8 _ _ (hF.sc.take k)
  have hb := behind_any (U.n8 (s.1.take k)) (by omega) s.2 (by have := hF.line; omega) (by have := hF.col; omega)
  rw [eb] at hb
  have hsk : K.skip s k = (s.1.drop k, K.advs s.2 (s.1.take k)) := rfl
  have hH := h.2
  have HH := Lib.hid hH
  have HF := Lib.hid (hF.skip k)
  have HK := Lib.hid hsk
  clear hH hsk eb hF h
  obtain ⟨m, hm⟩ : ∃ m, (U.n8 (s.1.take k)).length = m := ⟨_, rfl⟩
  subst hn
  rw [hm] at et ed hle ⊢
  obtain ⟨q, hq⟩ : ∃ q, K.advs s.2 (s.1.take k) = q := ⟨_, rfl⟩
  rw [hq] at hb
  have HQ := Lib.hid hq
  clear hq hm
  generalize hR : bs (U.n8 s.1) = R at c0 et ed hsz
  have HR := Lib.hid hR
  clear hR
  have h1 : m ≤ R.size := by omega
  have h2 : R.size ≤ 65536 := by omega
  have HT := Lib.hid et
  have HD := Lib.hid ed
  clear et ed hsz hle hlen
  go_enter Tryz.func61, Tryz.ntmps61
  go_wp2_with fail
  rw [HT.out]
  refine (hb _).mono ?_
  rintro e w1 ⟨rfl, hb1⟩
  have hH1 := Below.keep hb1 (heap_set HH.out 0 (.string (R.extract m R.size)))
  have g0 : w1.cell? ⟨b, 0, none⟩ = some (.string (R.extract m R.size)) := by rw [Lib.cell_of_heap hH1]; rfl
  have g1 : w1.cell? ⟨b, 1, none⟩ = some (.int .i64 (s.2.1 : Int)) := by rw [Lib.cell_of_heap hH1]; rfl
  have g2 : w1.cell? ⟨b, 2, none⟩ = some (.int .i64 (s.2.2 : Int)) := by rw [Lib.cell_of_heap hH1]; rfl
  have e1 : w1.frozen? ⟨b, 1, none⟩ = false := Lib.frozen_of_heap hH1 1
  have e2 : w1.frozen? ⟨b, 2, none⟩ = false := Lib.frozen_of_heap hH1 2
  have HH1 := Lib.hid hH1
  have HB1 := Lib.hid hb1
  clear hH1 hb1
  go_wp2
  go_ret
  refine ⟨rfl, ?_, ?_⟩
  · refine Rd.mk_cells HF.out (heap_set (heap_set HH1.out 1 _) 2 _) ?_ rfl
    rw [HK.out, HQ.out, HD.out]
    simp
  · exact (((Bar.set w 0 _).bel HB1.out).trans (Bar.set _ 1 _)).trans (Bar.set _ 2 _)

theorem fail_lit (z : Int) (n : Nat) (hz : z = n) (a c : Nat) (w : World) : Calls Tryz.prog 17 #[.int .i64 z, .agg #[.int .i64 (a : Int), .int .i64 (c : Int)]] w fun e w' => Fell (n, (a, c)) e w' ∧ Below w.heap.size w w' := by
  subst hz
  exact fail_any n a c w

/-- What a step of the reader leaves: what it tells and the reader behind it, or a fault. -/
def Step {α : Type} (b : Nat) (x : X6) (w : World) (ret : α → Value) (r : Except K.Er (α × K.St)) (e : Ending) (w' : World) : Prop := match r with
  | .ok (v, s) => e = .returned (ret v) ∧ Rd b s x w' ∧ Bar b w w'
  | .error er => Fell er e w' ∧ Bar b w w'
abbrev noRet : Unit → Value := fun _ => .tuple #[]
def unitOf (r : Except K.Er K.St) : Except K.Er (Unit × K.St) := match r with
  | .ok s => .ok ((), s)
  | .error e => .error e

theorem Below.bar {b : Nat} {w w' : World} (h : Below w.heap.size w w') : Bar b w w' := .of_below h

set_option maxHeartbeats 1000000 in
theorem want_any (t : List Nat) (ht : Small t) (b : Nat) (s : K.St) (x : X6) (w : World) (h : Rd b s x w) (q : ByteArray) (hq : q = bs (K.b8 t)) :
    Calls Tryz.prog 88 #[.pointer (some ⟨b, 0, none⟩), .string q] w (Step b x w noRet (unitOf (K.want t s))) := by
  obtain ⟨c0, c1, c2⟩ := h.cells
  have hsee := sees_any t ht b s x w h q hq
  have hqs : q.size = t.length := by rw [hq, bs_size]; simp [K.b8]
  by_cases hs : K.sees t s = true
  · have hr : unitOf (K.want t s) = .ok ((), K.skip s t.length) := by unfold K.want unitOf; rw [if_pos hs]
    rw [hr]
    rw [hs] at hsee
    have hpre : t <+: s.1 := List.isPrefixOf_iff_prefix.1 hs
    have htk : s.1.take t.length = t := (List.prefix_iff_eq_take.1 hpre).symm
    have hlen : (U.n8 (s.1.take t.length)).length = t.length := by rw [htk, K.n8_length_small t ht]
    have htake := take_any t.length b s x w h (t.length : Int) (by rw [hlen])
    have hle : t.length ≤ 65536 := by have := n8_take_le s.1 t.length; have := h.1.len; omega
    have HP : Hid (Rd b s x w) := h
    clear hr hs hpre htk hlen h hq
    go_enter Tryz.func88, Tryz.ntmps88
    go_wp2_with (go_at_call 59; refine hsee.mono ?_; rintro e w' ⟨rfl, rfl⟩)
    refine htake.mono ?_
    rintro e w1 ⟨rfl, hR, hB⟩
    go_wp2
    go_end0
    exact ⟨rfl, hR, hB⟩
  · have hs : K.sees t s = false := by simpa using hs
    have hr : unitOf (K.want t s) = .error (21, s.2) := by unfold K.want unitOf; rw [if_neg (by rw [hs]; decide)]
    rw [hr]
    rw [hs] at hsee
    clear hr hs hq h
    go_enter Tryz.func88, Tryz.ntmps88
    go_wp2_with (first | (go_at_call 59; refine hsee.mono ?_; rintro e w' ⟨rfl, rfl⟩) | (go_at_call 17; refine (fail_lit _ 21 rfl s.2.1 s.2.2 _).mono ?_; rintro e w' ⟨⟨fb, rfl, hfc⟩, hfb⟩))
    refine ⟨rfl, ⟨_, rfl, hfc⟩, ?_⟩
    exact .of_below hfb
end Go.Proofs.YtdilngjolhmjnaaGreatDoor
namespace Go.Proofs.YtdilngjolhmjnaaGreatDoor
open Go.RowKit
set_option linter.all false

theorem call_fail {b : Nat} {s : K.St} {x : X6} {w w' : World} (h : Bar b w w') {n : Nat} {w2 : World} (hb : Below w'.heap.size w' w2) : Bar b w w2 := h.bel hb

set_option maxHeartbeats 1000000 in
theorem breakOff_any (b : Nat) (s : K.St) (x : X6) (w : World) (h : Rd b s x w) :
    Calls Tryz.prog 91 #[.pointer (some ⟨b, 0, none⟩)] w fun e w' => Fell (21, K.advs s.2 s.1) e w' ∧ Bar b w w' := by
  obtain ⟨c0, c1, c2⟩ := h.cells
  have hsz := bs_size (U.n8 s.1)
  have hlen := h.1.len
  have htake := take_any s.1.length b s x w h ((bs (U.n8 s.1)).size : Int) (by rw [hsz, List.take_length])
  have hsk : K.skip s s.1.length = ([], K.advs s.2 s.1) := by unfold K.skip; rw [List.drop_length, List.take_length]
  unfold Took at htake
  rw [hsk] at htake
  generalize hR : bs (U.n8 s.1) = R at c0 hsz htake
  have HR := Lib.hid hR
  have h2 : R.size ≤ 65536 := by omega
  clear hR h hsk hsz hlen
  go_enter Tryz.func91, Tryz.ntmps91
  go_wp2_with fail
  refine htake.mono ?_
  rintro e w1 ⟨rfl, hR1, hB1⟩
  obtain ⟨d0, d1, d2⟩ := hR1.cells
  have HR1 : Hid (Rd b ([], K.advs s.2 s.1) x w1) := hR1
  clear hR1
  go_wp2_with (go_at_call 17; refine (fail_lit _ 21 rfl (K.advs s.2 s.1).1 (K.advs s.2 s.1).2 _).mono ?_; rintro e w' ⟨⟨fb, rfl, hfc⟩, hfb⟩)
  exact ⟨rfl, ⟨_, rfl, hfc⟩, hB1.bel hfb⟩

theorem begins_byte {c : Nat} (hs : U.scalar c) : ∃ b0 t, U.enc c = b0 :: t ∧ K.begins b0.toNat = K.begins c := by
  by_cases hc : c < 128
  · exact ⟨UInt8.ofNat c, [], K.enc_low hc, by rw [K.toNat_ofNat (by omega)]⟩
  · obtain ⟨b0, t, e, hb, _⟩ := K.enc_high (Nat.le_of_not_lt hc) hs
    refine ⟨b0, t, e, ?_⟩
    have h1 : K.begins b0.toNat = true := by unfold K.begins; simp; omega
    have h2 : K.begins c = true := by unfold K.begins; simp; omega
    rw [h1, h2]

theorem beginsName_any (b : Nat) (s : K.St) (x : X6) (w : World) (h : Rd b s x w) :
    Calls Tryz.prog 84 #[.pointer (some ⟨b, 0, none⟩)] w fun e w' => e = .returned (.bool (K.beginsS s)) ∧ w = w' := by
  obtain ⟨c0, c1, c2⟩ := h.cells
  obtain ⟨l, p⟩ := s
  cases l with
  | nil =>
    have hr : K.beginsS ([], p) = false := rfl
    rw [hr]
    have he : bs (U.n8 []) = ByteArray.empty := rfl
    simp only at c0
    rw [he] at c0
    clear h hr he
    go_enter Tryz.func84, Tryz.ntmps84
    go_wp2
    go_ret
    exact ⟨rfl, rfl⟩
  | cons c r =>
    have hr : K.beginsS (c :: r, p) = K.begins c := rfl
    rw [hr]
    obtain ⟨b0, t, e, hb⟩ := begins_byte h.1.sc.head
    have hn : U.n8 (c :: r) = b0 :: (t ++ U.n8 r) := by rw [U.n8_cons, e]; rfl
    have hsz := bs_size (U.n8 (c :: r))
    rw [hn, List.length_cons] at hsz
    simp only at c0
    have hop := opens_any b0.toNat (UInt8.toNat_lt _)
    rw [hb] at hop
    generalize hk : K.begins c = k at hop ⊢
    rw [hn] at c0
    have hne : (bs (b0 :: (t ++ U.n8 r))).toList.isEmpty = false := by rw [Lib.toList_data]; rfl
    have hg : 0 < (bs (b0 :: (t ++ U.n8 r))).size := by omega
    have hget : (bs (b0 :: (t ++ U.n8 r)))[0] = b0 := rfl
    generalize hR : bs (b0 :: (t ++ U.n8 r)) = R at c0 hg hget hne
    go_enter Tryz.func84, Tryz.ntmps84
    go_wp2_with (go_at_call 99; refine (hop _).mono ?_; rintro e w' ⟨rfl, rfl⟩)
    go_ret
    exact ⟨rfl, rfl⟩

/-- The length of a stretch at a text's head that a look ends. -/
structure Run (R : ByteArray) (p : UInt8 → Bool) (n : Nat) : Prop where
  le : n ≤ R.size
  yes : ∀ (k : Nat) (h : k < R.size), k < n → p R[k] = true
  no : ∀ (h : n < R.size), p R[n] = false
theorem takeWhile_run {α : Type} (p : α → Bool) : ∀ (l : List α), (l.takeWhile p).length ≤ l.length ∧ (∀ (k : Nat) (h : k < l.length), k < (l.takeWhile p).length → p l[k] = true) ∧ (∀ (h : (l.takeWhile p).length < l.length), p l[(l.takeWhile p).length] = false)
  | [] => ⟨Nat.le_refl _, fun k h => by simp at h, fun h => by simp at h⟩
  | x :: l => by
    obtain ⟨h1, h2, h3⟩ := takeWhile_run p l
    by_cases hp : p x = true
    · have e : (x :: l).takeWhile p = x :: l.takeWhile p := by rw [List.takeWhile_cons, if_pos hp]
      rw [e]
      refine ⟨by simp only [List.length_cons]; omega, ?_, ?_⟩
      · intro k h hk
        cases k with
        | zero => exact hp
        | succ k => exact h2 k (by simp at h; omega) (by simp at hk; omega)
      · intro h
        simp only [List.length_cons, List.getElem_cons_succ]
        exact h3 (by simp at h; omega)
    · have e : (x :: l).takeWhile p = [] := by rw [List.takeWhile_cons, if_neg hp]
      rw [e]
      refine ⟨Nat.zero_le _, fun k _ hk => by simp at hk, fun _ => by simpa using hp⟩
theorem run_of (l : List UInt8) (p : UInt8 → Bool) : Run (bs l) p (l.takeWhile p).length := by
  obtain ⟨h1, h2, h3⟩ := takeWhile_run p l
  have hs := bs_size l
  refine ⟨by omega, ?_, ?_⟩
  · intro k h hk
    exact (congrArg p (bs_get l k h (by omega))).trans (h2 k (by omega) hk)
  · intro h
    exact (congrArg p (bs_get l _ h (by omega))).trans (h3 (by omega))
def blankB (x : UInt8) : Bool := K.blank x.toNat
def goesB (x : UInt8) : Bool := K.goes x.toNat
theorem looks_blank : K.Looks blankB K.blank false := by
  refine ⟨?_, ?_, ?_⟩
  · intro c hc; unfold blankB; rw [K.toNat_ofNat (by omega)]
  · intro b hb; unfold blankB K.blank; simp; omega
  · intro c hc; unfold K.blank; simp; omega
theorem looks_goes : K.Looks goesB K.goes true := by
  refine ⟨?_, ?_, ?_⟩
  · intro c hc; unfold goesB; rw [K.toNat_ofNat (by omega)]
  · intro b hb; unfold goesB K.goes K.begins; simp; omega
  · intro c hc; unfold K.goes K.begins; simp; omega
theorem takeWhile_take {α : Type} (p : α → Bool) (l : List α) : l.take (l.takeWhile p).length = l.takeWhile p := by
  induction l with
  | nil => rfl
  | cons x l ih =>
    rw [List.takeWhile_cons]
    split
    · rw [List.length_cons, List.take_succ_cons, ih]
    · rfl

set_option maxHeartbeats 1000000 in
theorem blanks_any (b : Nat) (s : K.St) (x : X6) (w : World) (h : Rd b s x w) :
    Calls Tryz.prog 83 #[.pointer (some ⟨b, 0, none⟩)] w fun e w' => e = .returned (.bool (decide (0 < K.nblank s))) ∧ Rd b (K.blanks s) x w' ∧ Bar b w w' := by
  obtain ⟨c0, c1, c2⟩ := h.cells
  have hrun := run_of (U.n8 s.1) blankB
  have htw := K.takeWhile_n8 looks_blank s.1 h.1.sc
  have hsm : Small (s.1.takeWhile K.blank) := by
    intro c hc
    have := List.all_eq_true.1 List.all_takeWhile c hc
    unfold K.blank at this
    simp at this
    omega
  have hnl : ((U.n8 s.1).takeWhile blankB).length = K.nblank s := by rw [htw, K.n8_length_small _ hsm]; rfl
  rw [hnl] at hrun
  have htk : (U.n8 (s.1.take (K.nblank s))).length = K.nblank s := by
    unfold K.nblank
    rw [takeWhile_take, K.n8_length_small _ hsm]
  have htake := take_any (K.nblank s) b s x w h (K.nblank s : Int) (by rw [htk])
  have hsk : K.blanks s = K.skip s (K.nblank s) := rfl
  rw [hsk]
  have hsz := bs_size (U.n8 s.1)
  have hlen := h.1.len
  generalize hR : bs (U.n8 s.1) = R at c0 hsz hrun
  obtain ⟨n, hn⟩ : ∃ n, K.nblank s = n := ⟨_, rfl⟩
  rw [hn] at hrun htake ⊢
  have h2 : R.size ≤ 65536 := by omega
  have hle := hrun.le
  clear hR hsk htk hnl hsm htw hn hsz hlen h
  go_enter Tryz.func83, Tryz.ntmps83
  go_wp2
  go_loop [3] (fun v => ∃ k : Nat, k ≤ n ∧ v = .int .i64 (k : Int)) (fun v => n - (intOf v).toNat)
  case atStart => exact ⟨0, Nat.zero_le _, rfl⟩
  case round =>
    obtain ⟨k, hk, rfl⟩ := hrel
    by_cases hkn : k < n
    · have hks : k < R.size := by omega
      obtain ⟨b0, hb0⟩ : ∃ b0, R[k] = b0 := ⟨_, rfl⟩
      have hy := hrun.yes k hks hkn
      rw [hb0] at hy
      have hbl := isBlank_any b0.toNat (by have := UInt8.toNat_lt b0; omega)
      have hy2 : K.blank b0.toNat = true := hy
      rw [hy2] at hbl
      have hv : b0.toNat < 256 := UInt8.toNat_lt _
      have hki : (k : Int) < (R.size : Int) := by omega
      clear hy hy2 hrun htake
      go_wp2_with (go_at_call 60; refine (hbl _).mono ?_; rintro e w' ⟨rfl, rfl⟩)
      go_round
      case rel => exact ⟨k + 1, by omega, by go_num⟩
      case measure => simp [intOf]; omega
    · have hkn' : k = n := by omega
      subst hkn'
      by_cases hks : k < R.size
      · obtain ⟨b0, hb0⟩ : ∃ b0, R[k] = b0 := ⟨_, rfl⟩
        have hy := hrun.no hks
        rw [hb0] at hy
        have hbl := isBlank_any b0.toNat (by have := UInt8.toNat_lt b0; omega)
        have hy2 : K.blank b0.toNat = false := hy
        rw [hy2] at hbl
        have hv : b0.toNat < 256 := UInt8.toNat_lt _
        have hki : (k : Int) < (R.size : Int) := by omega
        clear hy hy2 hrun
        go_wp2_with (first | (go_at_call 60; refine (hbl _).mono ?_; rintro e w' ⟨rfl, rfl⟩) | (go_at_call 61; refine htake.mono ?_; rintro e w' ⟨rfl, hR1, hB1⟩))
        go_ret
        exact ⟨by simp, hR1, hB1⟩
      · have hki : ¬ (k : Int) < (R.size : Int) := by omega
        clear hrun
        go_wp2_with (first | (go_at_call 61; refine htake.mono ?_; rintro e w' ⟨rfl, hR1, hB1⟩))
        go_ret
        exact ⟨by simp, hR1, hB1⟩
end Go.Proofs.YtdilngjolhmjnaaGreatDoor
