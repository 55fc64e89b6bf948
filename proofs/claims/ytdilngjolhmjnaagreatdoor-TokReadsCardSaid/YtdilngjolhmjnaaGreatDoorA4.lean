/- The reader takes a name. Conditions: those that each theorem names. The five names of characters: the map that the reader holds, and the look for a name in it, in whatever order. Conditions: those that each theorem names. -/
import Derived.Test.YtdilngjolhmjnaaGreatDoorA3
import Derived.Deep.QuietTactic
import Derived.BigQuiet
import Derived.Maps.RangeWalk
namespace Go.Proofs.YtdilngjolhmjnaaGreatDoor
open Go.RowKit
set_option linter.all false

theorem advs_flat : ∀ (l : List Nat) (p : K.Pl), (∀ c ∈ l, c ≠ 10) → K.advs p l = (p.1, p.2 + l.length)
  | [], p, _ => rfl
  | c :: l, p, h => by
    rw [K.advs_cons, advs_flat l _ (fun x hx => h x (List.mem_cons_of_mem _ hx))]
    unfold K.adv
    rw [if_neg (h c List.mem_cons_self), List.length_cons]
    simp only
    rw [show p.2 + 1 + l.length = p.2 + (l.length + 1) by omega]
theorem goes_flat {c : Nat} (h : K.goes c = true) : c ≠ 10 := by
  rintro rfl
  exact absurd h (by decide)
theorem begins_goes {c : Nat} (h : K.begins c = true) : K.goes c = true := by unfold K.goes; rw [h]; rfl
abbrev nameOf (s : K.St) : List Nat := s.1.takeWhile K.goes
/-- How many bytes the name here has. -/
def nameLen (s : K.St) : Nat := (U.n8 (nameOf s)).length
theorem name_flat (s : K.St) : K.advs s.2 (nameOf s) = (s.2.1, s.2.2 + (nameOf s).length) :=
  advs_flat _ _ fun c hc => goes_flat (List.all_eq_true.1 List.all_takeWhile c hc)
theorem name_pos {s : K.St} (h : K.beginsS s = true) : 1 ≤ (nameOf s).length := by
  obtain ⟨l, p⟩ := s
  cases l with
  | nil => exact absurd (show false = true from h) (by decide)
  | cons c r =>
    have hb : K.begins c = true := h
    show 1 ≤ ((c :: r).takeWhile K.goes).length
    rw [List.takeWhile_cons, if_pos (begins_goes hb)]
    simp
abbrev strRet : List Nat → Value := fun n => .string (bs (U.n8 n))

set_option maxHeartbeats 2000000 in
theorem name_any (b : Nat) (s : K.St) (x : X6) (w : World) (h : Rd b s x w) :
    Calls Tryz.prog 87 #[.pointer (some ⟨b, 0, none⟩)] w (Step b x w strRet (K.name s)) := by
  obtain ⟨c0, c1, c2⟩ := h.cells
  have hbeg := beginsName_any b s x
  by_cases hB : K.beginsS s = true
  · have hrun := run_of (U.n8 s.1) goesB
    rw [K.takeWhile_n8 looks_goes s.1 h.1.sc] at hrun
    have hpos := name_pos hB
    have hle0 := K.n8_length_le (nameOf s)
    rw [hB] at hbeg
    have hbg := hbeg w h
    have hfl := name_flat s
    have htk : s.1.take (nameOf s).length = nameOf s := takeWhile_take _ _
    have hsz := bs_size (U.n8 s.1)
    have hF := h.1
    have hlen := hF.len
    have hline := hF.line
    have hcol := hF.col
    have hblt := lt_of_heap h.2
    have hnl : (nameOf s).length ≤ s.1.length := List.Sublist.length_le (List.takeWhile_sublist _)
    have hll := K.n8_length_le s.1
    have hsk : K.skip s (nameOf s).length = (s.1.drop (nameOf s).length, (s.2.1, s.2.2 + (nameOf s).length)) := by
      show (_, K.advs s.2 (s.1.take (nameOf s).length)) = _
      rw [htk, hfl]
    have hname : K.name s = if 64 < (nameOf s).length then .error (2, s.2) else .ok (nameOf s, K.skip s (nameOf s).length) := by
      unfold K.name; rw [if_pos hB]
    have htake := fun W (hW : Rd b s x W) => take_any (nameOf s).length b s x W hW ((U.n8 (nameOf s)).length : Int) (by rw [htk])
    unfold Took at htake
    rw [htk] at htake
    generalize hR : bs (U.n8 s.1) = R at c0 hsz hrun
    obtain ⟨n, hn⟩ : ∃ n, (U.n8 (nameOf s)).length = n := ⟨_, rfl⟩
    have h2 : R.size ≤ 65536 := by omega
    have hn1 : 1 ≤ n := by omega
    have hle : n ≤ R.size := by have := hrun.le; rw [hn] at this; exact this
    rw [hn] at htake hrun
    have HP : Hid (Rd b s x w) := h
    obtain ⟨m, hm⟩ : ∃ m, (nameOf s).length = m := ⟨_, rfl⟩
    have hmn : m ≤ n := by omega
    rw [hm] at hsk htake hname
    have HN := Lib.hid hname
    have HS := Lib.hid hsk
    have hmlen : m ≤ 65536 := by omega
    have hl1 : s.2.1 ≤ 65537 := by omega
    have hl2 : s.2.2 + m ≤ 65537 := by omega
    clear hR hsz hlen h hname hsk htk hfl hn hle0 hbeg hB hF hnl hll hpos hm hline hcol
    go_enter Tryz.func87, Tryz.ntmps87
    go_wp2_with (go_at_call 84; refine hbg.mono ?_; rintro e w' ⟨rfl, rfl⟩)
    go_loop [3] (fun v => ∃ k : Nat, k ≤ n ∧ v = .int .i64 (k : Int)) (fun v => n - (intOf v).toNat)
    case atStart => exact ⟨1, hn1, rfl⟩
    case round =>
      obtain ⟨k, hk, rfl⟩ := hrel
      by_cases hkn : k < n
      · have hks : k < R.size := by omega
        obtain ⟨b0, hb0⟩ : ∃ b0, R[k] = b0 := ⟨_, rfl⟩
        have hy := hrun.yes k hks hkn
        rw [hb0] at hy
        have hbl := goesOn_any b0.toNat (UInt8.toNat_lt _)
        have hy2 : K.goes b0.toNat = true := hy
        rw [hy2] at hbl
        have hv : b0.toNat < 256 := UInt8.toNat_lt _
        have hki : (k : Int) < (R.size : Int) := by omega
        clear hy hy2 hrun htake
        go_wp2_with (go_at_call 102; refine (hbl _).mono ?_; rintro e w' ⟨rfl, rfl⟩)
        go_round
        case rel => exact ⟨k + 1, by omega, by go_num⟩
        case measure => simp [intOf]; omega
      · have hkn' : k = n := by omega
        subst hkn'
        have hRd1 : Rd b s x (w.alloc (Obj.cells #[Value.int IntKind.i64 ↑s.2.1, Value.int IntKind.i64 ↑s.2.2] 29)) := HP.out.below ((Below.refl _ _).alloc (Nat.le_refl _) _)
        have htk1 := htake _ hRd1
        have hA := heap_new w (Obj.cells #[Value.int IntKind.i64 ↑s.2.1, Value.int IntKind.i64 ↑s.2.2] 29)
        have HA := Lib.hid hA
        have HR1 := Lib.hid hRd1
        have hNb : w.heap.size ≠ b := by omega
        rcases Nat.lt_or_ge k R.size with hks | hks
        case' inl =>
          obtain ⟨b0, hb0⟩ : ∃ b0, R[k] = b0 := ⟨_, rfl⟩
          have hy := hrun.no hks
          rw [hb0] at hy
          have hbl := goesOn_any b0.toNat (UInt8.toNat_lt _)
          have hy2 : K.goes b0.toNat = false := hy
          rw [hy2] at hbl
          have hv : b0.toNat < 256 := UInt8.toNat_lt _
          have hki : (k : Int) < (R.size : Int) := by omega
          clear hy hy2 hrun htake hRd1 hA
          go_wp2_with (first | (go_at_call 102; refine (hbl _).mono ?_; rintro e w' ⟨rfl, rfl⟩) | (go_at_call 61; refine htk1.mono ?_; rintro e w1 ⟨rfl, hR1, hB1⟩))
        case' inr =>
          have hki : ¬ (k : Int) < (R.size : Int) := by omega
          clear hrun htake hRd1 hA
          go_wp2_with (go_at_call 61; refine htk1.mono ?_; rintro e w1 ⟨rfl, hR1, hB1⟩)
        all_goals
          have hAA := Bar.keep hB1 hNb HA.out
          obtain ⟨d0, d1, d2⟩ := hR1.cells
          rw [HS.out] at d1 d2
          have a0 : w1.cell? ⟨w.heap.size, 0, none⟩ = some (.int .i64 (s.2.1 : Int)) := by rw [Lib.cell_of_heap hAA]; rfl
          have a1 : w1.cell? ⟨w.heap.size, 1, none⟩ = some (.int .i64 (s.2.2 : Int)) := by rw [Lib.cell_of_heap hAA]; rfl
          have d2' : w1.cell? ⟨b, 2, none⟩ = some (.int .i64 ((s.2.2 : Int) + (m : Int))) := by rw [d2]; simp
          have HB1 := Lib.hid hB1
          have HHR1 := Lib.hid hR1
          clear d2 d1 hAA hB1 hR1
          by_cases h64 : 64 < m
          · have hgt : 64 < (s.2.2 : Int) + (m : Int) - (s.2.2 : Int) := by omega
            go_quiet (fail)
            go_wp2_with (go_at_call 17; refine (fail_lit _ 2 rfl s.2.1 s.2.2 _).mono ?_; rintro e w' ⟨⟨fb, rfl, hfc⟩, hfb⟩)
            refine ⟨rfl, ?_⟩
            rw [HN.out, if_pos h64]
            exact ⟨⟨_, rfl, hfc⟩, ((Below.bar ((Below.refl _ _).alloc (Nat.le_refl _) _)).trans HB1.out).bel (show Below w1.heap.size w1 _ from ⟨hfb.os, hfb.tape, hfb.output, hfb.size, hfb.block⟩)⟩
          · have hgt : ¬ 64 < (s.2.2 : Int) + (m : Int) - (s.2.2 : Int) := by omega
            go_quiet (fail)
            go_wp2
            go_ret
            rw [HN.out, if_neg h64]
            exact ⟨rfl, HHR1.out, ((Below.bar ((Below.refl _ _).alloc (Nat.le_refl _) _)).trans HB1.out).bel (show Below w1.heap.size w1 _ from ⟨rfl, rfl, rfl, Nat.le_refl _, fun _ _ => rfl⟩)⟩
  · have hB : K.beginsS s = false := by simpa using hB
    have hr : K.name s = .error (21, s.2) := by unfold K.name; rw [if_neg (by rw [hB]; decide)]
    rw [hr]
    rw [hB] at hbeg
    have hbg := hbeg w h
    clear hbeg hr h hB
    go_enter Tryz.func87, Tryz.ntmps87
    go_wp2_with (first | (go_at_call 84; refine hbg.mono ?_; rintro e w' ⟨rfl, rfl⟩) | (go_at_call 17; refine (fail_lit _ 21 rfl s.2.1 s.2.2 _).mono ?_; rintro e w' ⟨⟨fb, rfl, hfc⟩, hfb⟩))
    exact ⟨rfl, ⟨_, rfl, hfc⟩, .of_below hfb⟩
end Go.Proofs.YtdilngjolhmjnaaGreatDoor
namespace Go.Proofs.YtdilngjolhmjnaaGreatDoor
open Go.RowKit Go.Maps
set_option linter.all false

def ent : List (List Nat × Nat) := [([38, 108, 116, 59], 60), ([38, 103, 116, 59], 62), ([38, 97, 109, 112, 59], 38), ([38, 113, 117, 111, 116, 59], 34), ([38, 97, 112, 111, 115, 59], 39)]
abbrev keyL (l : List Nat) : Lit := .string (K.b8 l)
def D5 : DataW Unit := (((((DataW.map []).put (keyL [38, 108, 116, 59]) (.lit (.int .i32 60))).put (keyL [38, 103, 116, 59]) (.lit (.int .i32 62))).put (keyL [38, 97, 109, 112, 59]) (.lit (.int .i32 38))).put (keyL [38, 113, 117, 111, 116, 59]) (.lit (.int .i32 34))).put (keyL [38, 97, 112, 111, 115, 59]) (.lit (.int .i32 39))
theorem D5_eq : D5 = .map [(keyL [38, 97, 109, 112, 59], .lit (.int .i32 38)), (keyL [38, 97, 112, 111, 115, 59], .lit (.int .i32 39)), (keyL [38, 103, 116, 59], .lit (.int .i32 62)), (keyL [38, 108, 116, 59], .lit (.int .i32 60)), (keyL [38, 113, 117, 111, 116, 59], .lit (.int .i32 34))] := by rfl
theorem D5_has {kl : Lit} (h : Maps.has D5 kl = true) : ∃ p ∈ ent, kl = keyL p.1 ∧ ∀ zd, D5.atKey kl zd = .lit (.int .i32 (p.2 : Int)) := by
  rw [D5_eq] at h ⊢
  rw [Maps.has_eq] at h
  cases kl with
  | string l =>
    simp only [List.any_cons, List.any_nil, Bool.or_false, Bool.or_eq_true, Lit.sameKey, beq_iff_eq] at h
    rcases h with h | h | h | h | h
    · exact ⟨([38, 97, 109, 112, 59], 38), by simp [ent], by rw [← h], fun zd => by rw [← h]; rfl⟩
    · exact ⟨([38, 97, 112, 111, 115, 59], 39), by simp [ent], by rw [← h], fun zd => by rw [← h]; rfl⟩
    · exact ⟨([38, 103, 116, 59], 62), by simp [ent], by rw [← h], fun zd => by rw [← h]; rfl⟩
    · exact ⟨([38, 108, 116, 59], 60), by simp [ent], by rw [← h], fun zd => by rw [← h]; rfl⟩
    · exact ⟨([38, 113, 117, 111, 116, 59], 34), by simp [ent], by rw [← h], fun zd => by rw [← h]; rfl⟩
  | _ => simp [Lit.sameKey] at h
theorem ent_has {p : List Nat × Nat} (h : p ∈ ent) : Maps.has D5 (keyL p.1) = true := by
  rw [D5_eq, Maps.has_eq]
  simp only [ent, List.mem_cons, List.not_mem_nil, or_false] at h
  rcases h with rfl | rfl | rfl | rfl | rfl <;> decide
def namedOf (s : K.St) : Nat × Nat := match ent.find? (fun p => K.sees p.1 s) with
  | some p => (p.2, p.1.length)
  | none => (0, 0)
theorem ent_apart : ∀ p ∈ ent, ∀ q ∈ ent, p.1.isPrefixOf q.1 = true → p = q := by decide
theorem named_one {s : K.St} {p : List Nat × Nat} (hp : p ∈ ent) (h : K.sees p.1 s = true) : namedOf s = (p.2, p.1.length) := by
  unfold namedOf
  cases hf : ent.find? (fun p => K.sees p.1 s) with
  | none => exact absurd h (by simpa using List.find?_eq_none.1 hf p hp)
  | some q =>
    have hq := List.mem_of_find?_eq_some hf
    have hqs : K.sees q.1 s = true := by simpa using List.find?_some hf
    have e : p = q := by
      have h1 : p.1 <+: s.1 := List.isPrefixOf_iff_prefix.1 h
      have h2 : q.1 <+: s.1 := List.isPrefixOf_iff_prefix.1 hqs
      rcases List.prefix_or_prefix_of_prefix h1 h2 with h3 | h3
      · exact ent_apart p hp q hq (List.isPrefixOf_iff_prefix.2 h3)
      · exact (ent_apart q hq p hp (List.isPrefixOf_iff_prefix.2 h3)).symm
    rw [e]
theorem named_none {s : K.St} (h : ∀ p ∈ ent, K.sees p.1 s = false) : namedOf s = (0, 0) := by
  unfold namedOf
  have : ent.find? (fun p => K.sees p.1 s) = none := List.find?_eq_none.2 fun p hp => by rw [h p hp]; decide
  rw [this]
theorem ent_small {p : List Nat × Nat} (h : p ∈ ent) : Small p.1 := by
  simp only [ent, List.mem_cons, List.not_mem_nil, or_false] at h
  unfold Small
  rcases h with rfl | rfl | rfl | rfl | rfl <;> decide
theorem key_inv {P : Program} {k : TypeId} (hk : P.underlying k = some .string) {key : Value} {kl : Lit} (h : keyOf P k key = some kl) : ∃ x, key = .string x ∧ kl = .string x.data.toList := by
  cases key <;> simp [keyOf, hk, mapKey] at h
  obtain ⟨_, rfl⟩ := h
  exact ⟨_, rfl, rfl⟩
theorem law9 : Keyed Tryz.prog 9 := string_keyed Tryz.underlying9
/-- Block m is the map of the five names. -/
def NamesAt (m : Nat) (w : World) : Prop := w.ownsMap Tryz.prog 9 (plainElem Tryz.prog 21) m 5 D5

set_option maxHeartbeats 2000000 in
theorem named_any (b m : Nat) (s : K.St) (x : X6) (w : World) (h : Rd b s x w) (hx : x.1 = .map (some m)) (hm : NamesAt m w) :
    Calls Tryz.prog 104 #[.pointer (some ⟨b, 0, none⟩)] w fun e w' => e = .returned (.tuple #[.int .i32 ((namedOf s).1 : Int), .int .i64 ((namedOf s).2 : Int)]) ∧ Below w.heap.size w w' := by
  have c3 : w.cell? ⟨b, 3, none⟩ = some (.map (some m)) := by rw [Lib.cell_of_heap h.2, ← hx]; rfl
  have hbl := lt_of_heap h.2
  have hml := World.ownsMap.lt hm
  have HR := Lib.hid h
  have hx' := Lib.hid hx
  clear h hx
  go_enter Tryz.func104, Tryz.ntmps104
  go_wp2_with (at_range; refine wpList_range_own _ rfl _ 51 rfl 9 21 law9 Tryz.underlying51 _ m 5 _ rfl hm ?_; intro w0 hrg0 hg0 hs0)
  go_frame
  obtain ⟨B, hB⟩ : ∃ B, w.heap.size = B := ⟨_, rfl⟩
  rw [hB] at hrg0 ⊢
  go_loopw [4] (fun _ wr => ∃ (left : Lit → Bool) (cnt : Nat), wr.ranges Tryz.prog 9 (plainElem Tryz.prog 21) m B 5 D5 left cnt ∧ (∀ kl, left kl = true → Maps.has D5 kl = true) ∧ (∀ p ∈ ent, left (keyL p.1) = false → K.sees p.1 s = false) ∧ Below B w wr)
    (fun _ wr => wr.rangeLeft m B)
  case atStart =>
    refine ⟨_, _, hrg0, fun _ hl => hl, ?_, (Below.refl _ _).grown hg0 (by omega) (fun j hj => by cases hj)⟩
    intro p hp hl
    rw [ent_has hp] at hl
    cases hl
  case round =>
    obtain ⟨left, cnt, hrg, hl1, hl2, hbel⟩ := hrel
    have HRw : Hid (Rd b s x wr) := HR.out.below (by rw [hB]; exact hbel)
    have HL2 := Lib.hid hl2
    have HL1 := Lib.hid hl1
    clear hl1 hl2
    go_wp2_with (at_next; refine wpList_next_ranges _ rfl _ rfl 9 law9 (plainElem Tryz.prog 21) Value.string (Value.int .i32) (fun key kl hkey => by obtain ⟨x, rfl, _⟩ := key_inv Tryz.underlying9 hkey; exact ⟨x, rfl⟩) (fun v y hv => by obtain ⟨c, rfl, _⟩ := plainElem_int_inv Tryz.underlying21 hv; exact ⟨c, rfl⟩) m B 5 _ _ _ rfl hrg ?_ ?_)
    · intro _ hl0
      go_wp2
      go_ret2
      have e : namedOf s = (0, 0) := named_none fun p hp => HL2.out p hp (hl0 _)
      exact ⟨by rw [e]; rfl, by rw [hB]; exact hbel⟩
    · intro z c kl y1 y2 w1 cnt1 hkey hlk hv hat hrg1 hlt hg1 hs1 hen
      obtain ⟨z', ez, rfl⟩ := key_inv Tryz.underlying9 hkey
      cases ez
      obtain ⟨p, hp, hkp, hpc⟩ := D5_has (HL1.out _ hlk)
      have hz : z = bs (K.b8 p.1) := by
        have h1 : z.data.toList = K.b8 p.1 := by simpa [keyL] using hkp
        rw [← bs_data z, h1]
      obtain ⟨c', ec, hy, hwc⟩ := plainElem_int_inv Tryz.underlying21 hv
      cases ec
      have hc : c = (p.2 : Int) := by
        have h1 := hat (.lit (.int .i32 0))
        rw [hpc, show y1 = _ from congrArg Prod.fst hy] at h1
        simpa using h1.symm
      subst hc
      have hbB : b ≠ B := by omega
      have hR1 : Rd b s x w1 := ⟨HRw.out.1, by rw [hg1.block b (by have := hbel.size; omega) (by simpa using hbB)]; exact HRw.out.2⟩
      have hsee := sees_any p.1 (ent_small hp) b s x w1 hR1 z hz
      have hzs : z.size = p.1.length := by rw [hz, bs_size]; simp [K.b8]
      have hbel1 : Below B w w1 := hbel.grown hg1 (by have := hbel.size; omega) (fun j hj => by cases hj; exact Nat.le_refl _)
      have hp4 : p.1.length ≤ 65536 := by
        have := hp
        simp only [ent, List.mem_cons, List.not_mem_nil, or_false] at this
        rcases this with rfl | rfl | rfl | rfl | rfl <;> decide
      by_cases hs : K.sees p.1 s = true
      · rw [hs] at hsee
        have e := named_one hp hs
        have HE := Lib.hid e
        clear hat hv hy hkp hz hkey hpc hs e hrg1 hlk hR1
        go_wp2_with (go_at_call 59; refine hsee.mono ?_; rintro e w' ⟨rfl, rfl⟩)
        go_ret2
        exact ⟨by rw [HE.out]; rfl, by rw [hB]; exact hbel1⟩
      · have hs : K.sees p.1 s = false := by simpa using hs
        rw [hs] at hsee
        have HRG := Lib.hid hrg1
        have HKP := Lib.hid hkp
        have HS := Lib.hid hs
        clear hat hv hy hkp hz hkey hpc hs hrg1 hlk hR1
        go_wp2_with (go_at_call 59; refine hsee.mono ?_; rintro e w' ⟨rfl, rfl⟩)
        go_roundw
        case rel =>
          refine ⟨_, cnt1, HRG.out, ?_, ?_, hbel1⟩
          · intro kl hk
            simp only [Bool.and_eq_true] at hk
            exact HL1.out _ hk.1
          · intro q hq hl
            simp only [Bool.and_eq_false_iff] at hl
            rcases hl with hl | hl
            · exact HL2.out q hq hl
            · have hqp : K.b8 q.1 = K.b8 p.1 := by
                rw [HKP.out] at hl
                simpa [Lit.sameKey] using hl
              have : q.1 = p.1 := by
                have hall : ∀ q ∈ ent, ∀ p ∈ ent, K.b8 q.1 = K.b8 p.1 → q.1 = p.1 := by decide
                exact hall q hq p hp hqp
              rw [this]
              exact HS.out
        case measure => rw [HRG.out.left_eq, hrg.left_eq]; exact hlt
end Go.Proofs.YtdilngjolhmjnaaGreatDoor
