/- esnum's nearest: the text that it makes of its digits, and that it ends with one float. Conditions: those that each theorem names. esnum's nearest ends with one float. Conditions: those that each theorem names. esnum's power. Conditions: those that each theorem names. -/
import Derived.Test.YtelphbcdjfdjpaaGreatDoorZ9
import Derived.Test.YtelphbcdjfdjpaaGreatDoorZ8
import Derived.Test.YtelphbcdjfdjpaaGreatDoorZ20
namespace Go.Proofs.YtelphbcdjfdjpaaGreatDoor
open Go.RowKit
set_option linter.all false

def PF.digs (ds : List UInt8) (more : Bool) : List UInt8 := if more then ds ++ [49] else ds
def PF.cutP (p : Int) : Int := if p < -1000 then -1000 else if 1000 < p then 1000 else p
def PF.text (ds : List UInt8) (more : Bool) (p : Int) : ByteArray := ⟨([48, 46] ++ (PF.digs ds more ++ ([101] ++ Lib.itoa (PF.cutP p)))).toArray⟩
theorem gd_r (a b : List UInt8) (i : Nat) : (a ++ b).getD (a.length + i) 0 = b.getD i 0 := by
  rw [List.getD_eq_getElem?_getD, List.getD_eq_getElem?_getD, List.getElem?_append_right (by omega)]
  congr 2
  omega
theorem gd_l (a b : List UInt8) (i : Nat) (h : i < a.length) : (a ++ b).getD i 0 = a.getD i 0 := by
  rw [List.getD_eq_getElem?_getD, List.getD_eq_getElem?_getD, List.getElem?_append_left h]
theorem gd_mem (a : List UInt8) (i : Nat) (h : i < a.length) : a.getD i 0 ∈ a := by
  rw [List.getD_eq_getElem?_getD, List.getElem?_eq_getElem h, Option.getD_some]
  exact List.getElem_mem h
theorem dec_dg (u : Nat) : ∀ x ∈ Lib.decDigits u, PF.Dg x.toNat := by
  induction u using Nat.strongRecOn with
  | _ u ih =>
    intro x hx
    rw [Lib.decDigits] at hx
    split at hx
    · simp only [List.mem_singleton] at hx
      subst hx
      rw [UInt8.toNat_ofNat']
      constructor <;> omega
    · rw [List.mem_append] at hx
      rcases hx with hx | hx
      · exact ih (u / 10) (by omega) x hx
      · simp only [List.mem_singleton] at hx
        subst hx
        rw [UInt8.toNat_ofNat']
        constructor <;> omega
theorem nd_le : ∀ k u, u < 10 ^ (k + 1) → Lib.nDigits u ≤ k + 1
  | 0, u, h => by rw [Lib.nDigits_small (by simpa using h)]; omega
  | k + 1, u, h => by
    by_cases h2 : u < 10
    · rw [Lib.nDigits_small h2]; omega
    · rw [Lib.nDigits_big h2]
      have := nd_le k (u / 10) (by rw [Nat.pow_succ] at h; omega)
      omega
theorem cutP_bd (p : Int) : -1000 ≤ PF.cutP p ∧ PF.cutP p ≤ 1000 := by
  unfold PF.cutP
  split
  · omega
  · split <;> omega
def PF.sg (q : Int) : List UInt8 := if q < 0 then [45] else []
theorem itoa_sg (q : Int) : Lib.itoa q = PF.sg q ++ Lib.decDigits q.natAbs := by
  unfold Lib.itoa PF.sg
  split
  · rfl
  · rw [show q.toNat = q.natAbs by omega]; rfl
theorem text_num (ds : List UInt8) (more : Bool) (p : Int) (hd : ∀ x ∈ ds, PF.Dg x.toNat) (hf : (ds.getD 0 0).toNat ≠ 48) (hn : ds ≠ []) (hl : ds.length ≤ 768) :
    NumT (PF.text ds more p) (PF.digs ds more).length (fun i => ((PF.digs ds more).getD i 0).toNat) (PF.sg (PF.cutP p)).length (Lib.decDigits (PF.cutP p).natAbs).length (fun i => ((Lib.decDigits (PF.cutP p).natAbs).getD i 0).toNat) := by
  obtain ⟨q1, q2⟩ := cutP_bd p
  unfold PF.text
  rw [itoa_sg]
  generalize PF.cutP p = q at *
  have hY := dec_dg q.natAbs
  have hYl : (Lib.decDigits q.natAbs).length ≤ 4 := by
    rw [Lib.decDigits_length]; exact nd_le 3 _ (by omega)
  have hY1 : 1 ≤ (Lib.decDigits q.natAbs).length := by
    rw [Lib.decDigits_length]; exact Lib.nDigits_pos _
  generalize Lib.decDigits q.natAbs = Y at *
  have hTd : ∀ x ∈ PF.digs ds more, PF.Dg x.toNat := by
    intro x hx
    unfold PF.digs at hx
    split at hx
    · rw [List.mem_append] at hx
      rcases hx with hx | hx
      · exact hd x hx
      · simp only [List.mem_singleton] at hx
        subst hx
        exact ⟨by decide, by decide⟩
    · exact hd x hx
  have hlen : 1 ≤ ds.length := by
    cases ds with
    | nil => exact absurd rfl hn
    | cons a l => simp
  have hTl : 1 ≤ (PF.digs ds more).length ∧ (PF.digs ds more).length ≤ 769 := by
    unfold PF.digs
    split
    · rw [List.length_append]; simp; omega
    · omega
  have hT0 : ((PF.digs ds more).getD 0 0).toNat ≠ 48 := by
    unfold PF.digs
    split
    · rw [gd_l _ _ _ (by omega)]; exact hf
    · exact hf
  generalize PF.digs ds more = T at *
  have hsl : (PF.sg q).length ≤ 1 := by unfold PF.sg; split <;> simp
  have hs1 : (PF.sg q).length = 1 → PF.sg q = [45] := by unfold PF.sg; split <;> simp
  generalize PF.sg q = G at *
  have hsb : ∀ i, sb ⟨([48, 46] ++ (T ++ ([101] ++ (G ++ Y)))).toArray⟩ i = (([48, 46] ++ (T ++ ([101] ++ (G ++ Y)))).getD i 0).toNat := fun i => rfl
  refine ⟨?_, ?_, ?_, fun i hi => ⟨?_, hTd _ (gd_mem T i hi)⟩, hT0, hTl.1, by omega, ?_, hsl, fun h1 => ?_, fun i hi => ⟨?_, hY _ (gd_mem Y i hi)⟩, hY1, by omega⟩
  · show ([48, 46] ++ (T ++ ([101] ++ (G ++ Y)))).toArray.size = _
    simp only [List.size_toArray, List.length_append, List.length_cons, List.length_nil]
    omega
  · rw [hsb]; rfl
  · rw [hsb]; rfl
  · rw [hsb, show 2 + i = ([48, 46] : List UInt8).length + i from rfl, gd_r, gd_l _ _ _ hi]
  · rw [hsb, show 2 + T.length = ([48, 46] : List UInt8).length + (T.length + 0) from rfl, gd_r, gd_r]
    rfl
  · rw [hsb, show 3 + T.length = ([48, 46] : List UInt8).length + (T.length + (([101] : List UInt8).length + 0)) by simp; omega, gd_r, gd_r, gd_r, hs1 h1]
    rfl
  · rw [hsb, show 3 + T.length + G.length + i = ([48, 46] : List UInt8).length + (T.length + (([101] : List UInt8).length + (G.length + i))) by simp; omega, gd_r, gd_r, gd_r, gd_r]

theorem below_growN (w : World) (k : Nat) (os : Array Obj) : Below w.heap.size w (Go.Sort.grow (w.drewN k) os) := by
  refine ⟨rfl, rfl, rfl, ?_, fun i hi => ?_⟩
  · show w.heap.size ≤ (w.heap ++ os).size
    rw [Array.size_append]; omega
  · show (w.heap ++ os)[i]? = _
    rw [Array.getElem?_append_left hi]
theorem itoa_below (q : Int) (h0 : -1000 ≤ q) (h1 : q ≤ 1000) (N : Nat) (w : World) (h : ItTab N w) :
    Calls Tryz.prog 139 #[.int .i64 q] w fun e w' => e = .returned (.string ⟨(Lib.itoa q).toArray⟩) ∧ Below w.heap.size w w' := by
  refine (Tryz.strconv_Itoa q (by omega) (by omega) w h.2).mono ?_
  rintro e w' ⟨rfl, k, os, rfl⟩
  exact ⟨rfl, below_growN w k os⟩
end Go.Proofs.YtelphbcdjfdjpaaGreatDoor
namespace Go.Proofs.YtelphbcdjfdjpaaGreatDoor
open Go.RowKit
set_option linter.all false

/-- The number's digits as the reader of decimals leaves them. -/
structure PF.DsOk (ds : List UInt8) : Prop where
  dg : ∀ x ∈ ds, PF.Dg x.toNat
  first : (ds.getD 0 0).toNat ≠ 48
  len : ds.length ≤ 768
theorem str_text (ds : List UInt8) (more : Bool) (p : Int) : (⟨#[48, 46]⟩ ++ ⟨(PF.digs ds more).toArray⟩ ++ ⟨#[101]⟩ ++ ⟨(Lib.itoa (PF.cutP p)).toArray⟩ : ByteArray) = PF.text ds more p := by
  unfold PF.text
  apply ByteArray.ext
  simp
theorem frac_bytes {B b : Nat} {ds : List UInt8} {m : Bool} {p : Int} {w : World} (h : Frac B b ds m p w) (hn : ds ≠ []) : ∃ g cap, w.cell? ⟨b, 0, none⟩ = some (.slice (some ⟨g, 0, none⟩) ds.length cap) ∧ ∀ j (hj : j < ds.length), w.cell? (Addr.add ⟨g, 0, none⟩ j) = some (.int .u8 (ds[j].toNat : Int)) := by
  obtain ⟨hB, v, hbk, hown, hne⟩ := h
  rcases hown.2 with ⟨_, h0⟩ | ⟨g, cap, cur, fz, hv, hg, hh, rest⟩
  · exact absurd (List.length_eq_zero_iff.1 h0) hn
  · subst hv
    refine ⟨g, cap, by rw [Lib.cell_of_heap hbk]; rfl, fun j hj => ?_⟩
    obtain ⟨_, _, _, hcs, htk⟩ := rest
    have hc : w.cell? (Addr.add ⟨g, 0, none⟩ j) = cur[j]? := by
      unfold Addr.add
      split
      · rename_i h; subst h; rw [Lib.cell_of_heap hh]
      · rw [Lib.cell_of_heap hh]; simp
    rw [hc, ← Array.getElem?_toList]
    have h2 : cur.toList[j]? = (cur.toList.take (ds.length * 1))[j]? := by
      rw [List.getElem?_take, if_pos (by omega)]
    rw [h2, htk]
    simp [Lib.byteCells, hj]
set_option maxHeartbeats 4000000 in
theorem nearest_none (B b : Nat) (m : Bool) (p : Int) (w : World) (h : Frac B b [] m p w) :
    Calls Tryz.prog 127 #[.pointer (some ⟨b, 0, none⟩)] w fun e w' => e = .returned (.float .f64 0) ∧ w = w' := by
  obtain ⟨ao, cap, c0, -, -, -⟩ := h.cells
  clear h
  go_enter Tryz.func127, Tryz.ntmps127
  go_wp2
  go_ret
  exact ⟨rfl, rfl⟩
set_option maxHeartbeats 8000000 in
theorem nearest_any (ds : List UInt8) (m : Bool) (p : Int) (hds : PF.DsOk ds) (hp : -40000000000000 ≤ p ∧ p ≤ 40000000000000) : ∃ v : Nat, ∀ (N B b : Nat) (w : World), Frac B b ds m p w → Env N w → ItTab N w → N ≤ w.heap.size → (7 < N ∧ ∃ te pe, w.cell? ⟨7, 0, none⟩ = some (.iface te pe)) →
    Calls Tryz.prog 127 #[.pointer (some ⟨b, 0, none⟩)] w fun e w' => e = .returned (.float .f64 v) ∧ Below w.heap.size w w' := by
  by_cases hn : ds = []
  · subst hn
    refine ⟨0, fun N B b w h _ _ _ _ => (nearest_none B b m p w h).mono ?_⟩
    rintro e w' ⟨rfl, rfl⟩
    exact ⟨rfl, Below.refl _ _⟩
  · obtain ⟨v, hv⟩ := parseFloat_any _ _ _ _ _ _ (text_num ds m p hds.dg hds.first hn hds.len)
    refine ⟨v, fun N B b w hF hE hI hN hR => ?_⟩
    obtain ⟨hRN, te, pe, hRc⟩ := hR
    have hit := fun W (hW : Below w.heap.size w W) => itoa_below (PF.cutP p) (cutP_bd p).1 (cutP_bd p).2 N W (hI.keep hW hN)
    have hpf := fun W (hW : Below w.heap.size w W) => hv N W (hE.keep hW hN) (Nat.le_trans hN hW.size) ⟨hRN, te, pe, by rw [below_cell hW (by omega)]; exact hRc⟩
    obtain ⟨-, -, -, c1, c2, -⟩ := hF.cells
    obtain ⟨g, cap, c0, hb⟩ := frac_bytes hF hn
    have hcv0 := run_convert_bytes_back (P := Tryz.prog) w 87 9 5 ⟨g, 0, none⟩ cap ds Tryz.underlying87 Tryz.underlying5 Tryz.underlying9 hb
    have hl1 : 1 ≤ ds.length := by
      cases ds with
      | nil => exact absurd rfl hn
      | cons a l => simp
    have hl2 := hds.len
    have hlz : ((ds.length : Int) == 0) = false := beq_eq_false_iff_ne.2 (by omega)
    have hyl : (Lib.itoa (PF.cutP p)).length ≤ 6 := by
      have := cutP_bd p
      rw [itoa_sg, List.length_append, Lib.decDigits_length]
      have h1 := nd_le 3 (PF.cutP p).natAbs (by omega)
      have h2 : (PF.sg (PF.cutP p)).length ≤ 1 := by unfold PF.sg; split <;> simp
      omega
    obtain ⟨T, hT⟩ : ∃ T : ByteArray, (⟨ds.toArray⟩ : ByteArray) = T := ⟨_, rfl⟩
    obtain ⟨Y, hY⟩ : ∃ Y : ByteArray, (⟨(Lib.itoa (PF.cutP p)).toArray⟩ : ByteArray) = Y := ⟨_, rfl⟩
    have hTs : T.size ≤ 768 := by rw [← hT]; show ds.toArray.size ≤ _; simpa using hl2
    have hYs : Y.size ≤ 6 := by rw [← hY]; show (Lib.itoa (PF.cutP p)).toArray.size ≤ _; simpa using hyl
    have hcv := hcv0
    rw [hT] at hcv
    rw [hY] at hit
    have hst : (⟨#[48, 46]⟩ ++ (if m then T ++ ⟨#[49]⟩ else T) ++ ⟨#[101]⟩ ++ Y : ByteArray) = PF.text ds m p := by
      rw [← str_text, ← hT, ← hY]
      unfold PF.digs
      cases m
      · rfl
      · apply ByteArray.ext
        simp
    have hcut : max (-1000) (min p 1000) = PF.cutP p := by
      unfold PF.cutP
      split
      · omega
      · split <;> omega
    have HC := Lib.hid hcut
    have hB0 := Lib.hid (Below.refl w.heap.size w)
    obtain ⟨S, hS⟩ : ∃ S : ByteArray, PF.text ds m p = S := ⟨_, rfl⟩
    rw [hS] at hst hpf
    have HST := Lib.hid hst
    have HIT := Lib.hid hit
    have HPF := Lib.hid hpf
    clear hst hit hpf hv hF hE hI hRc hb hds hcut hn hcv0 hT hY hS hyl
    cases m
    · replace HST := Lib.hid (show (⟨#[48, 46]⟩ ++ T ++ ⟨#[101]⟩ ++ Y : ByteArray) = S from HST.out)
      go_enter Tryz.func127, Tryz.ntmps127
      go_wp2_with (first | (go_at_call 139; rw [HC.out]; refine (HIT.out _ hB0.out).mono ?_; rintro e1 w9 ⟨rfl, hb9⟩; have HB9 := Lib.hid hb9; clear hb9) | (go_at_call 138; rw [HST.out]; refine (HPF.out _ HB9.out).mono ?_; rintro e1 w10 ⟨⟨ev, rfl⟩, hb10⟩; have HB10 := Lib.hid (HB9.out.trans (hb10.mono HB9.out.size)); clear hb10))
      go_ret
      exact ⟨rfl, HB10.out⟩
    · replace HST := Lib.hid (show (⟨#[48, 46]⟩ ++ (T ++ ⟨#[49]⟩) ++ ⟨#[101]⟩ ++ Y : ByteArray) = S from HST.out)
      go_enter Tryz.func127, Tryz.ntmps127
      go_wp2_with (first | (go_at_call 139; rw [HC.out]; refine (HIT.out _ hB0.out).mono ?_; rintro e1 w9 ⟨rfl, hb9⟩; have HB9 := Lib.hid hb9; clear hb9) | (go_at_call 138; rw [HST.out]; refine (HPF.out _ HB9.out).mono ?_; rintro e1 w10 ⟨⟨ev, rfl⟩, hb10⟩; have HB10 := Lib.hid (HB9.out.trans (hb10.mono HB9.out.size)); clear hb10))
      go_ret
      exact ⟨rfl, HB10.out⟩
end Go.Proofs.YtelphbcdjfdjpaaGreatDoor
namespace Go.Proofs.YtelphbcdjfdjpaaGreatDoor
open Go.RowKit
set_option linter.all false

/-- The power's digits from l on: what they say so far, and where they end. -/
def powF (s : Nat → Int) : Nat → Nat → Int → Int × Nat
  | 0, l, p => (p, l)
  | f + 1, l, p => if 48 ≤ s l ∧ s l ≤ 57 then powF s f (l + 1) (if p < 1099511627776 then 10 * p + s l - 48 else p) else (p, l)
def powerOf (s : Nat → Int) (f i : Nat) : Int × Nat × Bool :=
  if s i = 101 ∨ s i = 69 then
    ((if (signOf s (i + 1)).1 then -(powF s f (signOf s (i + 1)).2 0).1 else (powF s f (signOf s (i + 1)).2 0).1), (powF s f (signOf s (i + 1)).2 0).2, decide ((signOf s (i + 1)).2 < (powF s f (signOf s (i + 1)).2 0).2))
  else (0, i, true)
theorem powF_bd (s : Nat → Int) : ∀ f l p, 0 ≤ p → p ≤ 10995116277769 → 0 ≤ (powF s f l p).1 ∧ (powF s f l p).1 ≤ 10995116277769
  | 0, _, _, h0, h1 => ⟨h0, h1⟩
  | f + 1, l, p, h0, h1 => by
    unfold powF
    split
    · apply powF_bd
      · split <;> omega
      · split <;> omega
    · exact ⟨h0, h1⟩
theorem powerOf_bd (s : Nat → Int) (f i : Nat) : -10995116277769 ≤ (powerOf s f i).1 ∧ (powerOf s f i).1 ≤ 10995116277769 := by
  unfold powerOf
  split
  · have := powF_bd s f (signOf s (i + 1)).2 0 (by omega) (by omega)
    dsimp only
    split <;> omega
  · exact ⟨by show (-10995116277769 : Int) ≤ 0; omega, by show (0 : Int) ≤ 10995116277769; omega⟩
set_option maxHeartbeats 8000000 in
theorem powerAt_any (S : ByteArray) (hS : S.size ≤ 140737488355328) (fr to a b c f i : Nat) (ht : 2 * to ≤ S.size) (hft : fr ≤ to) (hto : to ≤ 900000) (hi : i ≤ to + 1) (hf : to + 1 ≤ i + f) (w : World) (h : LookS S fr to a b c w) :
    Calls Tryz.prog 126 #[.func (.func 98) #[] #[.pointer (some ⟨a, 0, none⟩), .pointer (some ⟨b, 0, none⟩), .pointer (some ⟨c, 0, none⟩)], .int .i64 (i : Int)] w
      fun e w' => e = .returned (.tuple #[.int .i64 (powerOf (seenAt S fr to) f i).1, .int .i64 ((powerOf (seenAt S fr to) f i).2.1 : Int), .bool (powerOf (seenAt S fr to) f i).2.2]) ∧ ∃ n, w' = w.drewN n := by
  have hlk := fun j (hj : j ≤ 140737488355328) => look_any S hS fr to a b c j ht hj hft
  have hl0 := hlk i (by omega)
  obtain ⟨u0, hu0⟩ : ∃ u0, seenAt S fr to i = u0 := ⟨_, rfl⟩
  rw [hu0] at hl0
  have HLk := Lib.hid hlk
  have HL := Lib.hid h
  have hw1 : IntKind.i64.wrap ((i : Int) + 1) = ((i + 1 : Nat) : Int) := IntWalk.i64_in _ (by omega)
  by_cases he : u0 = 101 ∨ u0 = 69
  · have hsg : ∀ W, LookS S fr to a b c W → Calls Tryz.prog 112 #[.func (.func 98) #[] #[.pointer (some ⟨a, 0, none⟩), .pointer (some ⟨b, 0, none⟩), .pointer (some ⟨c, 0, none⟩)], .int .i64 ((i : Int) + 1)] W fun e w' => e = .returned (.tuple #[.bool (signOf (seenAt S fr to) (i + 1)).1, .int .i64 ((signOf (seenAt S fr to) (i + 1)).2 : Int)]) ∧ ∃ n, w' = W.drewN n := fun W hW => signAt_any S hS fr to a b c (i + 1) ht hft (by omega) W hW
    have hR : powerOf (seenAt S fr to) f i = ((if (signOf (seenAt S fr to) (i + 1)).1 then -(powF (seenAt S fr to) f (signOf (seenAt S fr to) (i + 1)).2 0).1 else (powF (seenAt S fr to) f (signOf (seenAt S fr to) (i + 1)).2 0).1), (powF (seenAt S fr to) f (signOf (seenAt S fr to) (i + 1)).2 0).2, decide ((signOf (seenAt S fr to) (i + 1)).2 < (powF (seenAt S fr to) f (signOf (seenAt S fr to) (i + 1)).2 0).2)) := by
      unfold powerOf
      rw [hu0, if_pos he]
    rw [hR]
    have hg1 : i + 1 ≤ (signOf (seenAt S fr to) (i + 1)).2 ∧ (signOf (seenAt S fr to) (i + 1)).2 ≤ i + 2 := by
      unfold signOf
      split
      · exact ⟨by omega, by omega⟩
      · split
        · exact ⟨by omega, by omega⟩
        · exact ⟨by omega, by omega⟩
    obtain ⟨P, hP⟩ : ∃ P, powF (seenAt S fr to) f (signOf (seenAt S fr to) (i + 1)).2 0 = P := ⟨_, rfl⟩
    rw [hP]
    have hPb := powF_bd (seenAt S fr to) f (signOf (seenAt S fr to) (i + 1)).2 0 (by omega) (by omega)
    rw [hP] at hPb
    generalize (signOf (seenAt S fr to) (i + 1)).1 = ng at *
    generalize (signOf (seenAt S fr to) (i + 1)).2 = fs at *
    have HP := Lib.hid hP
    have HSg := Lib.hid hsg
    clear hR hP hsg hlk h hu0
    rcases he with rfl | rfl
    · go_enter Tryz.func126, Tryz.ntmps126
      go_wp2_with (first | ((with_reducible refine (hl0 _ HL.out).mono ?_); rintro e w2 ⟨rfl, n, rfl⟩) | ((with_reducible refine (hl0 _ (HL.out.drewN _)).mono ?_); rintro e w2 ⟨rfl, n2, rfl⟩) | (go_at_call 112; refine (HSg.out _ (HL.out.drewN _)).mono ?_; rintro e w3 ⟨rfl, n3, rfl⟩))
      clear hl0 hw1
      go_loopg [9, 10] f (fun g v9 v10 wr => ∃ (F l : Nat) (p : Int), F = g ∧ v9 = .int .i64 p ∧ v10 = .int .i64 (l : Int) ∧ l ≤ to + 3 ∧ to + 1 ≤ l + F ∧ 0 ≤ p ∧ p ≤ 10995116277769 ∧ Hid (powF (seenAt S fr to) F l p = P) ∧ Hid (∃ n, wr = w.drewN n))
      case atStart => exact ⟨_, fs, 0, rfl, rfl, rfl, by omega, by omega, by omega, by omega, HP, Lib.hid ⟨_, rfl⟩⟩
      case round =>
        obtain ⟨F, l, p, hFg, rfl, rfl, hl1, hl2, hp1, hp2, hRr, hwr⟩ := hrel
        obtain ⟨nr, rfl⟩ := hwr.out
        have hlr := HLk.out l (by omega)
        obtain ⟨u, hu⟩ : ∃ u, seenAt S fr to l = u := ⟨_, rfl⟩
        rw [hu] at hlr
        have hdg := numDigit_any u
        by_cases hdd : 48 ≤ u ∧ u ≤ 57
        · have hdt : (decide (48 ≤ u) && decide (u ≤ 57)) = true := by
            rw [decide_eq_true hdd.1, decide_eq_true hdd.2]; rfl
          rw [hdt] at hdg
          have hit : fr + l < to := by
            unfold seenAt at hu
            split at hu
            · assumption
            · omega
          obtain ⟨F, rfl⟩ : ∃ F', F = F' + 1 := ⟨F - 1, by omega⟩
          have hRn := hRr.out
          unfold powF at hRn
          rw [hu, if_pos hdd] at hRn
          have HRn := Lib.hid hRn
          have HLr := Lib.hid hlr
          clear hu hdt hRn hRr
          have hw2 : IntKind.i64.wrap ((l : Int) + 1) = (l : Int) + 1 := IntWalk.i64_in _ (by omega)
          by_cases hp3 : p < 1099511627776
          · rw [if_pos hp3] at HRn
            have hw3 : IntKind.i64.wrap (10 * p) = 10 * p := IntWalk.i64_in _ (by omega)
            have hw4 : IntKind.i64.wrap (10 * p + u) = 10 * p + u := IntWalk.i64_in _ (by omega)
            have hw5 : IntKind.i64.wrap (10 * p + u - 48) = 10 * p + u - 48 := IntWalk.i64_in _ (by omega)
            go_wp2_with (first | ((with_reducible refine (HLr.out _ (HL.out.drewN _)).mono ?_); rintro e w2 ⟨rfl, n5, rfl⟩) | ((with_reducible refine (hdg _).mono ?_); rintro e w2 ⟨rfl, rfl⟩))
            go_roundg F
            case measure => omega
            case rel => exact ⟨F, l + 1, _, rfl, rfl, by go_num, by omega, by omega, by omega, by omega, HRn, Lib.hid ⟨_, rfl⟩⟩
          · rw [if_neg hp3] at HRn
            go_wp2_with (first | ((with_reducible refine (HLr.out _ (HL.out.drewN _)).mono ?_); rintro e w2 ⟨rfl, n5, rfl⟩) | ((with_reducible refine (hdg _).mono ?_); rintro e w2 ⟨rfl, rfl⟩))
            go_roundg F
            case measure => omega
            case rel => exact ⟨F, l + 1, _, rfl, rfl, by go_num, by omega, by omega, by omega, by omega, HRn, Lib.hid ⟨_, rfl⟩⟩
        · have hdf : (decide (48 ≤ u) && decide (u ≤ 57)) = false := by
            rw [Bool.and_eq_false_iff, decide_eq_false_iff_not, decide_eq_false_iff_not]; omega
          rw [hdf] at hdg
          have hend : P = (p, l) := by
            rw [← show _ = P from hRr.out]
            cases F with
            | zero => rfl
            | succ F => unfold powF; rw [hu, if_neg hdd]
          subst hend
          have HLr := Lib.hid hlr
          clear hu hdf hdd hlr hRr HP
          have hwn : IntKind.i64.wrap (-p) = -p := IntWalk.i64_in _ (by omega)
          cases ng
          · go_wp2_with (first | ((with_reducible refine (HLr.out _ (HL.out.drewN _)).mono ?_); rintro e w2 ⟨rfl, n5, rfl⟩) | ((with_reducible refine (hdg _).mono ?_); rintro e w2 ⟨rfl, rfl⟩))
            go_ret3
            exact ⟨by simp, _, rfl⟩
          · go_wp2_with (first | ((with_reducible refine (HLr.out _ (HL.out.drewN _)).mono ?_); rintro e w2 ⟨rfl, n5, rfl⟩) | ((with_reducible refine (hdg _).mono ?_); rintro e w2 ⟨rfl, rfl⟩))
            go_ret3
            exact ⟨by simp, _, rfl⟩
    · go_enter Tryz.func126, Tryz.ntmps126
      go_wp2_with (first | ((with_reducible refine (hl0 _ HL.out).mono ?_); rintro e w2 ⟨rfl, n, rfl⟩) | ((with_reducible refine (hl0 _ (HL.out.drewN _)).mono ?_); rintro e w2 ⟨rfl, n2, rfl⟩) | (go_at_call 112; refine (HSg.out _ (HL.out.drewN _)).mono ?_; rintro e w3 ⟨rfl, n3, rfl⟩))
      clear hl0 hw1
      go_loopg [9, 10] f (fun g v9 v10 wr => ∃ (F l : Nat) (p : Int), F = g ∧ v9 = .int .i64 p ∧ v10 = .int .i64 (l : Int) ∧ l ≤ to + 3 ∧ to + 1 ≤ l + F ∧ 0 ≤ p ∧ p ≤ 10995116277769 ∧ Hid (powF (seenAt S fr to) F l p = P) ∧ Hid (∃ n, wr = w.drewN n))
      case atStart => exact ⟨_, fs, 0, rfl, rfl, rfl, by omega, by omega, by omega, by omega, HP, Lib.hid ⟨_, rfl⟩⟩
      case round =>
        obtain ⟨F, l, p, hFg, rfl, rfl, hl1, hl2, hp1, hp2, hRr, hwr⟩ := hrel
        obtain ⟨nr, rfl⟩ := hwr.out
        have hlr := HLk.out l (by omega)
        obtain ⟨u, hu⟩ : ∃ u, seenAt S fr to l = u := ⟨_, rfl⟩
        rw [hu] at hlr
        have hdg := numDigit_any u
        by_cases hdd : 48 ≤ u ∧ u ≤ 57
        · have hdt : (decide (48 ≤ u) && decide (u ≤ 57)) = true := by
            rw [decide_eq_true hdd.1, decide_eq_true hdd.2]; rfl
          rw [hdt] at hdg
          have hit : fr + l < to := by
            unfold seenAt at hu
            split at hu
            · assumption
            · omega
          obtain ⟨F, rfl⟩ : ∃ F', F = F' + 1 := ⟨F - 1, by omega⟩
          have hRn := hRr.out
          unfold powF at hRn
          rw [hu, if_pos hdd] at hRn
          have HRn := Lib.hid hRn
          have HLr := Lib.hid hlr
          clear hu hdt hRn hRr
          have hw2 : IntKind.i64.wrap ((l : Int) + 1) = (l : Int) + 1 := IntWalk.i64_in _ (by omega)
          by_cases hp3 : p < 1099511627776
          · rw [if_pos hp3] at HRn
            have hw3 : IntKind.i64.wrap (10 * p) = 10 * p := IntWalk.i64_in _ (by omega)
            have hw4 : IntKind.i64.wrap (10 * p + u) = 10 * p + u := IntWalk.i64_in _ (by omega)
            have hw5 : IntKind.i64.wrap (10 * p + u - 48) = 10 * p + u - 48 := IntWalk.i64_in _ (by omega)
            go_wp2_with (first | ((with_reducible refine (HLr.out _ (HL.out.drewN _)).mono ?_); rintro e w2 ⟨rfl, n5, rfl⟩) | ((with_reducible refine (hdg _).mono ?_); rintro e w2 ⟨rfl, rfl⟩))
            go_roundg F
            case measure => omega
            case rel => exact ⟨F, l + 1, _, rfl, rfl, by go_num, by omega, by omega, by omega, by omega, HRn, Lib.hid ⟨_, rfl⟩⟩
          · rw [if_neg hp3] at HRn
            go_wp2_with (first | ((with_reducible refine (HLr.out _ (HL.out.drewN _)).mono ?_); rintro e w2 ⟨rfl, n5, rfl⟩) | ((with_reducible refine (hdg _).mono ?_); rintro e w2 ⟨rfl, rfl⟩))
            go_roundg F
            case measure => omega
            case rel => exact ⟨F, l + 1, _, rfl, rfl, by go_num, by omega, by omega, by omega, by omega, HRn, Lib.hid ⟨_, rfl⟩⟩
        · have hdf : (decide (48 ≤ u) && decide (u ≤ 57)) = false := by
            rw [Bool.and_eq_false_iff, decide_eq_false_iff_not, decide_eq_false_iff_not]; omega
          rw [hdf] at hdg
          have hend : P = (p, l) := by
            rw [← show _ = P from hRr.out]
            cases F with
            | zero => rfl
            | succ F => unfold powF; rw [hu, if_neg hdd]
          subst hend
          have HLr := Lib.hid hlr
          clear hu hdf hdd hlr hRr HP
          have hwn : IntKind.i64.wrap (-p) = -p := IntWalk.i64_in _ (by omega)
          cases ng
          · go_wp2_with (first | ((with_reducible refine (HLr.out _ (HL.out.drewN _)).mono ?_); rintro e w2 ⟨rfl, n5, rfl⟩) | ((with_reducible refine (hdg _).mono ?_); rintro e w2 ⟨rfl, rfl⟩))
            go_ret3
            exact ⟨by simp, _, rfl⟩
          · go_wp2_with (first | ((with_reducible refine (HLr.out _ (HL.out.drewN _)).mono ?_); rintro e w2 ⟨rfl, n5, rfl⟩) | ((with_reducible refine (hdg _).mono ?_); rintro e w2 ⟨rfl, rfl⟩))
            go_ret3
            exact ⟨by simp, _, rfl⟩
  · have hR : powerOf (seenAt S fr to) f i = (0, i, true) := by
      unfold powerOf
      rw [hu0, if_neg he]
    rw [hR]
    have h1 : (u0 != 101) = true := by rw [bne_iff_ne]; omega
    have h2 : (u0 != 69) = true := by rw [bne_iff_ne]; omega
    have h3 : ¬ u0 = 101 := by omega
    have h4 : ¬ u0 = 69 := by omega
    clear hR he hu0 hlk h
    go_enter Tryz.func126, Tryz.ntmps126
    go_wp2_with (first | ((with_reducible refine (hl0 _ HL.out).mono ?_); rintro e w2 ⟨rfl, n, rfl⟩) | ((with_reducible refine (hl0 _ (HL.out.drewN _)).mono ?_); rintro e w2 ⟨rfl, n2, rfl⟩))
    go_ret3
    exact ⟨rfl, _, rfl⟩
end Go.Proofs.YtelphbcdjfdjpaaGreatDoor
