/- strings.IndexRune at a few small characters and a great one: -1. Conditions: those that each theorem names. strings.IndexAny at a few small marks; how many bytes stand ahead of the first of them. Conditions: those that each theorem names. The reader takes all up to a text. Conditions: those that each theorem names. -/
import Derived.Test.YtdilngjolhmjnaaGreatDoorA6
import Derived.Laws.Runes
import Derived.Laws.RangeAny
import Derived.Deep.LoopGhost
import Derived.Lib.OthersKept
namespace Go.Proofs.YtdilngjolhmjnaaGreatDoor
open Go.RowKit Go.Shelf
set_option linter.all false

theorem indexByte_high (c : UInt8) (hc : 128 ≤ c.toNat) : ∀ (l : List UInt8), (∀ x ∈ l, x.toNat < 128) → Lib.indexByte l c = -1
  | [], _ => rfl
  | x :: l, h => by
    have hx := h x List.mem_cons_self
    have e : (x == c) = false := by
      rw [beq_eq_false_iff_ne]
      intro h
      subst h
      omega
    unfold Lib.indexByte
    rw [e, indexByte_high c hc l (fun y hy => h y (List.mem_cons_of_mem _ hy))]
    rfl

theorem quiet_more {P : Program} {f : FuncId} {args : Array Value} {w : World} {a n : Nat} {v : Value} (c : ∀ W : World, Calls P f args W fun e w' => e = .returned v ∧ w' = W) :
    Calls P f args (w.drewN (a + n)) fun e w'' => e = .returned v ∧ ∃ m, w'' = w.drewN (a + m) :=
  (c _).mono fun _ _ ⟨he, hm⟩ => ⟨he, n, hm⟩
set_option maxHeartbeats 4000000 in
set_option maxRecDepth 100000 in
theorem indexRune_high (q : ByteArray) (hq : ∀ x ∈ q.data.toList, x.toNat < 128) (hsz : q.size ≤ 3) (r : Nat) (h128 : 128 ≤ r) (hv : Lib.validRune (r : Int) = true) (hne : r ≠ 65533) (hle : r ≤ 1114111) (w : World) :
    Calls Tryz.prog 130 #[.string q, .int .i32 (r : Int)] w fun e w' => e = .returned (.int .i64 (-1)) ∧ Below w.heap.size w w' := by
  have hvr := Tryz.utf8_ValidRune (r : Int)
  rw [hv] at hvr
  have hval : Utf8.valid (r : Int) = true := by
    unfold Lib.validRune at hv
    simp only [decide_eq_true_eq] at hv
    simp [Utf8.valid]
    omega
  obtain ⟨k2, k4, klast⟩ := encode_facts (r : Int) hval (by omega)
  have hri : ((r : Int) == 65533) = false := by simp; omega
  have hrlt : ¬ (r : Int) < 128 := by omega
  have hcv : ∀ W, (convert 21 9 (.int .i32 (r : Int))).run Tryz.prog W = .ok (.string (Utf8.encode (r : Int))) W := fun W => run_convert_int_string W 21 9 .i32 _ (by rw [Tryz.underlying21]; rfl) Tryz.underlying9
  generalize Utf8.encode (r : Int) = rs at k2 k4 klast hcv
  have hlast := klast (by omega)
  obtain ⟨z, hz⟩ : ∃ z, rs[rs.size - 1]'(by omega) = z := ⟨_, rfl⟩
  rw [hz] at hlast
  obtain ⟨n, hn⟩ : ∃ n, rs.size = n + 1 := ⟨rs.size - 1, by omega⟩
  have hw1 : ((n + 1 : Nat) : Int) - 1 = (n : Int) := by omega
  by_cases hin : n < q.size
  · obtain ⟨y, hy⟩ : ∃ y, q[n]'hin = y := ⟨_, rfl⟩
    have hyl : y.toNat < 128 := by
      refine hq y ?_
      rw [← hy]
      exact Array.getElem_mem_toList _
    have hzn : rs[n]'(by omega) = z := by
      have e : rs.size - 1 = n := by omega
      simp only [e] at hz
      exact hz
    have hyz : ((y.toNat : Int) != (z.toNat : Int)) = true := by simp; omega
    have hin' : (n : Int) < (q.size : Int) := by omega
    have hz256 : z.toNat < 256 := z.toNat_lt
    have hidx : ∀ W, Calls Tryz.prog 118 #[.string (q.extract (n + 1) q.size), .int .u8 (z.toNat : Int)] W fun e w' => e = .returned (.int .i64 (-1)) ∧ w' = W := by
      intro W
      refine (Tryz.strings_IndexByte _ _ W).mono ?_
      rintro e w' ⟨rfl, rfl⟩
      refine ⟨?_, rfl⟩
      rw [show ((z.toNat : Int)).toNat.toUInt8 = z by simp, indexByte_high z hlast _ ?_]
      intro x hx
      refine hq x ?_
      rw [Lib.extract_data] at hx
      exact List.mem_of_mem_drop (List.mem_of_mem_take hx)
    have hn1 : (n : Int) + 1 ≤ (q.size : Int) := by omega
    have hn0 : 0 ≤ (n : Int) + 1 := by omega
    have hnn : ((n : Int) + 1).toNat = n + 1 := by omega
    have hnw : IntKind.i64.wrap ((n : Int) + 1) = (n : Int) + 1 := IntWalk.i64_in _ (by omega)
    clear klast hz hval hv hq
    go_enter Tryz.func130, Tryz.ntmps130
    go_wp2_with (go_at_call 142; refine (hvr _).mono ?_; rintro e w' ⟨rfl, rfl⟩)
    go_step3
    go_wp2
    refine wp_loop_rounds 1 ?_
    rw [rounds_succ]
    go_wp2
    go_step3
    go_wp2
    go_quiet (fail)
    go_wp2
    go_quiet ((go_at_call 118; exact quiet_more hidx))
    go_wp2
    rw [Exit.noGoto_ret]
    go_wp2
    rw [Exit.noGoto_ret]
    go_ret
    exact ⟨rfl, below_drewN (Below.refl _ _) _⟩
  · have hin' : ¬ (n : Int) < (q.size : Int) := by omega
    have hrs : rs.size = n + 1 := hn
    clear klast hz hin hval hv
    go_enter Tryz.func130, Tryz.ntmps130
    go_wp2_with (go_at_call 142; refine (hvr _).mono ?_; rintro e w' ⟨rfl, rfl⟩)
    go_step3
    go_wp2
    refine wp_loop_rounds 1 ?_
    rw [rounds_succ]
    go_wp2
    (try rw [Exit.noGoto_ret])
    go_ret
    exact ⟨rfl, Below.refl _ _⟩

set_option maxHeartbeats 4000000 in
set_option maxRecDepth 100000 in
theorem indexRune_repl (q : ByteArray) (hq : ∀ x ∈ q.data.toList, x.toNat < 128) (hsz : q.size ≤ 3) (w : World) :
    Calls Tryz.prog 130 #[.string q, .int .i32 65533] w fun e w' => e = .returned (.int .i64 (-1)) ∧ Below w.heap.size w w' := by
  have HQ := Lib.hid hq
  clear hq
  go_enter Tryz.func130, Tryz.ntmps130
  go_wp2
  go_loopg [5, 6] q.size (fun g _ _ wx => ∃ i : Nat, i + g = q.size ∧ wx = w.iter q i)
  case atStart => exact ⟨0, by omega, rfl⟩
  case round =>
    obtain ⟨i, hig, rfl⟩ := hrel
    cases gk with
    | zero =>
      obtain rfl : i = q.size := by omega
      have hnx := run_next_end (P := Tryz.prog) w q q.size
      go_wp2
      (repeat rw [Exit.noGoto_ret])
      go_ret
      exact ⟨rfl, by unfold World.iter; exact (Below.refl _ _).alloc (Nat.le_refl _) _⟩
    | succ g =>
      have hi : i < q.size := by omega
      obtain ⟨y, hy⟩ : ∃ y, q[i]'hi = y := ⟨_, rfl⟩
      have hyl : y.toNat < 128 := by
        refine HQ.out y ?_
        rw [← hy]
        exact Array.getElem_mem_toList _
      have hnx := fun ty => run_next_ascii (P := Tryz.prog) w q i ty hi (by rw [hy]; exact hyl)
      rw [hy] at hnx
      have hne : ((y.toNat : Int) == 65533) = false := by simp; omega
      clear hy
      go_wp2
      go_roundg g
      case measure => omega
      case rel => exact ⟨i + 1, by omega, rfl⟩

/-- strings.IndexRune at a few small characters and any great one. -/
theorem indexRune_any (q : ByteArray) (hq : ∀ x ∈ q.data.toList, x.toNat < 128) (hsz : q.size ≤ 3) (r : Nat) (h128 : 128 ≤ r) (hv : U.scalar r) (w : World) :
    Calls Tryz.prog 130 #[.string q, .int .i32 (r : Int)] w fun e w' => e = .returned (.int .i64 (-1)) ∧ Below w.heap.size w w' := by
  by_cases h : r = 65533
  · subst h; exact indexRune_repl q hq hsz w
  · unfold U.scalar at hv
    exact indexRune_high q hq hsz r h128 (by unfold Lib.validRune; simp only [decide_eq_true_eq]; omega) h (by omega) w
end Go.Proofs.YtdilngjolhmjnaaGreatDoor
namespace Go.Proofs.YtdilngjolhmjnaaGreatDoor
open Go.RowKit Go.Shelf
set_option linter.all false

theorem get!_bs (l : List UInt8) (k : Nat) : ((bs l).get! k).toNat = U.g l k := by
  unfold U.g bs
  show ((l.toArray)[k]!).toNat = _
  simp [List.getD_eq_getElem?_getD, Array.getElem!_eq_getD]
  rfl
theorem decodeGo_bs (l : List UInt8) (h : l ≠ []) : Lib.decodeGo (bs l) = U.decL l := by
  have hz : (bs l).size ≠ 0 := by rw [bs_size]; exact fun e => h (List.eq_nil_of_length_eq_zero e)
  unfold Lib.decodeGo U.decL
  rw [if_neg hz, Lib.decode_at, get!_bs, get!_bs, get!_bs, get!_bs, bs_size]
  rfl
theorem decL_enc (c : Nat) (r : List UInt8) (h : U.scalar c) : U.decL (U.enc c ++ r) = (c, (U.enc c).length) := by
  have hd := U.dec_enc c r h
  have hp := U.enc_pos c
  unfold U.dec at hd
  split at hd
  · have := congrArg Prod.snd hd
    simp only at this
    omega
  · exact hd
/-- What the decoder reads at the head of a character. -/
theorem decode_n8 (a r : List Nat) (c : Nat) (h : U.scalar c) : Utf8.decode (bs (U.n8 (a ++ c :: r))) (U.n8 a).length = (c, (U.enc c).length) := by
  have hp := U.enc_pos c
  have hn : U.n8 (a ++ c :: r) = U.n8 a ++ (U.enc c ++ U.n8 r) := by rw [U.n8_append, U.n8_cons]
  have hlt : (U.n8 a).length < (bs (U.n8 (a ++ c :: r))).size := by rw [bs_size, hn, List.length_append, List.length_append]; omega
  rw [← Lib.decodeGo_extract _ _ hlt, bs_drop, hn, List.drop_left' rfl, decodeGo_bs _ (by intro e; have := congrArg List.length e; rw [List.length_append, List.length_nil] at this; omega), decL_enc c _ h]

abbrev notIn (t l : List Nat) : List Nat := l.takeWhile (fun c => !t.contains c)
theorem b8_contains {t : List Nat} (ht : Small t) {c : Nat} (hc : c < 128) : (K.b8 t).contains (UInt8.ofNat c) = t.contains c := by
  rw [Bool.eq_iff_iff, List.contains_iff_mem, List.contains_iff_mem]
  unfold K.b8
  rw [List.mem_map]
  constructor
  · rintro ⟨x, hx, e⟩
    have := ht x hx
    have := K.ofNat_inj (by omega) (by omega) e
    subst this
    exact hx
  · intro h
    exact ⟨c, h, rfl⟩
theorem b8_low {t : List Nat} (ht : Small t) : ∀ x ∈ K.b8 t, x.toNat < 128 := by
  intro x hx
  unfold K.b8 at hx
  obtain ⟨c, hc, rfl⟩ := List.mem_map.1 hx
  rw [K.toNat_ofNat (by have := ht c hc; omega)]
  exact ht c hc
theorem b8_high {t : List Nat} (ht : Small t) {x : UInt8} (hx : 128 ≤ x.toNat) : (K.b8 t).contains x = false := by
  rw [Bool.eq_false_iff]
  intro h
  have := b8_low ht x (List.contains_iff_mem.1 h)
  omega
theorem indexAny_skip (q r : List UInt8) : ∀ (t : List UInt8), (∀ x ∈ t, q.contains x = false) → Lib.indexAny (t ++ r) q = if Lib.indexAny r q = -1 then -1 else Lib.indexAny r q + t.length
  | [], _ => by simp
  | x :: t, h => by
    have ih := indexAny_skip q r t (fun y hy => h y (List.mem_cons_of_mem _ hy))
    have hx := h x List.mem_cons_self
    have hge := Lib.indexAny_ge q r
    show (if q.contains x then 0 else if Lib.indexAny (t ++ r) q == -1 then -1 else Lib.indexAny (t ++ r) q + 1) = _
    rw [hx, ih]
    by_cases hr : Lib.indexAny r q = -1
    · simp [hr]
    · have h1 : ¬ (Lib.indexAny r q + (t.length : Int) = -1) := by omega
      simp [hr, h1]
      omega
theorem enc_apart {t : List Nat} (ht : Small t) {c : Nat} (hs : U.scalar c) (h : t.contains c = false) : ∀ x ∈ U.enc c, (K.b8 t).contains x = false := by
  intro x hx
  by_cases hc2 : c < 128
  · rw [K.enc_low hc2] at hx
    simp only [List.mem_cons, List.not_mem_nil, or_false] at hx
    subst hx
    rw [b8_contains ht hc2]; exact h
  · exact b8_high ht (K.enc_high_all (Nat.le_of_not_lt hc2) hs x hx)
theorem indexAny_n8 {t : List Nat} (ht : Small t) : ∀ (l : List Nat), K.Sc l → Lib.indexAny (U.n8 l) (K.b8 t) = if (notIn t l).length = l.length then -1 else ((U.n8 (notIn t l)).length : Int)
  | [], _ => rfl
  | c :: l, hs => by
    have ih := indexAny_n8 ht l hs.tail
    cases hc : t.contains c with
    | true =>
      have e : notIn t (c :: l) = [] := by
        show (c :: l).takeWhile _ = _
        rw [List.takeWhile_cons, if_neg (by rw [hc]; decide)]
      have hc128 : c < 128 := ht c (List.contains_iff_mem.1 hc)
      rw [e, U.n8_cons, K.enc_low hc128]
      show (if (K.b8 t).contains (UInt8.ofNat c) then 0 else _) = _
      rw [b8_contains ht hc128, hc, if_pos rfl, if_neg (by simp)]
      rfl
    | false =>
      have e : notIn t (c :: l) = c :: notIn t l := by
        show (c :: l).takeWhile _ = _
        rw [List.takeWhile_cons, if_pos (by rw [hc]; rfl)]
      rw [U.n8_cons, indexAny_skip _ _ _ (enc_apart ht hs.head hc), ih, e, List.length_cons, List.length_cons, U.n8_cons, List.length_append]
      by_cases h : (notIn t l).length = l.length
      · simp [h]
      · have h1 : ¬ ((U.n8 (notIn t l)).length : Int) = -1 := by omega
        rw [if_neg h, if_neg h1, if_neg (by omega)]
        omega

theorem notIn_all {t : List Nat} : ∀ {a : List Nat}, (∀ c ∈ a, t.contains c = false) → ∀ (r : List Nat), notIn t (a ++ r) = a ++ notIn t r
  | [], _, _ => rfl
  | c :: a, h, r => by
    show ((c :: a) ++ r).takeWhile _ = _
    rw [List.cons_append, List.takeWhile_cons, if_pos (by rw [h c List.mem_cons_self]; rfl)]
    show c :: notIn t (a ++ r) = _
    rw [notIn_all (fun x hx => h x (List.mem_cons_of_mem _ hx)) r]
    rfl
theorem iterAt_below {B : Nat} {w wr : World} (h : Below B w wr) (s : ByteArray) (p : Nat) : Below B w (wr.iterAt B s p) :=
  ⟨h.os, h.tape, h.output, by show _ ≤ (wr.heap.setIfInBounds _ _).size; simp; exact h.size, fun k hk => by
    show (wr.heap.setIfInBounds B _)[k]? = _
    rw [Array.getElem?_setIfInBounds_ne (by omega)]
    exact h.block k hk⟩
theorem iterAt_size (wr : World) (B : Nat) (s : ByteArray) (p : Nat) : (wr.iterAt B s p).heap.size = wr.heap.size := by
  show (wr.heap.setIfInBounds _ _).size = _
  simp

set_option maxHeartbeats 8000000 in
set_option maxRecDepth 1000000 in
theorem indexAny_few (t : List Nat) (ht : Small t) (h2 : 2 ≤ t.length) (h3 : t.length ≤ 3) (l : List Nat) (hs : K.Sc l) (h8 : (U.n8 l).length ≤ 8) (w : World) :
    Calls Tryz.prog 120 #[.string (bs (U.n8 l)), .string (bs (K.b8 t))] w fun e w' => e = .returned (.int .i64 (Lib.indexAny (U.n8 l) (K.b8 t))) ∧ Below w.heap.size w w' := by
  have hsz := bs_size (U.n8 l)
  have hqz : (bs (K.b8 t)).size = t.length := by rw [bs_size]; simp [K.b8]
  have hres := indexAny_n8 ht l hs
  have hlow : ∀ x ∈ (bs (K.b8 t)).data.toList, x.toNat < 128 := b8_low ht
  have hemp : (bs (K.b8 t)).toList.isEmpty = false := by
    rw [Lib.toList_data]
    cases h : (bs (K.b8 t)).data.toList with
    | nil => have := Lib.size_eq (bs (K.b8 t)); rw [h, List.length_nil] at this; omega
    | cons _ _ => rfl
  have hcell : ∀ (a r : List Nat) (c : Nat), l = a ++ c :: r → Utf8.decode (bs (U.n8 l)) (U.n8 a).length = (c, (U.enc c).length) ∧ (U.n8 a).length < (bs (U.n8 l)).size ∧ (U.n8 (a ++ [c])).length = (U.n8 a).length + (U.enc c).length := by
    rintro a r c rfl
    have hp := U.enc_pos c
    refine ⟨decode_n8 a r c (hs c (by simp)), ?_, ?_⟩
    · rw [bs_size, U.n8_append, U.n8_cons, List.length_append, List.length_append]; omega
    · rw [U.n8_append, List.length_append]; simp [U.n8]
  have hcon : ∀ c, c < 128 → t.contains c = decide (0 ≤ Lib.indexByte (K.b8 t) (UInt8.ofNat c)) := by
    intro c hc
    rw [← b8_contains ht hc]
    exact Lib.contains_iff_indexByte _ _
  have hn1 : (((bs (K.b8 t)).size : Int) == 1) = false := beq_eq_false_iff_ne.2 (by omega)
  obtain ⟨S, hS⟩ : ∃ S, bs (U.n8 l) = S := ⟨_, rfl⟩
  rw [hS] at hsz hcell ⊢
  have hir : ∀ c, t.contains c = false → U.scalar c → ∀ W, Calls Tryz.prog 130 #[.string (bs (K.b8 t)), .int .i32 (c : Int)] W fun e w' => ∃ z : Int, z < 0 ∧ e = .returned (.int .i64 z) ∧ Below W.heap.size W w' := by
    intro c hc hsc W
    by_cases h128 : c < 128
    · refine (Tryz.strings_IndexRune_ascii _ _ W (by omega) (by omega)).mono ?_
      rintro e w' ⟨rfl, rfl⟩
      have h := hcon c h128
      rw [hc] at h
      refine ⟨_, ?_, rfl, Below.refl _ _⟩
      have := of_decide_eq_false h.symm
      rw [Int.toNat_natCast]
      show Lib.indexByte (K.b8 t) (UInt8.ofNat c) < 0
      omega
    · refine (indexRune_any (bs (K.b8 t)) hlow (by omega) c (by omega) hsc W).mono ?_
      rintro e w' ⟨rfl, hb⟩
      exact ⟨-1, by decide, rfl, hb⟩
  have hih : ∀ c, t.contains c = true → ∀ W, Calls Tryz.prog 130 #[.string (bs (K.b8 t)), .int .i32 (c : Int)] W fun e w' => ∃ z : Int, 0 ≤ z ∧ e = .returned (.int .i64 z) ∧ W = w' := by
    intro c hc W
    have h128 : c < 128 := ht c (List.contains_iff_mem.1 hc)
    refine (Tryz.strings_IndexRune_ascii _ _ W (by omega) (by omega)).mono ?_
    rintro e w' ⟨rfl, rfl⟩
    have h := hcon c h128
    rw [hc] at h
    exact ⟨_, of_decide_eq_true h.symm, by rw [Int.toNat_natCast]; rfl, rfl⟩
  generalize bs (K.b8 t) = q at hqz hlow hemp hn1 hir hih ⊢
  have h8z : decide ((8 : Int) < (S.size : Int)) = false := decide_eq_false (by omega)
  have hsc : ∀ (a r : List Nat) (c : Nat), l = a ++ c :: r → U.scalar c := by
    rintro a r c rfl
    exact hs c (by simp)
  have hshould := fun W => (Tryz.strings_shouldUseASCIISet (S.size : Int) W)
  rw [h8z] at hshould
  generalize hRR : Lib.indexAny (U.n8 l) (K.b8 t) = RR at hres ⊢
  have HRR := Lib.hid hres
  have HS := Lib.hid hsc
  have HC := Lib.hid hcell
  have HI := Lib.hid hir
  have HH := Lib.hid hih
  have HSZ := Lib.hid hsz
  have hS8 : S.size ≤ 8 := by omega
  have hq2 : 2 ≤ q.size := by omega
  clear hsc hcell hir hih hlow hcon hS hres hs ht hsz hqz hRR
  obtain ⟨B, hB⟩ : ∃ B, w.heap.size = B := ⟨_, rfl⟩
  have HBB := Lib.hid hB
  go_enter Tryz.func120, Tryz.ntmps120
  go_wp2_with (go_at_call 131; refine (hshould _).mono ?_; rintro e w' ⟨rfl, hw⟩; obtain rfl : w = w' := hw.symm)
  clear hB
  go_loopg [9, 10] l.length (fun g _ _ wx => ∃ a r : List Nat, l = a ++ r ∧ r.length = g ∧ (∀ c ∈ a, t.contains c = false) ∧ wx.heap[B]? = some (.stringIter S (U.n8 a).length) ∧ Below B w wx)
  case atStart =>
    refine ⟨[], l, rfl, rfl, (fun c hc => by cases hc), ?_, ?_⟩
    · have := heap_new w (.stringIter S 0)
      rw [HBB.out] at this
      exact this
    · rw [← HBB.out]; exact (Below.refl _ _).alloc (Nat.le_refl _) _
  case round =>
    obtain ⟨a, r, hl, hrg, hno, hit, hbel⟩ := hrel
    have HN := Lib.hid hno
    have HL := Lib.hid hl
    have HBe := Lib.hid hbel
    clear hno hl hbel
    cases r with
    | nil =>
      have hnx := fun ty => Lib.run_next_end_at (P := Tryz.prog) wr B S (U.n8 a).length ty hit (by have := HL.out; rw [List.append_nil] at this; rw [← this]; have := HSZ.out; omega)
      have HIt := Lib.hid hit
      clear hit
      go_wp2
      go_ret
      refine ⟨?_, by rw [HBB.out]; exact HBe.out⟩
      have e : notIn t l = l := by rw [HL.out, notIn_all HN.out []]; rfl
      have e2 : RR = -1 := by rw [HRR.out, e, if_pos rfl]
      rw [e2]
      rfl
    | cons c r =>
      obtain ⟨hdec, hlt, hnext⟩ := HC.out a r c HL.out
      have hnx := fun ty => Lib.run_next_any_at (P := Tryz.prog) wr B S (U.n8 a).length ty hit hlt
      rw [hdec] at hnx
      have hit2 := Lib.iterAt_heap wr B S (U.n8 a).length ((U.n8 a).length + (U.enc c).length) hit
      have hbel2 := iterAt_below HBe.out S ((U.n8 a).length + (U.enc c).length)
      have hBlt : B < (wr.iterAt B S ((U.n8 a).length + (U.enc c).length)).heap.size := lt_of_heap hit2
      have hsc := HS.out a r c HL.out
      generalize hW2 : wr.iterAt B S ((U.n8 a).length + (U.enc c).length) = w2 at hnx hit2 hbel2 hBlt
      have HIt := Lib.hid hit
      have HIt2 := Lib.hid hit2
      have HNx := Lib.hid hnext
      have HW2 := Lib.hid hW2
      clear hit hdec hit2 hnext hW2
      cases hcc : t.contains c with
      | false =>
        have hcall := HI.out c hcc hsc
        have HCC := Lib.hid hcc
        clear hcc
        go_wp2_with (go_at_call 130; refine (hcall _).mono ?_; rintro e w3 ⟨z, hz0, rfl, hb3⟩)
        go_roundg r.length
        case measure => simp at hrg; omega
        case rel =>
          refine ⟨a ++ [c], r, by rw [HL.out]; simp, by simp at hrg; omega, ?_, ?_, hbel2.trans (hb3.mono (by omega))⟩
          · intro x hx
            rcases List.mem_append.1 hx with hx | hx
            · exact HN.out x hx
            · simp at hx; subst hx; exact HCC.out
          · rw [hb3.block B hBlt, HIt2.out, HNx.out]
      | true =>
        have hcall := HH.out c hcc
        have HCC := Lib.hid hcc
        clear hcc
        go_wp2_with (go_at_call 130; refine (hcall _).mono ?_; rintro e w3 ⟨z, hz0, rfl, rfl⟩)
        go_ret
        refine ⟨?_, by rw [HBB.out]; exact hbel2⟩
        have e : notIn t l = a := by
          rw [HL.out, notIn_all HN.out]
          show a ++ (c :: r).takeWhile _ = a
          rw [List.takeWhile_cons, if_neg (by rw [HCC.out]; decide), List.append_nil]
        have e2 : RR = ((U.n8 a).length : Int) := by rw [HRR.out, e, if_neg (by rw [HL.out]; simp)]
        rw [e2]
        rfl

theorem zero167 (w : World) : (zeroValue 167).run Tryz.prog w = .ok (.agg (Array.replicate 256 (.bool false))) w :=
  (zero_of_info (show (Tryz.prog.info? 167).map (fun i => (i.zero, i.size)) = some (some (.agg (Array.replicate 256 (.bool false))), 256) by kernel_rfl)).1 w
theorem indexAny_bs (t : List Nat) (ht : Small t) (h2 : 2 ≤ t.length) (h3 : t.length ≤ 3) (l : List Nat) (hs : K.Sc l) (hl : (U.n8 l).length ≤ 65536) (w : World) :
    Calls Tryz.prog 120 #[.string (bs (U.n8 l)), .string (bs (K.b8 t))] w fun e w' => e = .returned (.int .i64 (Lib.indexAny (U.n8 l) (K.b8 t))) ∧ Below w.heap.size w w' := by
  have hsz := bs_size (U.n8 l)
  have hqz : (bs (K.b8 t)).size = t.length := by rw [bs_size]; simp [K.b8]
  by_cases h8 : (U.n8 l).length ≤ 8
  · exact indexAny_few t ht h2 h3 l hs h8 w
  · refine (Tryz.strings_IndexAny_long zero167 (bs (U.n8 l)) (bs (K.b8 t)) w (by omega) (by omega) (by omega) (by omega) ?_).mono ?_
    · intro j b hj
      exact b8_low ht b (List.mem_of_getElem? hj)
    · rintro e w' ⟨rfl, rfl⟩
      exact ⟨rfl, ((Below.refl _ _).alloc (Nat.le_refl _) _).alloc (by simp) _⟩
theorem notIn_len (t l : List Nat) : (notIn t l).length ≤ l.length := List.Sublist.length_le (List.takeWhile_sublist _)

set_option maxHeartbeats 1000000 in
theorem before_any (t : List Nat) (ht : Small t) (h2 : 2 ≤ t.length) (h3 : t.length ≤ 3) (b : Nat) (s : K.St) (x : X6) (w : World) (h : Rd b s x w) (q : ByteArray) (hq : q = bs (K.b8 t)) :
    Calls Tryz.prog 106 #[.pointer (some ⟨b, 0, none⟩), .string q] w fun e w' => e = .returned (.int .i64 ((U.n8 (s.1.take (notIn t s.1).length)).length : Int)) ∧ Below w.heap.size w w' := by
  obtain ⟨c0, _, _⟩ := h.cells
  have hcall := indexAny_bs t ht h2 h3 s.1 h.1.sc h.1.len w
  have hres := indexAny_n8 ht s.1 h.1.sc
  have htk : s.1.take (notIn t s.1).length = notIn t s.1 := takeWhile_take _ _
  have hsz := bs_size (U.n8 s.1)
  have hkeep : ∀ W, Below w.heap.size w W → W.cell? ⟨b, 0, none⟩ = some (.string (bs (U.n8 s.1))) := fun W hW => (h.below hW).cells.1
  subst hq
  rw [htk]
  have hall : (notIn t s.1).length = s.1.length → notIn t s.1 = s.1 := fun e => by rw [← htk, e, List.take_length]
  generalize hL : (U.n8 (notIn t s.1)).length = L at hres ⊢
  generalize Lib.indexAny (U.n8 s.1) (K.b8 t) = I at hcall hres
  have hcase : (I = -1 ∧ L = (bs (U.n8 s.1)).size) ∨ I = (L : Int) := by
    by_cases e : (notIn t s.1).length = s.1.length
    · left
      rw [if_pos e] at hres
      exact ⟨hres, by rw [← hL, hall e, hsz]⟩
    · right
      rw [if_neg e] at hres
      exact hres
  generalize bs (U.n8 s.1) = R at c0 hcall hkeep hcase
  generalize bs (K.b8 t) = Q at hcall ⊢
  have HK := Lib.hid hkeep
  clear hkeep hsz hall hL htk hres h
  rcases hcase with ⟨rfl, rfl⟩ | rfl
  · go_enter Tryz.func106, Tryz.ntmps106
    go_wp2_with (go_at_call 120; refine hcall.mono ?_; rintro e w1 ⟨rfl, hb1⟩; have d0 := HK.out _ hb1; have HB1 := Lib.hid hb1; clear hb1)
    go_ret
    exact ⟨rfl, HB1.out⟩
  · go_enter Tryz.func106, Tryz.ntmps106
    go_wp2_with (go_at_call 120; refine hcall.mono ?_; rintro e w1 ⟨rfl, hb1⟩)
    go_ret
    exact ⟨rfl, hb1⟩
end Go.Proofs.YtdilngjolhmjnaaGreatDoor
namespace Go.Proofs.YtdilngjolhmjnaaGreatDoor
open Go.RowKit Go.Shelf
set_option linter.all false

theorem index_high (a : UInt8) (ha : a.toNat < 128) (q r : List UInt8) : ∀ (e : List UInt8), (∀ x ∈ e, 128 ≤ x.toNat) → Lib.index (e ++ r) (a :: q) = if Lib.index r (a :: q) = -1 then -1 else Lib.index r (a :: q) + e.length
  | [], _ => by simp
  | x :: e, h => by
    have ih := index_high a ha q r e (fun y hy => h y (List.mem_cons_of_mem _ hy))
    have hx := h x List.mem_cons_self
    have hge := Lib.index_ge r (a :: q)
    have hp : (a :: q).isPrefixOf (x :: (e ++ r)) = false := by
      have : (a == x) = false := by
        rw [beq_eq_false_iff_ne]
        intro h
        subst h
        omega
      simp [List.isPrefixOf, this]
    show (if (a :: q).isPrefixOf (x :: (e ++ r)) then 0 else if Lib.index (e ++ r) (a :: q) == -1 then -1 else Lib.index (e ++ r) (a :: q) + 1) = _
    rw [hp, ih]
    by_cases hr : Lib.index r (a :: q) = -1
    · simp [hr]
    · have h1 : ¬ (Lib.index r (a :: q) + (e.length : Int) = -1) := by omega
      simp [hr, h1]
      omega
theorem index_n8 {t : List Nat} (ht : Small t) (hne : t ≠ []) : ∀ (l : List Nat), K.Sc l → Lib.index (U.n8 l) (K.b8 t) = match K.idx t l with
    | none => -1
    | some k => ((U.n8 (l.take k)).length : Int)
  | [], _ => by
    cases t with
    | nil => exact absurd rfl hne
    | cons a t => rfl
  | c :: l, hs => by
    have ih := index_n8 ht hne l hs.tail
    have hpre := K.pre_n8 t (c :: l) ht hs
    unfold K.idx
    by_cases hp : t.isPrefixOf (c :: l) = true
    · rw [if_pos hp]
      rw [hp] at hpre
      obtain ⟨x, e, hx⟩ : ∃ x e, U.n8 (c :: l) = x :: e := by
        cases h : U.n8 (c :: l) with
        | nil => exact absurd (K.n8_eq_nil.1 h) (by simp)
        | cons x e => exact ⟨x, e, rfl⟩
      rw [hx] at hpre ⊢
      unfold Lib.index
      rw [if_pos hpre]
      rfl
    · rw [if_neg hp]
      have hp : t.isPrefixOf (c :: l) = false := Bool.eq_false_iff.2 hp
      rw [hp] at hpre
      have hge := Lib.index_ge (U.n8 l) (K.b8 t)
      have hstep : Lib.index (U.n8 (c :: l)) (K.b8 t) = if Lib.index (U.n8 l) (K.b8 t) = -1 then -1 else Lib.index (U.n8 l) (K.b8 t) + (U.enc c).length := by
        by_cases hc : c < 128
        · rw [U.n8_cons, K.enc_low hc] at hpre ⊢
          show (if (K.b8 t).isPrefixOf (UInt8.ofNat c :: U.n8 l) then 0 else if Lib.index (U.n8 l) (K.b8 t) == -1 then -1 else Lib.index (U.n8 l) (K.b8 t) + 1) = _
          rw [if_neg (by rw [show (K.b8 t).isPrefixOf (UInt8.ofNat c :: U.n8 l) = false from hpre]; decide)]
          simp
        · cases t with
          | nil => exact absurd rfl hne
          | cons a t =>
            rw [U.n8_cons]
            exact index_high (UInt8.ofNat a) (by rw [K.toNat_ofNat (by have := ht a List.mem_cons_self; omega)]; exact ht a List.mem_cons_self) (K.b8 t) (U.n8 l) (U.enc c) (K.enc_high_all (Nat.le_of_not_lt hc) hs.head)
      rw [hstep, ih]
      cases hi : K.idx t l with
      | none => rfl
      | some k =>
        simp only [Option.map_some]
        rw [if_neg (by omega), List.take_succ_cons, U.n8_cons, List.length_append, Int.natCast_add]
        omega
theorem idx_pre {t : List Nat} : ∀ {l : List Nat} {k : Nat}, K.idx t l = some k → t.isPrefixOf (l.drop k) = true ∧ k ≤ l.length
  | [], k, h => by simp [K.idx] at h
  | c :: l, k, h => by
    unfold K.idx at h
    split at h
    · cases h; exact ⟨by assumption, Nat.zero_le _⟩
    · cases hi : K.idx t l with
      | none => rw [hi] at h; cases h
      | some j =>
        rw [hi] at h
        simp at h
        subst h
        obtain ⟨h1, h2⟩ := idx_pre hi
        exact ⟨h1, by simp; omega⟩

theorem index_call (t : List Nat) (ht : Small t) (hne : t ≠ []) (l : List Nat) (hs : K.Sc l) (hl : (U.n8 l).length ≤ 65536) (w : World) (h : Low w) :
    Calls Tryz.prog 90 #[.string (bs (U.n8 l)), .string (bs (K.b8 t))] w fun e w' => e = .returned (.int .i64 (match K.idx t l with | none => -1 | some k => ((U.n8 (l.take k)).length : Int))) ∧ w = w' := by
  obtain ⟨m, hm⟩ := h.maxl
  have hsz := bs_size (U.n8 l)
  refine (Tryz.strings_Index (bs (U.n8 l)) (bs (K.b8 t)) m w (by omega) hm).mono ?_
  rintro e w' ⟨rfl, rfl⟩
  refine ⟨?_, rfl⟩
  rw [bs_list, bs_list, index_n8 ht hne l hs]

set_option maxHeartbeats 2000000 in
theorem upTo_any (t : List Nat) (ht : Small t) (hne : t ≠ []) (h4 : t.length ≤ 9) (b : Nat) (s : K.St) (x : X6) (w : World) (h : Rd b s x w) (hlow : Low w) (q : ByteArray) (hq : q = bs (K.b8 t)) :
    Calls Tryz.prog 89 #[.pointer (some ⟨b, 0, none⟩), .string q] w (Step b x w strRet (K.upTo t s)) := by
  obtain ⟨c0, _, _⟩ := h.cells
  have hcall := index_call t ht hne s.1 h.1.sc h.1.len w hlow
  have hqz : q.size = t.length := by rw [hq, bs_size]; simp [K.b8]
  subst hq
  have hup : K.upTo t s = match K.idx t s.1 with
    | none => .error (21, K.advs s.2 s.1)
    | some n => .ok (s.1.take n, K.skip s (n + t.length)) := rfl
  rw [hup]
  generalize bs (U.n8 s.1) = R at c0 hcall
  generalize bs (K.b8 t) = Q at hcall hqz ⊢
  cases hi : K.idx t s.1 with
  | none =>
    have hbr := breakOff_any b s x w h
    rw [hi] at hcall
    have hcall : Calls Tryz.prog 90 #[.string R, .string Q] w fun e w' => e = .returned (.int .i64 (-1)) ∧ w = w' := hcall
    clear hi hup h
    go_enter Tryz.func89, Tryz.ntmps89
    go_wp2_with (first | (go_at_call 90; refine hcall.mono ?_; rintro e w1 ⟨rfl, rfl⟩) | (go_at_call 91; refine hbr.mono ?_; rintro e w1 ⟨⟨fb, rfl, hfc⟩, hfb⟩))
    exact ⟨rfl, ⟨_, rfl, hfc⟩, hfb⟩
  | some n =>
    obtain ⟨hpre, hnl⟩ := idx_pre hi
    rw [hi] at hcall
    have hcall : Calls Tryz.prog 90 #[.string R, .string Q] w fun e w' => e = .returned (.int .i64 ((U.n8 (s.1.take n)).length : Int)) ∧ w = w' := hcall
    have htk1 := take_any n b s x w h _ rfl
    have htk : (s.1.drop n).take t.length = t := (List.prefix_iff_eq_take.1 (List.isPrefixOf_iff_prefix.1 hpre)).symm
    have htk2 : ∀ W, Rd b (K.skip s n) x W → Calls Tryz.prog 61 #[.pointer (some ⟨b, 0, none⟩), .int .i64 (t.length : Int)] W (Took b (K.skip s n) x t.length W) := by
      intro W hW
      refine take_any t.length b (K.skip s n) x W hW _ ?_
      show _ = ((U.n8 ((s.1.drop n).take t.length)).length : Int)
      rw [htk, K.n8_length_small t ht]
    have hss := K.skip_skip s n t.length
    unfold Took at htk2
    rw [hss] at htk2
    have HT := Lib.hid htk2
    have hlen := n8_take_le s.1 n
    have hl2 := h.1.len
    obtain ⟨L, hL⟩ : ∃ L, (U.n8 (s.1.take n)).length = L := ⟨_, rfl⟩
    rw [hL] at hcall htk1 hlen
    have hl3 : L ≤ 65536 := by omega
    clear hi hup h htk hss htk2 hpre hL hlen hl2
    go_enter Tryz.func89, Tryz.ntmps89
    go_wp2_with (first
      | (go_at_call 90; refine hcall.mono ?_; rintro e w1 ⟨rfl, rfl⟩)
      | (go_at_call 61; first
        | ((with_reducible refine htk1.mono ?_); rintro e w1 ⟨rfl, hR1, hB1⟩; have ht2 := HT.out _ hR1; have HB1 := Lib.hid hB1; clear hR1 hB1)
        | ((with_reducible refine ht2.mono ?_); rintro e w2 ⟨rfl, hR2, hB2⟩; have HR2 := Lib.hid hR2; clear hR2)))
    go_ret
    exact ⟨rfl, HR2.out, HB1.out.trans hB2⟩
end Go.Proofs.YtdilngjolhmjnaaGreatDoor
