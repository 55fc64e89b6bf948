/- atof64: ends, with one answer for its text. Conditions: those that each theorem names. strconv.ParseFloat at a number's text: ends, with one float, whatever its error. Conditions: those that each theorem names. What package strconv's variables hold that a number's reading looks at. Conditions: none. -/
import Derived.Test.YtelphbcdjfdjpaaGreatDoorZ8
import Derived.Test.YtelphbcdjfdjpaaGreatDoorDn
import Derived.Test.YtelphbcdjfdjpaaGreatDoorDl
import Derived.Test.YtelphbcdjfdjpaaGreatDoorShelf
namespace Go.Proofs.YtelphbcdjfdjpaaGreatDoor
open Go.RowKit
set_option linter.all false

/-- What package strconv's tables hold. -/
structure Env (N : Nat) (w : World) : Prop where
  ft : FT N w
  ten : TenAt N w
  sc : ScaleTab N w
  o1 : 9 < N
  o2 : w.cell? ⟨9, 0, none⟩ = some (.bool true)
theorem Env.keep {N B : Nat} {w w' : World} (h : Env N w) (k : Below B w w') (hN : N ≤ B) : Env N w' :=
  ⟨h.ft.keep k hN, h.ten.keep k hN, h.sc.keep k hN, h.o1, by rw [below_cell k (by have := h.o1; omega)]; exact h.o2⟩
theorem special_any (S : ByteArray) (h : 0 < S.size) (h0 : sb S 0 = 48) (w : World) : Calls Tryz.prog 157 #[.string S] w fun e w' => e = .returned (.tuple #[.float .f64 0, .int .i64 0, .bool false]) ∧ w = w' := by
  obtain ⟨e0, he0⟩ : ∃ e0, S[0]'h = e0 := ⟨_, rfl⟩
  have hv0 : e0.toNat = 48 := by rw [← he0, sb_at S 0 h, h0]
  have hl1 : (0 : Int) < (S.size : Int) := by omega
  have hne : ¬ S = ByteArray.empty := fun e => by rw [e] at h; exact absurd h (by decide)
  have hz : ((S.size : Int) == 0) = false := beq_eq_false_iff_ne.2 (by omega)
  clear h0
  go_enter Tryz.func157, Tryz.ntmps157
  go_wp2
  refine bodyPost_ret (v := .tuple #[.float .f64 0, .int .i64 0, .bool false]) ?_ rfl ?_
  · simp [results, Tryz.results157, go_sem]
  exact ⟨rfl, rfl⟩
theorem dcOf_good {S : ByteArray} {n ng x : Nat} {D E : Nat → Nat} (h : NumT S n D ng x E) : PF.Good (PF.dcOf n D ng x E) := by
  refine ⟨fun i hi => ?_, h.n1, by have := h.n2; show n ≤ 800; omega, ?_⟩
  · show PF.Dg (setD D n i)
    have hi' : i < n := hi
    unfold setD
    rw [if_pos hi']
    exact (h.dg i hi').2
  · show setD D n 0 ≠ 48
    have h1 := h.n1
    unfold setD
    rw [if_pos (show 0 < n by omega)]
    exact h.first
theorem pw_bd {S : ByteArray} {n ng x : Nat} {D E : Nat → Nat} (h : NumT S n D ng x E) : -100008 ≤ PF.pw n ng x E ∧ PF.pw n ng x E ≤ 100008 := by
  have := PF.ev_le E x (fun i hi => (h.ex i hi).2) x (Nat.le_refl _)
  unfold PF.pw
  split <;> omega
theorem extract_all (S : ByteArray) : S.extract 0 S.size = S := ByteArray.extract_zero_size
theorem zc_eq : Tryz.zeroCells186 = Array.replicate 800 (.int .u8 0) ++ #[.int .i64 0, .int .i64 0, .bool false, .bool false] := by kernel_rfl
theorem dec_new (D : Nat → Nat) (W : World) : DecAt W.heap.size (setD D 0) 0 0 false (W.alloc (.cells Tryz.zeroCells186 186)) := by
  refine ⟨_, heap_new W _, ?_, fun i hi => ?_, ?_, ?_, ?_, ?_⟩
  · rw [zc_eq]; simp
  · rw [zc_eq, Array.getElem?_append_left (by simpa using hi), Array.getElem?_replicate, if_pos hi]
    rfl
  · rw [zc_eq, Array.getElem?_append_right (by simp)]; simp
  · rw [zc_eq, Array.getElem?_append_right (by simp)]; simp
  · rw [zc_eq, Array.getElem?_append_right (by simp)]; simp
  · rw [zc_eq, Array.getElem?_append_right (by simp)]; simp
theorem dec_drewN_trans {w w' : World} {n : Nat} (h : Below (w.drewN n).heap.size (w.drewN n) w') : Below w.heap.size w w' := (dec_drewN (Below.refl _ _) n).trans h
set_option maxHeartbeats 16000000 in
set_option maxRecDepth 100000 in
theorem atof64_any (S : ByteArray) (n : Nat) (D : Nat → Nat) (ng x : Nat) (E : Nat → Nat) (h : NumT S n D ng x E) : ∃ (v : Nat) (er : Value), ErOk er ∧ ∀ (N : Nat) (w : World), Env N w → N ≤ w.heap.size →
    Calls Tryz.prog 152 #[.string S] w fun e w' => e = .returned (.tuple #[.float .f64 v, .int .i64 (S.size : Int), er]) ∧ Below w.heap.size w w' := by
  have hsp := special_any S (by have := h.size; omega) h.b0
  have hrf := readFloat_any S n D ng x E h
  have hdl : PF.val D (min n 19) < 10000000000000000000 := by
    have h1 := PF.val_lt D (min n 19) (fun i hi => (h.dg i (by omega)).2)
    have h2 : 10 ^ (min n 19) ≤ 10 ^ 19 := Nat.pow_le_pow_right (by omega) (by omega)
    omega
  have hdp : 1 ≤ PF.val D (min n 19) := by
    have h1 := h.n1
    have := PF.val_ge D (min n 19) (fun i hi => (h.dg i (by omega)).2) h.first (by omega)
    have hp : 1 ≤ 10 ^ (min n 19 - 1) := Nat.pow_pos (by omega)
    omega
  obtain ⟨d, hd⟩ : ∃ d, PF.val D (min n 19) = d := ⟨_, rfl⟩
  have hpb := pw_bd h
  obtain ⟨p, hp⟩ : ∃ p : Int, PF.pw n ng x E - ((min n 19 : Nat) : Int) = p := ⟨_, rfl⟩
  obtain ⟨t, ht⟩ : ∃ t, PF.rtr D n = t := ⟨_, rfl⟩
  rw [hd, hp, ht] at hrf
  rw [hd] at hdl hdp
  obtain ⟨dz, hdz⟩ : ∃ dz : Int, (d : Int) = dz := ⟨_, rfl⟩
  rw [hdz] at hrf
  have hd0 : (dz == 0) = false := beq_eq_false_iff_ne.2 (by omega)
  have b2 := bool2_u
  have x2 := x_from2
  by_cases h310 : 310 < p
  · clear hdl hdp hd hpb hp ht hdz h
    apply Exists.intro
    apply Exists.intro
    refine And.intro ?_ ?_
    rotate_left
    intro N w hE hN
    have o2 := hE.o2
    go_enter Tryz.func152, Tryz.ntmps152
    go_wp2_with (first | (go_at_call 157; (with_reducible refine (hsp _).mono ?_); rintro e1 w9 ⟨rfl, rfl⟩) | (go_at_call 158; (with_reducible refine (hrf _).mono ?_); rintro e1 w9 ⟨rfl, n9, rfl⟩; have hE9 := hE.keep (dec_drewN (Below.refl N w) n9) (Nat.le_refl _); have hN9 : N ≤ (w.drewN n9).heap.size := hN) | (go_at_call 166; (with_reducible refine (b2 _ _).mono ?_); rintro e1 w9 ⟨rfl, rfl⟩))
    go_ret3
    exact ⟨rfl, dec_drewN (Below.refl _ _) _⟩
    first | exact .inl rfl | exact .inr rfl | exact her
  · by_cases h345 : p < -345
    · have hq1 : decide (310 < p) = false := decide_eq_false h310
      have hq2 : decide (p < -345) = true := decide_eq_true h345
      clear hdl hdp hd hpb hp ht hdz h h310 h345
      apply Exists.intro
      apply Exists.intro
      refine And.intro ?_ ?_
      rotate_left
      intro N w hE hN
      have o2 := hE.o2
      go_enter Tryz.func152, Tryz.ntmps152
      go_wp2_with (first | (go_at_call 157; (with_reducible refine (hsp _).mono ?_); rintro e1 w9 ⟨rfl, rfl⟩) | (go_at_call 158; (with_reducible refine (hrf _).mono ?_); rintro e1 w9 ⟨rfl, n9, rfl⟩; have hE9 := hE.keep (dec_drewN (Below.refl N w) n9) (Nat.le_refl _); have hN9 : N ≤ (w.drewN n9).heap.size := hN) | (go_at_call 166; (with_reducible refine (b2 _ _).mono ?_); rintro e1 w9 ⟨rfl, rfl⟩))
      go_ret3
      exact ⟨rfl, dec_drewN (Below.refl _ _) _⟩
      first | exact .inl rfl | exact .inr rfl | exact her
    · obtain ⟨f, er, her, hpf⟩ := pf64_any d hdp (by omega) p (by omega)
      rw [hdz] at hpf
      have hq1 : decide (310 < p) = false := decide_eq_false h310
      have hq2 : decide (p < -345) = false := decide_eq_false h345
      cases t
      · obtain ⟨fx, okx, hex⟩ := exact_any d (by omega) p (by omega)
        unfold ExactOk at hex
        rw [hdz] at hex
        clear hdl hdp hd hpb hp ht hdz h h310 h345
        cases okx
        · apply Exists.intro
          apply Exists.intro
          refine And.intro ?_ ?_
          rotate_left
          intro N w hE hN
          have o2 := hE.o2
          go_enter Tryz.func152, Tryz.ntmps152
          go_wp2_with (first | (go_at_call 157; (with_reducible refine (hsp _).mono ?_); rintro e1 w9 ⟨rfl, rfl⟩) | (go_at_call 158; (with_reducible refine (hrf _).mono ?_); rintro e1 w9 ⟨rfl, n9, rfl⟩; have hE9 := hE.keep (dec_drewN (Below.refl N w) n9) (Nat.le_refl _); have hN9 : N ≤ (w.drewN n9).heap.size := hN) | (go_at_call 166; (with_reducible refine (b2 _ _).mono ?_); rintro e1 w9 ⟨rfl, rfl⟩) | (go_at_call 168; (with_reducible refine (hex _ _ hE9.ft hE9.ten).mono ?_); rintro e1 w9 ⟨rfl, rfl⟩) | (go_at_call 169; (with_reducible refine (hpf _ _ hE9.sc hN9).mono ?_); rintro e1 w10 ⟨rfl, hb10⟩))
          go_ret3
          exact ⟨rfl, dec_drewN_trans hb10⟩
          first | exact .inl rfl | exact .inr rfl | exact her
        · apply Exists.intro
          apply Exists.intro
          refine And.intro ?_ ?_
          rotate_left
          intro N w hE hN
          have o2 := hE.o2
          go_enter Tryz.func152, Tryz.ntmps152
          go_wp2_with (first | (go_at_call 157; (with_reducible refine (hsp _).mono ?_); rintro e1 w9 ⟨rfl, rfl⟩) | (go_at_call 158; (with_reducible refine (hrf _).mono ?_); rintro e1 w9 ⟨rfl, n9, rfl⟩; have hE9 := hE.keep (dec_drewN (Below.refl N w) n9) (Nat.le_refl _); have hN9 : N ≤ (w.drewN n9).heap.size := hN) | (go_at_call 166; (with_reducible refine (b2 _ _).mono ?_); rintro e1 w9 ⟨rfl, rfl⟩) | (go_at_call 168; (with_reducible refine (hex _ _ hE9.ft hE9.ten).mono ?_); rintro e1 w9 ⟨rfl, rfl⟩))
          go_ret3
          exact ⟨rfl, dec_drewN (Below.refl _ _) _⟩
          first | exact .inl rfl | exact .inr rfl | exact her
      · obtain ⟨f1, er1, -, hpf1⟩ := pf64_any (d + 1) (by omega) (by omega) p (by omega)
        obtain ⟨d1, hd1⟩ : ∃ d1 : Int, ((d + 1 : Nat) : Int) = d1 := ⟨_, rfl⟩
        rw [hd1] at hpf1
        have g1 : IntKind.u64.wrap (dz + 1) = d1 := by rw [IntWalk.u64_in _ (by omega)]; omega
        obtain ⟨q, hq⟩ : ∃ q, (FloatKind.f64.format.order f f1 == some Ordering.eq) = q := ⟨_, rfl⟩
        have HN := Lib.hid h
        clear hdl hdp hd hpb hp ht hdz h hd1 h310 h345
        cases q
        · have hex0 : S.extract 0 S.size = S := extract_all S
          have hset := fun W => set_any W.heap.size W.heap.size (Nat.le_refl _) S n D ng x E HN.out (W.alloc (.cells Tryz.zeroCells186 186)) (dec_new D W)
          have hfb := fun N B (hN : N ≤ B) W (hW : DcAt B (PF.dcOf n D ng x E) W) (hF : FT N W) => floatBits_any N B B (PF.dcOf n D ng x E) hN (Nat.le_refl _) (dcOf_good HN.out) (by have := pw_bd HN.out; show -200000 ≤ PF.pw n ng x E ∧ PF.pw n ng x E ≤ 200000; omega) W hW hF
          obtain ⟨V, hV⟩ : ∃ V, PF.fbv (PF.fbm (PF.dcOf n D ng x E)) = V := ⟨_, rfl⟩
          obtain ⟨O, hO⟩ : ∃ O, (PF.fbm (PF.dcOf n D ng x E)).2.2 = O := ⟨_, rfl⟩
          rw [hV, hO] at hfb
          clear hV hO
          cases O
          · apply Exists.intro
            apply Exists.intro
            refine And.intro ?_ ?_
            rotate_left
            intro N w hE hN
            have o2 := hE.o2
            go_enter Tryz.func152, Tryz.ntmps152
            go_wp2_with (first | (go_at_call 164; (with_reducible refine (hset _).mono ?_); rintro e1 w12 ⟨rfl, hd12, hb12⟩; have hb13 := ((Below.refl w11.heap.size w11).alloc (Nat.le_refl _) (.cells Tryz.zeroCells186 186)).trans hb12; have hE12 := hE11.keep hb13 hN11) | (go_at_call 165; (with_reducible refine (hfb N _ hN11 _ hd12 hE12.ft).mono ?_); rintro e1 w14 ⟨rfl, hb14⟩) | (go_at_call 157; (with_reducible refine (hsp _).mono ?_); rintro e1 w9 ⟨rfl, rfl⟩) | (go_at_call 158; (with_reducible refine (hrf _).mono ?_); rintro e1 w9 ⟨rfl, n9, rfl⟩; have hE9 := hE.keep (dec_drewN (Below.refl N w) n9) (Nat.le_refl _); have hN9 : N ≤ (w.drewN n9).heap.size := hN) | (go_at_call 166; (with_reducible refine (b2 _ _).mono ?_); rintro e1 w9 ⟨rfl, rfl⟩) | (go_at_call 169; first | ((with_reducible refine (hpf _ _ hE9.sc hN9).mono ?_); rintro e1 w10 ⟨rfl, hb10⟩; have hE10 := hE9.keep hb10 hN9; have hN10 := Nat.le_trans hN9 hb10.size) | ((with_reducible refine (hpf1 _ _ hE10.sc hN10).mono ?_); rintro e1 w11 ⟨rfl, hb11⟩; have hE11 := hE10.keep hb11 hN10; have hN11 := Nat.le_trans hN10 hb11.size)))
            go_ret3
            exact ⟨rfl, ((dec_drewN_trans hb10).trans (hb11.mono hb10.size)).trans ((hb13.mono (Nat.le_trans hb10.size hb11.size)).trans (hb14.mono (Nat.le_trans hb10.size hb11.size)))⟩
            first | exact .inl rfl | exact .inr rfl | exact her
          · apply Exists.intro
            apply Exists.intro
            refine And.intro ?_ ?_
            rotate_left
            intro N w hE hN
            have o2 := hE.o2
            go_enter Tryz.func152, Tryz.ntmps152
            go_wp2_with (first | (go_at_call 164; (with_reducible refine (hset _).mono ?_); rintro e1 w12 ⟨rfl, hd12, hb12⟩; have hb13 := ((Below.refl w11.heap.size w11).alloc (Nat.le_refl _) (.cells Tryz.zeroCells186 186)).trans hb12; have hE12 := hE11.keep hb13 hN11) | (go_at_call 165; (with_reducible refine (hfb N _ hN11 _ hd12 hE12.ft).mono ?_); rintro e1 w14 ⟨rfl, hb14⟩) | (go_at_call 157; (with_reducible refine (hsp _).mono ?_); rintro e1 w9 ⟨rfl, rfl⟩) | (go_at_call 158; (with_reducible refine (hrf _).mono ?_); rintro e1 w9 ⟨rfl, n9, rfl⟩; have hE9 := hE.keep (dec_drewN (Below.refl N w) n9) (Nat.le_refl _); have hN9 : N ≤ (w.drewN n9).heap.size := hN) | (go_at_call 166; (with_reducible refine (b2 _ _).mono ?_); rintro e1 w9 ⟨rfl, rfl⟩) | (go_at_call 169; first | ((with_reducible refine (hpf _ _ hE9.sc hN9).mono ?_); rintro e1 w10 ⟨rfl, hb10⟩; have hE10 := hE9.keep hb10 hN9; have hN10 := Nat.le_trans hN9 hb10.size) | ((with_reducible refine (hpf1 _ _ hE10.sc hN10).mono ?_); rintro e1 w11 ⟨rfl, hb11⟩; have hE11 := hE10.keep hb11 hN10; have hN11 := Nat.le_trans hN10 hb11.size)))
            go_ret3
            exact ⟨rfl, ((dec_drewN_trans hb10).trans (hb11.mono hb10.size)).trans ((hb13.mono (Nat.le_trans hb10.size hb11.size)).trans (hb14.mono (Nat.le_trans hb10.size hb11.size)))⟩
            first | exact .inl rfl | exact .inr rfl | exact her
        · apply Exists.intro
          apply Exists.intro
          refine And.intro ?_ ?_
          rotate_left
          intro N w hE hN
          have o2 := hE.o2
          go_enter Tryz.func152, Tryz.ntmps152
          go_wp2_with (first | (go_at_call 157; (with_reducible refine (hsp _).mono ?_); rintro e1 w9 ⟨rfl, rfl⟩) | (go_at_call 158; (with_reducible refine (hrf _).mono ?_); rintro e1 w9 ⟨rfl, n9, rfl⟩; have hE9 := hE.keep (dec_drewN (Below.refl N w) n9) (Nat.le_refl _); have hN9 : N ≤ (w.drewN n9).heap.size := hN) | (go_at_call 166; (with_reducible refine (b2 _ _).mono ?_); rintro e1 w9 ⟨rfl, rfl⟩) | (go_at_call 169; first | ((with_reducible refine (hpf _ _ hE9.sc hN9).mono ?_); rintro e1 w10 ⟨rfl, hb10⟩; have hE10 := hE9.keep hb10 hN9; have hN10 := Nat.le_trans hN9 hb10.size) | ((with_reducible refine (hpf1 _ _ hE10.sc hN10).mono ?_); rintro e1 w11 ⟨rfl, hb11⟩)))
          go_ret3
          exact ⟨rfl, (dec_drewN_trans hb10).trans (hb11.mono hb10.size)⟩
          first | exact .inl rfl | exact .inr rfl | exact her
end Go.Proofs.YtelphbcdjfdjpaaGreatDoor
namespace Go.Proofs.YtelphbcdjfdjpaaGreatDoor
open Go.RowKit
set_option linter.all false

set_option maxHeartbeats 4000000 in
theorem prefix_any (S : ByteArray) (v : Nat) (er : Value) (w : World) (h : Calls Tryz.prog 152 #[.string S] w fun e w' => e = .returned (.tuple #[.float .f64 v, .int .i64 (S.size : Int), er]) ∧ Below w.heap.size w w') :
    Calls Tryz.prog 149 #[.string S, .int .i64 64] w fun e w' => e = .returned (.tuple #[.float .f64 v, .int .i64 (S.size : Int), er]) ∧ Below w.heap.size w w' := by
  go_enter Tryz.func149, Tryz.ntmps149
  go_wp2_with (go_at_call 152; (with_reducible refine h.mono ?_); rintro e1 w9 ⟨rfl, hb⟩)
  go_ret3
  exact ⟨rfl, hb⟩
set_option maxHeartbeats 4000000 in
theorem ipf_any (S : ByteArray) (v : Nat) (er : Value) (w : World) (h : Calls Tryz.prog 149 #[.string S, .int .i64 64] w fun e w' => e = .returned (.tuple #[.float .f64 v, .int .i64 (S.size : Int), er]) ∧ Below w.heap.size w w') :
    Calls Tryz.prog 146 #[.string S, .int .i64 64] w fun e w' => e = .returned (.tuple #[.float .f64 v, er]) ∧ Below w.heap.size w w' := by
  obtain ⟨sz, hsz⟩ : ∃ sz : Int, (S.size : Int) = sz := ⟨_, rfl⟩
  have ht : (sz != sz) = false := by simp
  go_enter Tryz.func146, Tryz.ntmps146
  go_wp2_with (go_at_call 149; (with_reducible refine h.mono ?_); rintro e1 w9 ⟨rfl, hb⟩)
  go_ret2
  exact ⟨rfl, hb⟩
set_option maxHeartbeats 4000000 in
theorem parseFloat_any (S : ByteArray) (n : Nat) (D : Nat → Nat) (ng x : Nat) (E : Nat → Nat) (h : NumT S n D ng x E) : ∃ v : Nat, ∀ (N : Nat) (w : World), Env N w → N ≤ w.heap.size → (7 < N ∧ ∃ te pe, w.cell? ⟨7, 0, none⟩ = some (.iface te pe)) →
    Calls Tryz.prog 138 #[.string S, .int .i64 64] w fun e w' => (∃ ev, e = .returned (.tuple #[.float .f64 v, ev])) ∧ Below w.heap.size w w' := by
  have hsz : S.size ≤ 281474976710656 := by have := h.size; have := h.n2; have := h.x2; have := h.ng1; omega
  obtain ⟨v, er, her, hat⟩ := atof64_any S n D ng x E h
  refine ⟨v, fun N w hE hN hR => ?_⟩
  obtain ⟨hRN, te, pe, hRc⟩ := hR
  have hi := ipf_any S v er w (prefix_any S v er w (hat N w hE hN))
  have hto := fun w' (hb : Below w.heap.size w w') => Tryz.strconv_toError_range ⟨#[80, 97, 114, 115, 101, 70, 108, 111, 97, 116]⟩ S 0 64 (.iface te pe) w' hsz (by rw [below_cell hb (by omega)]; exact hRc) (.inr ⟨te, pe, rfl⟩)
  have HTO := Lib.hid hto
  clear hat hto hRc hE h
  rcases her with rfl | rfl
  · go_enter Tryz.func138, Tryz.ntmps138
    go_wp2_with (go_at_call 146; (with_reducible refine hi.mono ?_); rintro e1 w9 ⟨rfl, hb⟩)
    go_ret2
    exact ⟨⟨_, rfl⟩, hb⟩
  · go_enter Tryz.func138, Tryz.ntmps138
    go_wp2_with (first | (go_at_call 146; (with_reducible refine hi.mono ?_); rintro e1 w9 ⟨rfl, hb⟩) | (go_at_call 120; (with_reducible refine (HTO.out _ hb).mono ?_); rintro e1 w10 ⟨N2, rfl, -, -, hb2⟩))
    go_ret2
    exact ⟨⟨_, rfl⟩, hb.trans (hb2.mono hb.size)⟩
end Go.Proofs.YtelphbcdjfdjpaaGreatDoor
namespace Go.Proofs.YtelphbcdjfdjpaaGreatDoor
open Go.RowKit
set_option linter.all false

/-- The table that Itoa reads. -/
def ItTab (N : Nat) (w : World) : Prop := 11 < N ∧ Lib.TabIs Tryz.prog w "internal/strconv.uint64pow10" .u64 Lib.pow10Tab
theorem gn_it : Tryz.prog.globalNamed "internal/strconv.uint64pow10" = some 11 := by kernel_rfl
theorem ItTab.keep {N B : Nat} {w w' : World} (h : ItTab N w) (k : Below B w w') (hN : N ≤ B) : ItTab N w' := by
  refine ⟨h.1, ?_⟩
  have h2 := h.2
  unfold Lib.TabIs World.var? at h2 ⊢
  rw [gn_it] at h2 ⊢
  simp only [Option.bind_some] at h2 ⊢
  rw [k.block _ (by have := h.1; omega)]
  exact h2
/-- All of them but strconv.ErrRange. -/
structure NumE (N : Nat) (w : World) : Prop where
  env : Env N w
  it : ItTab N w
theorem NumE.keep {N B : Nat} {w w' : World} (h : NumE N w) (k : Below B w w') (hN : N ≤ B) : NumE N w' := ⟨h.env.keep k hN, h.it.keep k hN⟩
end Go.Proofs.YtelphbcdjfdjpaaGreatDoor
