/- strings.EqualFold of any text and a few small characters. Conditions: those that each theorem names. strings.EqualFold of any text and a few small characters, on. Conditions: those that each theorem names. strings.EqualFold of any text and a few small characters: its answer. Conditions: those that each theorem names. -/
import Derived.Test.YtdilngjolhmjnaaGreatDoorB2
import Derived.Deep.LoopGhost
import Derived.BigGuard
namespace Go.Proofs.YtdilngjolhmjnaaGreatDoor
open Go.RowKit Go.Shelf
set_option linter.all false

def foldT (c : Nat) : Nat := if 65 ≤ c ∧ c ≤ 90 then c + 32 else if 97 ≤ c ∧ c ≤ 122 then c - 32 else c
/-- The orbit of a small character that is no k and no s. -/
structure NoKs (c : Nat) : Prop where
  small : c < 128
  k : c ≠ 107 ∧ c ≠ 115 ∧ c ≠ 75 ∧ c ≠ 83
set_option maxRecDepth 100000 in
theorem simpleFold_any (c : Nat) (hc : NoKs c) (w : World) (h : Low w) : Calls Tryz.prog 101 #[.int .i32 (c : Int)] w fun e w' => e = .returned (.int .i32 (foldT c : Int)) ∧ w = w' := by
  have hcell := h.fold c hc.small
  have h128 := hc.small
  have hv : (if 65 ≤ c ∧ c ≤ 90 then (c : Int) + 32 else if c = 107 then 8490 else if c = 115 then 383 else if 97 ≤ c ∧ c ≤ 122 then (c : Int) - 32 else (c : Int)) = (foldT c : Int) := by
    obtain ⟨_, h1, h2, _⟩ := hc
    unfold foldT
    simp only [h1, h2, if_false]
    split
    · omega
    · split <;> omega
  rw [hv] at hcell
  have hf0 : (0 : Int) ≤ (foldT c : Int) := by omega
  have hf1 : (foldT c : Int) < 256 := by
    have : foldT c < 256 := by unfold foldT; repeat' split
                               all_goals omega
    omega
  clear hv hc h
  generalize (foldT c) = z at hcell hf0 hf1 ⊢
  have hc0 : (0 : Int) ≤ (c : Int) := by omega
  have hc1 : (c : Int) < 128 := by omega
  go_enter Tryz.func101, Tryz.ntmps101
  go_wp2
  go_ret
  exact ⟨rfl, rfl⟩
theorem foldT_foldT (c : Nat) (h : c < 128) : foldT (foldT c) = c := by
  unfold foldT
  repeat' split
  all_goals omega
theorem foldT_noks {c : Nat} (h : NoKs c) : NoKs (foldT c) := by
  obtain ⟨h1, h2⟩ := h
  unfold foldT
  refine ⟨?_, ?_⟩
  · repeat' split
    all_goals omega
  · repeat' split
    all_goals omega

theorem foldEq_low : ∀ x : Nat, x < 128 → ∀ y : Nat, y < 128 → Lib.foldEq (UInt8.ofNat x) (UInt8.ofNat y) = decide (K.low x = K.low y) := by decide +kernel
theorem equalFold_low : ∀ (a t : List Nat), Small a → Small t → Lib.equalFold (K.b8 a) (K.b8 t) = decide (a.map K.low = t.map K.low)
  | [], [], _, _ => rfl
  | [], _ :: _, _, _ => rfl
  | _ :: _, [], _, _ => rfl
  | x :: a, y :: t, ha, ht => by
    have ih := equalFold_low a t (fun c hc => ha c (List.mem_cons_of_mem _ hc)) (fun c hc => ht c (List.mem_cons_of_mem _ hc))
    show (Lib.foldEq (UInt8.ofNat x) (UInt8.ofNat y) && Lib.equalFold (K.b8 a) (K.b8 t)) = _
    rw [foldEq_low x (ha x List.mem_cons_self) y (ht y List.mem_cons_self), ih]
    rw [Bool.eq_iff_iff]
    simp
theorem sc_small' {c : Nat} (h : c < 128) : U.scalar c := .inl (by omega)
theorem or_low : ∀ x : Nat, x < 128 → ∀ y : Nat, y < 128 → bits BinOp.or IntKind.u8 (x : Int) (y : Int) < 128 := by decide +kernel
theorem or_high : ∀ x : Nat, x < 256 → 128 ≤ x → ∀ y : Nat, y < 128 → 128 ≤ bits BinOp.or IntKind.u8 (x : Int) (y : Int) := by decide +kernel

end Go.Proofs.YtdilngjolhmjnaaGreatDoor
namespace Go.Proofs.YtdilngjolhmjnaaGreatDoor
open Go.RowKit Go.Shelf
set_option linter.all false

def foldFrame (S Q : ByteArray) (k : Nat) (u : Nat → Value) : Array Value := #[.string S, .string Q, u 2, u 3, u 4, .int .i64 (k : Int), u 6, u 7, u 8, u 9, u 10, u 11, u 12, u 13, u 14, u 15, u 16, u 17, u 18, u 19, u 20, u 21, u 22, u 23, u 24, u 25, u 26, u 27, u 28, u 29, u 30, u 31, u 32, u 33, u 34, u 35, u 36, u 37, u 38, u 39, u 40, u 41, u 42, u 43, u 44, u 45, u 46, u 47, u 48, u 49, u 50, u 51, u 52, u 53, u 54, u 55, u 56, u 57, u 58, u 59, u 60, u 61, u 62, u 63, u 64, u 65, u 66, u 67, u 68, u 69, u 70, u 71, u 72, u 73, u 74, u 75, u 76, u 77, u 78, u 79, u 80, u 81, u 82, u 83, u 84, u 85, u 86, u 87, u 88, u 89, u 90, u 91, u 92, u 93, u 94, u 95, u 96, u 97, u 98, u 99, u 100, u 101, u 102, u 103, u 104, u 105, u 106, u 107, u 108, u 109, u 110, u 111, u 112, u 113, u 114, u 115, u 116, u 117, u 118, u 119, u 120, u 121, u 122]
def FoldJ (S Q : ByteArray) (k : Nat) (a : Act) : Prop := ∃ u : Nat → Value, a = { tmps := foldFrame S Q k u, defers := [] }
theorem foldJ_mk {S Q : ByteArray} {k : Nat} (tm : Array Value) (h : tm = foldFrame S Q k (fun i => tm.getD i undef)) : FoldJ S Q k { tmps := tm, defers := [] } := ⟨_, by rw [← h]⟩

set_option maxHeartbeats 16000000 in
set_option maxRecDepth 100000 in
theorem fold_core (S S2 Q : ByteArray) (k c : Nat) (w : World) (hlow : ∀ (i : Nat) (hi : i < k) (hi2 : i < S.size), (S[i]).toNat < 128) (hhigh : ∀ (hi2 : k < S.size), 128 ≤ (S[k]).toNat) (hql : ∀ (i : Nat) (hi : i < Q.size), (Q[i]).toNat < 128)
    (hk1 : k < S.size) (hS5 : S.size ≤ 262144) (hQ8 : Q.size ≤ 8) (hc31 : (c : Int) < 1114112) (hc128 : (128 : Int) ≤ (c : Int)) (hrest : S.extract k S.size = S2) (hdec0 : Utf8.decode S2 0 = (c, (U.enc c).length)) (hpos0 : 0 < S2.size)
    (htdec : k < Q.size → ∃ d, NoKs d ∧ ∀ W, Below w.heap.size w W → Calls Tryz.prog 81 #[.string (Q.extract k Q.size)] W fun e w' => e = .returned (.tuple #[.int .i32 (d : Int), .int .i64 1]) ∧ Below W.heap.size W w')
    (hfold : ∀ d, NoKs d → ∀ W, Below w.heap.size w W → Calls Tryz.prog 101 #[.int .i32 (d : Int)] W fun e w' => e = .returned (.int .i32 (foldT d : Int)) ∧ W = w') :
    Calls Tryz.prog 86 #[.string S, .string Q] w fun e w' => e = .returned (.bool false) ∧ Below w.heap.size w w' := by
  have HT := Lib.hid htdec
  have HF := Lib.hid hfold
  have HL := Lib.hid hlow
  have HH := Lib.hid hhigh
  have HQ := Lib.hid hql
  have HD := Lib.hid hdec0
  have HR := Lib.hid hrest
  clear htdec hfold hlow hhigh hql hdec0 hrest
  go_enter Tryz.func86, Tryz.ntmps86
  go_wp2
  refine wp_scope_jumps 0 (fun a' w' => w' = w ∧ k < Q.size ∧ FoldJ S Q k a') (fun _ _ => 0) rfl ?_ ?_
  rotate_left
  · rintro a' W ⟨rfl, hi2, hJ⟩
    obtain ⟨u, rfl⟩ := hJ
    unfold foldFrame
    obtain ⟨d, hd, hdc⟩ := HT.out hi2
    have hd128 := hd.small
    have hf1 := HF.out d hd
    have hf2 := HF.out (foldT d) (foldT_noks hd)
    rw [foldT_foldT d hd128] at hf2
    have hfs := (foldT_noks hd).small
    have hnx := fun ty => run_next_any (P := Tryz.prog) W S2 0 ty hpos0
    rw [HD.out] at hnx
    have hrs := HR.out
    obtain ⟨T2, hT2⟩ : ∃ T2, Q.extract k Q.size = T2 := ⟨_, rfl⟩
    have hT2s : T2.size = Q.size - k := by rw [← hT2]; simp
    rw [hT2] at hdc
    have hT2p : 1 ≤ T2.size := by omega
    have hT28 : T2.size ≤ 8 := by omega
    have e1 : ((d : Int) == (c : Int)) = false := by simp; omega
    have e2 : (d : Int) < (c : Int) := by omega
    have e3 : ¬ (c : Int) < 128 := by omega
    have hw1 : Below W.heap.size W (W.iter S2 (0 + (U.enc c).length)) := by unfold World.iter; exact (Below.refl _ _).alloc (Nat.le_refl _) _
    have hdc1 := hdc _ hw1
    have HT2 := Lib.hid hT2s
    clear hT2s hd
    have hit := heap_new W (.stringIter S2 0)
    have HIt := Lib.hid hit
    clear hit
    go_wp2
    go_loopg [1, 10, 11, 12, 13] 0 (fun g v1 _ _ _ _ wx => v1 = .string T2 ∧ wx = W.iter S2 0)
    case atStart => exact ⟨rfl, rfl⟩
    case round =>
      obtain ⟨rfl, rfl⟩ := hrel
      generalize W.iter S2 (0 + (U.enc c).length) = W2 at hnx hdc1 hw1
      have HW1 := Lib.hid hw1
      have HD1 := Lib.hid hd128
      have HF1 := Lib.hid hfs
      have HC1 := Lib.hid hc31
      have HC2 := Lib.hid hc128
      have eT : ((T2.size : Int) == 0) = false := beq_eq_false_iff_ne.2 (by omega)
      have e4 : decide ((d : Int) < (c : Int)) = true := decide_eq_true e2
      have e5 : decide ((c : Int) < 128) = false := decide_eq_false (by omega)
      have HE2 := Lib.hid e2
      have HE3 := Lib.hid e3
      have HK := Lib.hid hS5
      clear hd128 hfs hc31 hc128 e2 e3 hS5 hw1
      clear hdc
      repeat (first | go_values | go_skip | go_guarded | go_step | go_upon | go_back | (simp only [Int.not_lt, Int.not_le] at *; go_simp) | (go_values <;> (try go_simp)) | (go_ite <;> go_prune <;> (try go_simp)) | (split <;> (first | (rename_i hx; exact (hx _ rfl).elim) | go_prune)))
      go_at_call 81
      refine hdc1.mono ?_
      rintro e w3 ⟨rfl, hb3⟩
      have hw3 := Lib.hid (HW1.out.trans (hb3.mono HW1.out.size))
      have hf1' := hf1 _ hw3.out
      have hf2' := hf2 _ hw3.out
      clear hb3 hdc1 hf1 hf2
      (first | go_values | go_skip | go_guarded | go_step | go_upon | go_back | (simp only [Int.not_lt, Int.not_le] at *; go_simp) | (go_values <;> (try go_simp)) | (go_ite <;> go_prune <;> (try go_simp)) | (split <;> (first | (rename_i hx; exact (hx _ rfl).elim) | go_prune)))
      (first | go_values | go_skip | go_guarded | go_step | go_upon | go_back | (simp only [Int.not_lt, Int.not_le] at *; go_simp) | (go_values <;> (try go_simp)) | (go_ite <;> go_prune <;> (try go_simp)) | (split <;> (first | (rename_i hx; exact (hx _ rfl).elim) | go_prune)))
      (first | go_values | go_skip | go_guarded | go_step | go_upon | go_back | (simp only [Int.not_lt, Int.not_le] at *; go_simp) | (go_values <;> (try go_simp)) | (go_ite <;> go_prune <;> (try go_simp)) | (split <;> (first | (rename_i hx; exact (hx _ rfl).elim) | go_prune)))
      (first | go_values | go_skip | go_guarded | go_step | go_upon | go_back | (simp only [Int.not_lt, Int.not_le] at *; go_simp) | (go_values <;> (try go_simp)) | (go_ite <;> go_prune <;> (try go_simp)) | (split <;> (first | (rename_i hx; exact (hx _ rfl).elim) | go_prune)))
      (first | go_values | go_skip | go_guarded | go_step | go_upon | go_back | (simp only [Int.not_lt, Int.not_le] at *; go_simp) | (go_values <;> (try go_simp)) | (go_ite <;> go_prune <;> (try go_simp)) | (split <;> (first | (rename_i hx; exact (hx _ rfl).elim) | go_prune)))
      (first | go_values | go_skip | go_guarded | go_step | go_upon | go_back | (simp only [Int.not_lt, Int.not_le] at *; go_simp) | (go_values <;> (try go_simp)) | (go_ite <;> go_prune <;> (try go_simp)) | (split <;> (first | (rename_i hx; exact (hx _ rfl).elim) | go_prune)))
      (first | go_values | go_skip | go_guarded | go_step | go_upon | go_back | (simp only [Int.not_lt, Int.not_le] at *; go_simp) | (go_values <;> (try go_simp)) | (go_ite <;> go_prune <;> (try go_simp)) | (split <;> (first | (rename_i hx; exact (hx _ rfl).elim) | go_prune)))
      (first | go_values | go_skip | go_guarded | go_step | go_upon | go_back | (simp only [Int.not_lt, Int.not_le] at *; go_simp) | (go_values <;> (try go_simp)) | (go_ite <;> go_prune <;> (try go_simp)) | (split <;> (first | (rename_i hx; exact (hx _ rfl).elim) | go_prune)))
      (first | go_values | go_skip | go_guarded | go_step | go_upon | go_back | (simp only [Int.not_lt, Int.not_le] at *; go_simp) | (go_values <;> (try go_simp)) | (go_ite <;> go_prune <;> (try go_simp)) | (split <;> (first | (rename_i hx; exact (hx _ rfl).elim) | go_prune)))
      (first | go_values | go_skip | go_guarded | go_step | go_upon | go_back | (simp only [Int.not_lt, Int.not_le] at *; go_simp) | (go_values <;> (try go_simp)) | (go_ite <;> go_prune <;> (try go_simp)) | (split <;> (first | (rename_i hx; exact (hx _ rfl).elim) | go_prune)))
      (first | go_values | go_skip | go_guarded | go_step | go_upon | go_back | (simp only [Int.not_lt, Int.not_le] at *; go_simp) | (go_values <;> (try go_simp)) | (go_ite <;> go_prune <;> (try go_simp)) | (split <;> (first | (rename_i hx; exact (hx _ rfl).elim) | go_prune)))
      (first | go_values | go_skip | go_guarded | go_step | go_upon | go_back | (simp only [Int.not_lt, Int.not_le] at *; go_simp) | (go_values <;> (try go_simp)) | (go_ite <;> go_prune <;> (try go_simp)) | (split <;> (first | (rename_i hx; exact (hx _ rfl).elim) | go_prune)))
      (first | go_values | go_skip | go_guarded | go_step | go_upon | go_back | (simp only [Int.not_lt, Int.not_le] at *; go_simp) | (go_values <;> (try go_simp)) | (go_ite <;> go_prune <;> (try go_simp)) | (split <;> (first | (rename_i hx; exact (hx _ rfl).elim) | go_prune)))
      (first | go_values | go_skip | go_guarded | go_step | go_upon | go_back | (simp only [Int.not_lt, Int.not_le] at *; go_simp) | (go_values <;> (try go_simp)) | (go_ite <;> go_prune <;> (try go_simp)) | (split <;> (first | (rename_i hx; exact (hx _ rfl).elim) | go_prune)))
      (first | go_values | go_skip | go_guarded | go_step | go_upon | go_back | (simp only [Int.not_lt, Int.not_le] at *; go_simp) | (go_values <;> (try go_simp)) | (go_ite <;> go_prune <;> (try go_simp)) | (split <;> (first | (rename_i hx; exact (hx _ rfl).elim) | go_prune)))
      (first | go_values | go_skip | go_guarded | go_step | go_upon | go_back | (simp only [Int.not_lt, Int.not_le] at *; go_simp) | (go_values <;> (try go_simp)) | (go_ite <;> go_prune <;> (try go_simp)) | (split <;> (first | (rename_i hx; exact (hx _ rfl).elim) | go_prune)))
      (first | go_values | go_skip | go_guarded | go_step | go_upon | go_back | (simp only [Int.not_lt, Int.not_le] at *; go_simp) | (go_values <;> (try go_simp)) | (go_ite <;> go_prune <;> (try go_simp)) | (split <;> (first | (rename_i hx; exact (hx _ rfl).elim) | go_prune)))
      (first | go_values | go_skip | go_guarded | go_step | go_upon | go_back | (simp only [Int.not_lt, Int.not_le] at *; go_simp) | (go_values <;> (try go_simp)) | (go_ite <;> go_prune <;> (try go_simp)) | (split <;> (first | (rename_i hx; exact (hx _ rfl).elim) | go_prune)))
      (first | go_values | go_skip | go_guarded | go_step | go_upon | go_back | (simp only [Int.not_lt, Int.not_le] at *; go_simp) | (go_values <;> (try go_simp)) | (go_ite <;> go_prune <;> (try go_simp)) | (split <;> (first | (rename_i hx; exact (hx _ rfl).elim) | go_prune)))
      (first | go_values | go_skip | go_guarded | go_step | go_upon | go_back | (simp only [Int.not_lt, Int.not_le] at *; go_simp) | (go_values <;> (try go_simp)) | (go_ite <;> go_prune <;> (try go_simp)) | (split <;> (first | (rename_i hx; exact (hx _ rfl).elim) | go_prune)))
      (first | go_values | go_skip | go_guarded | go_step | go_upon | go_back | (simp only [Int.not_lt, Int.not_le] at *; go_simp) | (go_values <;> (try go_simp)) | (go_ite <;> go_prune <;> (try go_simp)) | (split <;> (first | (rename_i hx; exact (hx _ rfl).elim) | go_prune)))
      (first | go_values | go_skip | go_guarded | go_step | go_upon | go_back | (simp only [Int.not_lt, Int.not_le] at *; go_simp) | (go_values <;> (try go_simp)) | (go_ite <;> go_prune <;> (try go_simp)) | (split <;> (first | (rename_i hx; exact (hx _ rfl).elim) | go_prune)))
      (first | go_values | go_skip | go_guarded | go_step | go_upon | go_back | (simp only [Int.not_lt, Int.not_le] at *; go_simp) | (go_values <;> (try go_simp)) | (go_ite <;> go_prune <;> (try go_simp)) | (split <;> (first | (rename_i hx; exact (hx _ rfl).elim) | go_prune)))
      (first | go_values | go_skip | go_guarded | go_step | go_upon | go_back | (simp only [Int.not_lt, Int.not_le] at *; go_simp) | (go_values <;> (try go_simp)) | (go_ite <;> go_prune <;> (try go_simp)) | (split <;> (first | (rename_i hx; exact (hx _ rfl).elim) | go_prune)))
      (first | go_values | go_skip | go_guarded | go_step | go_upon | go_back | (simp only [Int.not_lt, Int.not_le] at *; go_simp) | (go_values <;> (try go_simp)) | (go_ite <;> go_prune <;> (try go_simp)) | (split <;> (first | (rename_i hx; exact (hx _ rfl).elim) | go_prune)))
      (first | go_values | go_skip | go_guarded | go_step | go_upon | go_back | (simp only [Int.not_lt, Int.not_le] at *; go_simp) | (go_values <;> (try go_simp)) | (go_ite <;> go_prune <;> (try go_simp)) | (split <;> (first | (rename_i hx; exact (hx _ rfl).elim) | go_prune)))
      (first | go_values | go_skip | go_guarded | go_step | go_upon | go_back | (simp only [Int.not_lt, Int.not_le] at *; go_simp) | (go_values <;> (try go_simp)) | (go_ite <;> go_prune <;> (try go_simp)) | (split <;> (first | (rename_i hx; exact (hx _ rfl).elim) | go_prune)))
      (first | go_values | go_skip | go_guarded | go_step | go_upon | go_back | (simp only [Int.not_lt, Int.not_le] at *; go_simp) | (go_values <;> (try go_simp)) | (go_ite <;> go_prune <;> (try go_simp)) | (split <;> (first | (rename_i hx; exact (hx _ rfl).elim) | go_prune)))
      (first | go_values | go_skip | go_guarded | go_step | go_upon | go_back | (simp only [Int.not_lt, Int.not_le] at *; go_simp) | (go_values <;> (try go_simp)) | (go_ite <;> go_prune <;> (try go_simp)) | (split <;> (first | (rename_i hx; exact (hx _ rfl).elim) | go_prune)))
      (first | go_values | go_skip | go_guarded | go_step | go_upon | go_back | (simp only [Int.not_lt, Int.not_le] at *; go_simp) | (go_values <;> (try go_simp)) | (go_ite <;> go_prune <;> (try go_simp)) | (split <;> (first | (rename_i hx; exact (hx _ rfl).elim) | go_prune)))
      (first | go_values | go_skip | go_guarded | go_step | go_upon | go_back | (simp only [Int.not_lt, Int.not_le] at *; go_simp) | (go_values <;> (try go_simp)) | (go_ite <;> go_prune <;> (try go_simp)) | (split <;> (first | (rename_i hx; exact (hx _ rfl).elim) | go_prune)))
      (first | go_values | go_skip | go_guarded | go_step | go_upon | go_back | (simp only [Int.not_lt, Int.not_le] at *; go_simp) | (go_values <;> (try go_simp)) | (go_ite <;> go_prune <;> (try go_simp)) | (split <;> (first | (rename_i hx; exact (hx _ rfl).elim) | go_prune)))
      (first | go_values | go_skip | go_guarded | go_step | go_upon | go_back | (simp only [Int.not_lt, Int.not_le] at *; go_simp) | (go_values <;> (try go_simp)) | (go_ite <;> go_prune <;> (try go_simp)) | (split <;> (first | (rename_i hx; exact (hx _ rfl).elim) | go_prune)))
      (first | go_values | go_skip | go_guarded | go_step | go_upon | go_back | (simp only [Int.not_lt, Int.not_le] at *; go_simp) | (go_values <;> (try go_simp)) | (go_ite <;> go_prune <;> (try go_simp)) | (split <;> (first | (rename_i hx; exact (hx _ rfl).elim) | go_prune)))
      (first | go_values | go_skip | go_guarded | go_step | go_upon | go_back | (simp only [Int.not_lt, Int.not_le] at *; go_simp) | (go_values <;> (try go_simp)) | (go_ite <;> go_prune <;> (try go_simp)) | (split <;> (first | (rename_i hx; exact (hx _ rfl).elim) | go_prune)))
      (first | go_values | go_skip | go_guarded | go_step | go_upon | go_back | (simp only [Int.not_lt, Int.not_le] at *; go_simp) | (go_values <;> (try go_simp)) | (go_ite <;> go_prune <;> (try go_simp)) | (split <;> (first | (rename_i hx; exact (hx _ rfl).elim) | go_prune)))
      (first | go_values | go_skip | go_guarded | go_step | go_upon | go_back | (simp only [Int.not_lt, Int.not_le] at *; go_simp) | (go_values <;> (try go_simp)) | (go_ite <;> go_prune <;> (try go_simp)) | (split <;> (first | (rename_i hx; exact (hx _ rfl).elim) | go_prune)))
      (first | go_values | go_skip | go_guarded | go_step | go_upon | go_back | (simp only [Int.not_lt, Int.not_le] at *; go_simp) | (go_values <;> (try go_simp)) | (go_ite <;> go_prune <;> (try go_simp)) | (split <;> (first | (rename_i hx; exact (hx _ rfl).elim) | go_prune)))
      (first | go_values | go_skip | go_guarded | go_step | go_upon | go_back | (simp only [Int.not_lt, Int.not_le] at *; go_simp) | (go_values <;> (try go_simp)) | (go_ite <;> go_prune <;> (try go_simp)) | (split <;> (first | (rename_i hx; exact (hx _ rfl).elim) | go_prune)))
      (first | go_values | go_skip | go_guarded | go_step | go_upon | go_back | (simp only [Int.not_lt, Int.not_le] at *; go_simp) | (go_values <;> (try go_simp)) | (go_ite <;> go_prune <;> (try go_simp)) | (split <;> (first | (rename_i hx; exact (hx _ rfl).elim) | go_prune)))
      (first | go_values | go_skip | go_guarded | go_step | go_upon | go_back | (simp only [Int.not_lt, Int.not_le] at *; go_simp) | (go_values <;> (try go_simp)) | (go_ite <;> go_prune <;> (try go_simp)) | (split <;> (first | (rename_i hx; exact (hx _ rfl).elim) | go_prune)))
      (first | go_values | go_skip | go_guarded | go_step | go_upon | go_back | (simp only [Int.not_lt, Int.not_le] at *; go_simp) | (go_values <;> (try go_simp)) | (go_ite <;> go_prune <;> (try go_simp)) | (split <;> (first | (rename_i hx; exact (hx _ rfl).elim) | go_prune)))
      (first | go_values | go_skip | go_guarded | go_step | go_upon | go_back | (simp only [Int.not_lt, Int.not_le] at *; go_simp) | (go_values <;> (try go_simp)) | (go_ite <;> go_prune <;> (try go_simp)) | (split <;> (first | (rename_i hx; exact (hx _ rfl).elim) | go_prune)))
      (first | go_values | go_skip | go_guarded | go_step | go_upon | go_back | (simp only [Int.not_lt, Int.not_le] at *; go_simp) | (go_values <;> (try go_simp)) | (go_ite <;> go_prune <;> (try go_simp)) | (split <;> (first | (rename_i hx; exact (hx _ rfl).elim) | go_prune)))
      (first | go_values | go_skip | go_guarded | go_step | go_upon | go_back | (simp only [Int.not_lt, Int.not_le] at *; go_simp) | (go_values <;> (try go_simp)) | (go_ite <;> go_prune <;> (try go_simp)) | (split <;> (first | (rename_i hx; exact (hx _ rfl).elim) | go_prune)))
      (first | go_values | go_skip | go_guarded | go_step | go_upon | go_back | (simp only [Int.not_lt, Int.not_le] at *; go_simp) | (go_values <;> (try go_simp)) | (go_ite <;> go_prune <;> (try go_simp)) | (split <;> (first | (rename_i hx; exact (hx _ rfl).elim) | go_prune)))
      (first | go_values | go_skip | go_guarded | go_step | go_upon | go_back | (simp only [Int.not_lt, Int.not_le] at *; go_simp) | (go_values <;> (try go_simp)) | (go_ite <;> go_prune <;> (try go_simp)) | (split <;> (first | (rename_i hx; exact (hx _ rfl).elim) | go_prune)))
      (first | go_values | go_skip | go_guarded | go_step | go_upon | go_back | (simp only [Int.not_lt, Int.not_le] at *; go_simp) | (go_values <;> (try go_simp)) | (go_ite <;> go_prune <;> (try go_simp)) | (split <;> (first | (rename_i hx; exact (hx _ rfl).elim) | go_prune)))
      (first | go_values | go_skip | go_guarded | go_step | go_upon | go_back | (simp only [Int.not_lt, Int.not_le] at *; go_simp) | (go_values <;> (try go_simp)) | (go_ite <;> go_prune <;> (try go_simp)) | (split <;> (first | (rename_i hx; exact (hx _ rfl).elim) | go_prune)))
      (first | go_values | go_skip | go_guarded | go_step | go_upon | go_back | (simp only [Int.not_lt, Int.not_le] at *; go_simp) | (go_values <;> (try go_simp)) | (go_ite <;> go_prune <;> (try go_simp)) | (split <;> (first | (rename_i hx; exact (hx _ rfl).elim) | go_prune)))
      (first | go_values | go_skip | go_guarded | go_step | go_upon | go_back | (simp only [Int.not_lt, Int.not_le] at *; go_simp) | (go_values <;> (try go_simp)) | (go_ite <;> go_prune <;> (try go_simp)) | (split <;> (first | (rename_i hx; exact (hx _ rfl).elim) | go_prune)))
      (first | go_values | go_skip | go_guarded | go_step | go_upon | go_back | (simp only [Int.not_lt, Int.not_le] at *; go_simp) | (go_values <;> (try go_simp)) | (go_ite <;> go_prune <;> (try go_simp)) | (split <;> (first | (rename_i hx; exact (hx _ rfl).elim) | go_prune)))
      (first | go_values | go_skip | go_guarded | go_step | go_upon | go_back | (simp only [Int.not_lt, Int.not_le] at *; go_simp) | (go_values <;> (try go_simp)) | (go_ite <;> go_prune <;> (try go_simp)) | (split <;> (first | (rename_i hx; exact (hx _ rfl).elim) | go_prune)))
      (first | go_values | go_skip | go_guarded | go_step | go_upon | go_back | (simp only [Int.not_lt, Int.not_le] at *; go_simp) | (go_values <;> (try go_simp)) | (go_ite <;> go_prune <;> (try go_simp)) | (split <;> (first | (rename_i hx; exact (hx _ rfl).elim) | go_prune)))
      (first | go_values | go_skip | go_guarded | go_step | go_upon | go_back | (simp only [Int.not_lt, Int.not_le] at *; go_simp) | (go_values <;> (try go_simp)) | (go_ite <;> go_prune <;> (try go_simp)) | (split <;> (first | (rename_i hx; exact (hx _ rfl).elim) | go_prune)))
      (first | go_values | go_skip | go_guarded | go_step | go_upon | go_back | (simp only [Int.not_lt, Int.not_le] at *; go_simp) | (go_values <;> (try go_simp)) | (go_ite <;> go_prune <;> (try go_simp)) | (split <;> (first | (rename_i hx; exact (hx _ rfl).elim) | go_prune)))
      (first | go_values | go_skip | go_guarded | go_step | go_upon | go_back | (simp only [Int.not_lt, Int.not_le] at *; go_simp) | (go_values <;> (try go_simp)) | (go_ite <;> go_prune <;> (try go_simp)) | (split <;> (first | (rename_i hx; exact (hx _ rfl).elim) | go_prune)))
      (first | go_values | go_skip | go_guarded | go_step | go_upon | go_back | (simp only [Int.not_lt, Int.not_le] at *; go_simp) | (go_values <;> (try go_simp)) | (go_ite <;> go_prune <;> (try go_simp)) | (split <;> (first | (rename_i hx; exact (hx _ rfl).elim) | go_prune)))
      (first | go_values | go_skip | go_guarded | go_step | go_upon | go_back | (simp only [Int.not_lt, Int.not_le] at *; go_simp) | (go_values <;> (try go_simp)) | (go_ite <;> go_prune <;> (try go_simp)) | (split <;> (first | (rename_i hx; exact (hx _ rfl).elim) | go_prune)))
      (first | go_values | go_skip | go_guarded | go_step | go_upon | go_back | (simp only [Int.not_lt, Int.not_le] at *; go_simp) | (go_values <;> (try go_simp)) | (go_ite <;> go_prune <;> (try go_simp)) | (split <;> (first | (rename_i hx; exact (hx _ rfl).elim) | go_prune)))
      (first | go_values | go_skip | go_guarded | go_step | go_upon | go_back | (simp only [Int.not_lt, Int.not_le] at *; go_simp) | (go_values <;> (try go_simp)) | (go_ite <;> go_prune <;> (try go_simp)) | (split <;> (first | (rename_i hx; exact (hx _ rfl).elim) | go_prune)))
      (first | go_values | go_skip | go_guarded | go_step | go_upon | go_back | (simp only [Int.not_lt, Int.not_le] at *; go_simp) | (go_values <;> (try go_simp)) | (go_ite <;> go_prune <;> (try go_simp)) | (split <;> (first | (rename_i hx; exact (hx _ rfl).elim) | go_prune)))
      (first | go_values | go_skip | go_guarded | go_step | go_upon | go_back | (simp only [Int.not_lt, Int.not_le] at *; go_simp) | (go_values <;> (try go_simp)) | (go_ite <;> go_prune <;> (try go_simp)) | (split <;> (first | (rename_i hx; exact (hx _ rfl).elim) | go_prune)))
      (first | go_values | go_skip | go_guarded | go_step | go_upon | go_back | (simp only [Int.not_lt, Int.not_le] at *; go_simp) | (go_values <;> (try go_simp)) | (go_ite <;> go_prune <;> (try go_simp)) | (split <;> (first | (rename_i hx; exact (hx _ rfl).elim) | go_prune)))
      (first | go_values | go_skip | go_guarded | go_step | go_upon | go_back | (simp only [Int.not_lt, Int.not_le] at *; go_simp) | (go_values <;> (try go_simp)) | (go_ite <;> go_prune <;> (try go_simp)) | (split <;> (first | (rename_i hx; exact (hx _ rfl).elim) | go_prune)))
      (first | go_values | go_skip | go_guarded | go_step | go_upon | go_back | (simp only [Int.not_lt, Int.not_le] at *; go_simp) | (go_values <;> (try go_simp)) | (go_ite <;> go_prune <;> (try go_simp)) | (split <;> (first | (rename_i hx; exact (hx _ rfl).elim) | go_prune)))
      (first | go_values | go_skip | go_guarded | go_step | go_upon | go_back | (simp only [Int.not_lt, Int.not_le] at *; go_simp) | (go_values <;> (try go_simp)) | (go_ite <;> go_prune <;> (try go_simp)) | (split <;> (first | (rename_i hx; exact (hx _ rfl).elim) | go_prune)))
      (first | go_values | go_skip | go_guarded | go_step | go_upon | go_back | (simp only [Int.not_lt, Int.not_le] at *; go_simp) | (go_values <;> (try go_simp)) | (go_ite <;> go_prune <;> (try go_simp)) | (split <;> (first | (rename_i hx; exact (hx _ rfl).elim) | go_prune)))
      (first | go_values | go_skip | go_guarded | go_step | go_upon | go_back | (simp only [Int.not_lt, Int.not_le] at *; go_simp) | (go_values <;> (try go_simp)) | (go_ite <;> go_prune <;> (try go_simp)) | (split <;> (first | (rename_i hx; exact (hx _ rfl).elim) | go_prune)))
      (first | go_values | go_skip | go_guarded | go_step | go_upon | go_back | (simp only [Int.not_lt, Int.not_le] at *; go_simp) | (go_values <;> (try go_simp)) | (go_ite <;> go_prune <;> (try go_simp)) | (split <;> (first | (rename_i hx; exact (hx _ rfl).elim) | go_prune)))
      (first | go_values | go_skip | go_guarded | go_step | go_upon | go_back | (simp only [Int.not_lt, Int.not_le] at *; go_simp) | (go_values <;> (try go_simp)) | (go_ite <;> go_prune <;> (try go_simp)) | (split <;> (first | (rename_i hx; exact (hx _ rfl).elim) | go_prune)))
      refine wp_cond_split rfl (fun h => ?_) (fun h => ?_)
      rotate_left
      · exfalso
        have := HE2.out
        simp at h
        omega
      clear h
      have H1 := Lib.hid e1
      have HT9 := Lib.hid eT
      have H4 := Lib.hid e4
      have HS9 := Lib.hid hT28
      have HS8 := Lib.hid hT2p
      have HS7 := Lib.hid hQ8
      have HS6 := Lib.hid hk1
      clear e1 eT e4 hT28 hT2p hQ8 hk1
      go_wp2_with (first
        | (go_at_call 101; first
          | ((with_reducible refine hf1'.mono ?_); rintro e w4 ⟨rfl, rfl⟩)
          | ((with_reducible refine hf2'.mono ?_); rintro e w4 ⟨rfl, rfl⟩)))
      have hfsN := HF1.out
      generalize foldT d = f at hfsN hf1' hf2' ⊢
      have HFS := Lib.hid hfsN
      clear hfsN hf1'
      have HFC := Lib.hid hf2'
      clear hf2'
      go_loop [13] (fun v13 => v13 = .int .i32 (f : Int) ∨ v13 = .int .i32 (d : Int)) (fun v13 => if intOf v13 = (d : Int) then 0 else 1)
      case atStart => exact .inl rfl
      case round =>
        have e1 := H1.out
        have hdc9 : ¬ d = c := by have := HE2.out; omega
        rcases hrel with rfl | rfl
        · by_cases hfd : f = d
          · subst hfd
            go_wp2
            (repeat rw [Exit.noGoto_ret])
            simp only [Exit.jump]
            go_ret
            exact ⟨rfl, hw3.out⟩
          · have hfd2 : ((f : Int) == (d : Int)) = false := beq_eq_false_iff_ne.2 (by omega)
            have hfc : f < c := by have := HFS.out; have := HC2.out; omega
            have hfcall := HFC.out
            have hfd3 : ¬ (f : Int) = (d : Int) := by omega
            have hfc3 : (f : Int) < (c : Int) := by omega
            clear e1 hdc9
            iterate 28 (first | go_values | go_skip | go_guarded | go_step | go_upon | go_back | (simp only [Int.not_lt, Int.not_le] at *; go_simp) | (go_values <;> (try go_simp)) | (go_ite <;> go_prune <;> (try go_simp)) | (split <;> (first | (rename_i hx; exact (hx _ rfl).elim) | go_prune)))
            refine wp_cond_split rfl (fun h => ?_) (fun h => ?_)
            rotate_left
            · exfalso
              simp at h
              omega
            clear h
            go_wp2_with (go_at_call 101; (with_reducible refine hfcall.mono ?_); rintro e w4 ⟨rfl, rfl⟩)
            go_round
            case rel => exact .inr rfl
            case measure =>
              show (if (d : Int) = (d : Int) then 0 else 1) < (if (f : Int) = (d : Int) then 0 else 1)
              rw [if_pos rfl, if_neg hfd3]
              decide
        · go_wp2
          (repeat rw [Exit.noGoto_ret])
          simp only [Exit.jump]
          go_ret
          exact ⟨rfl, hw3.out⟩
  go_wp2
  have hm1 : min (S.size : Int) (Q.size : Int) ≤ (S.size : Int) := Int.min_le_left _ _
  have hm2 : min (S.size : Int) (Q.size : Int) ≤ (Q.size : Int) := Int.min_le_right _ _
  have hm3 : min (S.size : Int) (Q.size : Int) = (S.size : Int) ∨ min (S.size : Int) (Q.size : Int) = (Q.size : Int) := by omega
  have hm0 : 0 ≤ min (S.size : Int) (Q.size : Int) := by omega
  generalize min (S.size : Int) (Q.size : Int) = m at hm0 hm1 hm2 hm3 ⊢
  have HM3 := Lib.hid hm3
  clear hm3
  go_loop [5, 7, 8] (fun v5 _ _ => ∃ i : Nat, i ≤ k ∧ (i : Int) ≤ m ∧ v5 = .int .i64 (i : Int)) (fun v5 _ _ => m.toNat - (intOf v5).toNat)
  case atStart => exact ⟨0, Nat.zero_le _, hm0, rfl⟩
  case round =>
    obtain ⟨i, hik, him0, rfl⟩ := hrel
    by_cases him : (i : Int) < m
    · have hi1 : i < S.size := by omega
      have hi2 : i < Q.size := by omega
      obtain ⟨x, hx⟩ : ∃ x, S[i] = x := ⟨_, rfl⟩
      obtain ⟨y, hy⟩ : ∃ y, Q[i] = y := ⟨_, rfl⟩
      have hyl : y.toNat < 128 := by rw [← hy]; exact HQ.out i hi2
      have hx256 : x.toNat < 256 := x.toNat_lt
      by_cases hlt : i < k
      · have hxl : x.toNat < 128 := by rw [← hx]; exact HL.out i hlt hi1
        have hor := or_low x.toNat hxl y.toNat hyl
        have hii1 : (i : Int) < (S.size : Int) := by omega
        have hii2 : (i : Int) < (Q.size : Int) := by omega
        have hor2 : decide ((128 : Int) ≤ bits BinOp.or IntKind.u8 (x.toNat : Int) (y.toNat : Int)) = false := decide_eq_false (by omega)
        by_cases hxy : y.toNat = x.toNat
        · have b1 : ((y.toNat : Int) == (x.toNat : Int)) = true := by simp; omega
          clear hxy hor
          go_wp2
          go_round
          case rel => exact ⟨i + 1, by omega, by omega, by go_num⟩
          case measure => simp [intOf]; omega
        · have b1 : ((y.toNat : Int) == (x.toNat : Int)) = false := by simp; omega
          clear hor
          by_cases hyx : y.toNat < x.toNat
          · have b2 : (y.toNat : Int) < (x.toNat : Int) := by omega
            by_cases h65 : 65 ≤ y.toNat
            · by_cases h90 : y.toNat ≤ 90
              · have hs97 : IntKind.u8.wrap ((y.toNat : Int) + 97) = (y.toNat : Int) + 97 := by rw [IntKind.wrap_u8]; omega
                by_cases heq : x.toNat = y.toNat + 32
                · have b3 : ((x.toNat : Int) == (y.toNat : Int) + 97 - 65) = true := by simp; omega
                  have i65 : (65 : Int) ≤ (y.toNat : Int) := by omega
                  have i90 : (y.toNat : Int) ≤ 90 := by omega
                  have HS := Lib.hid hs97
                  clear h65 h90 hs97 heq hxy hyx
                  go_wp2
                  go_round
                  case rel => exact ⟨i + 1, by omega, by omega, by go_num⟩
                  case measure => simp [intOf]; omega
                · have b3 : ((x.toNat : Int) == (y.toNat : Int) + 97 - 65) = false := by simp; omega
                  have i65 : (65 : Int) ≤ (y.toNat : Int) := by omega
                  have i90 : (y.toNat : Int) ≤ 90 := by omega
                  have HS := Lib.hid hs97
                  clear h65 h90 hs97 heq hxy hyx
                  go_wp2
                  simp only [Exit.jump]
                  go_ret
                  exact ⟨rfl, Below.refl _ _⟩
              · have h90' : ¬ (y.toNat : Int) ≤ 90 := by omega
                have i65 : (65 : Int) ≤ (y.toNat : Int) := by omega
                clear h65 h90 hxy hyx
                go_wp2
                simp only [Exit.jump]
                go_ret
                exact ⟨rfl, Below.refl _ _⟩
            · have h65' : ¬ (65 : Int) ≤ (y.toNat : Int) := by omega
              go_wp2
              simp only [Exit.jump]
              go_ret
              exact ⟨rfl, Below.refl _ _⟩
          · have b2 : ¬ (y.toNat : Int) < (x.toNat : Int) := by omega
            by_cases h65 : 65 ≤ x.toNat
            · by_cases h90 : x.toNat ≤ 90
              · have hs97 : IntKind.u8.wrap ((x.toNat : Int) + 97) = (x.toNat : Int) + 97 := by rw [IntKind.wrap_u8]; omega
                by_cases heq : y.toNat = x.toNat + 32
                · have b3 : ((y.toNat : Int) == (x.toNat : Int) + 97 - 65) = true := by simp; omega
                  have i65 : (65 : Int) ≤ (x.toNat : Int) := by omega
                  have i90 : (x.toNat : Int) ≤ 90 := by omega
                  have HS := Lib.hid hs97
                  clear h65 h90 hs97 heq hxy hyx
                  go_wp2
                  go_round
                  case rel => exact ⟨i + 1, by omega, by omega, by go_num⟩
                  case measure => simp [intOf]; omega
                · have b3 : ((y.toNat : Int) == (x.toNat : Int) + 97 - 65) = false := by simp; omega
                  have i65 : (65 : Int) ≤ (x.toNat : Int) := by omega
                  have i90 : (x.toNat : Int) ≤ 90 := by omega
                  have HS := Lib.hid hs97
                  clear h65 h90 hs97 heq hxy hyx
                  go_wp2
                  simp only [Exit.jump]
                  go_ret
                  exact ⟨rfl, Below.refl _ _⟩
              · have h90' : ¬ (x.toNat : Int) ≤ 90 := by omega
                have i65 : (65 : Int) ≤ (x.toNat : Int) := by omega
                clear h65 h90 hxy hyx
                go_wp2
                simp only [Exit.jump]
                go_ret
                exact ⟨rfl, Below.refl _ _⟩
            · have h65' : ¬ (65 : Int) ≤ (x.toNat : Int) := by omega
              go_wp2
              simp only [Exit.jump]
              go_ret
              exact ⟨rfl, Below.refl _ _⟩
      · have hik2 : i = k := by omega
        subst hik2
        have hxh : 128 ≤ x.toNat := by rw [← hx]; exact HH.out hi1
        have hor := or_high x.toNat hx256 hxh y.toNat hyl
        have hii1 : (i : Int) < (S.size : Int) := by omega
        have hii2 : (i : Int) < (Q.size : Int) := by omega
        go_wp2
        go_step3
        refine ⟨rfl, rfl, hi2, ?_⟩
        exact foldJ_mk _ rfl
    · have hne : ((S.size : Int) == (Q.size : Int)) = false := by
        have := HM3.out
        exact beq_eq_false_iff_ne.2 (by omega)
      go_wp2
      simp only [Exit.jump]
      go_ret
      exact ⟨rfl, Below.refl _ _⟩

set_option maxHeartbeats 16000000 in
set_option maxRecDepth 100000 in
theorem fold_high (a r : List Nat) (c : Nat) (hs : K.Sc (a ++ c :: r)) (ha : Small a) (hc : 128 ≤ c) (t : List Nat) (ht : ∀ y ∈ t, NoKs y) (htl : t.length ≤ 8) (hl : (U.n8 (a ++ c :: r)).length ≤ 262144) (w : World) (h : Low w) (hw12 : 12 ≤ w.heap.size) :
    Calls Tryz.prog 86 #[.string (bs (U.n8 (a ++ c :: r))), .string (bs (K.b8 t))] w fun e w' => e = .returned (.bool false) ∧ Below w.heap.size w w' := by
  have hsm : Small t := fun y hy => (ht y hy).small
  have hsc : U.scalar c := hs c (by simp)
  have hna : U.n8 (a ++ c :: r) = K.b8 a ++ U.n8 (c :: r) := by rw [U.n8_append, K.n8_small a ha]
  have hka : (K.b8 a).length = a.length := by simp [K.b8]
  have hkt : (K.b8 t).length = t.length := by simp [K.b8]
  obtain ⟨b0, tl, he, hb0, _⟩ := K.enc_high hc hsc
  have hlen : (U.n8 (a ++ c :: r)).length = a.length + (1 + (tl ++ U.n8 r).length) := by
    rw [hna, List.length_append, hka, U.n8_cons, he]
    simp
    omega
  have hsz := bs_size (U.n8 (a ++ c :: r))
  have hqz := bs_size (K.b8 t)
  rw [hkt] at hqz
  -- bytes
  have hlow : ∀ (i : Nat) (hi : i < a.length) (hi2 : i < (bs (U.n8 (a ++ c :: r))).size), ((bs (U.n8 (a ++ c :: r)))[i]).toNat < 128 := by
    intro i hi hi2
    have e := bs_get (U.n8 (a ++ c :: r)) i hi2 (by omega)
    refine Eq.mpr (congrArg (fun x : UInt8 => x.toNat < 128) e) ?_
    simp only [hna]
    rw [List.getElem_append_left (by omega)]
    exact b8_low ha _ (List.getElem_mem _)
  have hhigh : ∀ (hi2 : a.length < (bs (U.n8 (a ++ c :: r))).size), 128 ≤ ((bs (U.n8 (a ++ c :: r)))[a.length]).toNat := by
    intro hi2
    have e := bs_get (U.n8 (a ++ c :: r)) a.length hi2 (by omega)
    refine Eq.mpr (congrArg (fun x : UInt8 => 128 ≤ x.toNat) e) ?_
    simp only [hna]
    rw [List.getElem_append_right (by omega)]
    simp only [hka, Nat.sub_self]
    have : (U.n8 (c :: r))[0]'(by rw [U.n8_cons, he]; simp) = b0 := by simp [U.n8_cons, he]
    rw [this]
    omega
  have hql : ∀ (i : Nat) (hi : i < (bs (K.b8 t)).size), ((bs (K.b8 t))[i]).toNat < 128 := by
    intro i hi
    exact Eq.mpr (congrArg (fun x : UInt8 => x.toNat < 128) (bs_get (K.b8 t) i hi (by omega))) (b8_low hsm _ (List.getElem_mem _))
  -- what is left behind the small characters
  have hrest : (bs (U.n8 (a ++ c :: r))).extract a.length (bs (U.n8 (a ++ c :: r))).size = bs (U.n8 (c :: r)) := by
    rw [bs_drop, hna, List.drop_left' hka]
  have hdec0 : Utf8.decode (bs (U.n8 (c :: r))) 0 = (c, (U.enc c).length) := decode_n8 [] r c hsc
  have hpos0 : 0 < (bs (U.n8 (c :: r))).size := by rw [bs_size, U.n8_cons, he]; simp
  have htdec : a.length < t.length → ∃ d, NoKs d ∧ ∀ W, Below w.heap.size w W → Calls Tryz.prog 81 #[.string ((bs (K.b8 t)).extract a.length (bs (K.b8 t)).size)] W fun e w' => e = .returned (.tuple #[.int .i32 (d : Int), .int .i64 1]) ∧ Below W.heap.size W w' := by
    intro hlt
    have hd : t.drop a.length = t[a.length] :: t.drop (a.length + 1) := List.drop_eq_getElem_cons hlt
    refine ⟨t[a.length], ht _ (List.getElem_mem _), fun W hW => ?_⟩
    have hx : (bs (K.b8 t)).extract a.length (bs (K.b8 t)).size = bs (U.enc t[a.length] ++ K.b8 (t.drop (a.length + 1))) := by
      rw [bs_drop]
      have : (K.b8 t).drop a.length = K.b8 (t.drop a.length) := by simp [K.b8, List.map_drop]
      rw [this, hd, K.enc_low (hsm _ (List.getElem_mem _))]
      rfl
    rw [hx]
    refine (Tryz.utf8_DecodeRuneInString _ W ((h.below hW hw12).tabs)).mono ?_
    rintro e w' ⟨rfl, hb⟩
    rw [decodeGo_bs _ (by rw [K.enc_low (hsm _ (List.getElem_mem _))]; simp), decL_enc _ _ (sc_small' (hsm _ (List.getElem_mem _))), K.enc_low (hsm _ (List.getElem_mem _))]
    exact ⟨rfl, hb⟩
  have hfold : ∀ d, NoKs d → ∀ W, Below w.heap.size w W → Calls Tryz.prog 101 #[.int .i32 (d : Int)] W fun e w' => e = .returned (.int .i32 (foldT d : Int)) ∧ W = w' := fun d hd W hW => simpleFold_any d hd W (h.below hW hw12)
  have hk1 : a.length < (bs (U.n8 (a ++ c :: r))).size := by omega
  have hS5 : (bs (U.n8 (a ++ c :: r))).size ≤ 262144 := by omega
  have hc31 : (c : Int) < 1114112 := by unfold U.scalar at hsc; omega
  have hc128 : (128 : Int) ≤ (c : Int) := by omega
  exact fold_core _ _ _ a.length c w hlow hhigh hql hk1 hS5 (by omega) hc31 hc128 hrest hdec0 hpos0 (fun hlt => htdec (by omega)) hfold
end Go.Proofs.YtdilngjolhmjnaaGreatDoor
namespace Go.Proofs.YtdilngjolhmjnaaGreatDoor
open Go.RowKit Go.Shelf
set_option linter.all false

theorem split_high : ∀ (l : List Nat), Small l ∨ ∃ a c r, l = a ++ c :: r ∧ Small a ∧ 128 ≤ c
  | [] => .inl (fun _ h => by cases h)
  | x :: l => by
    by_cases hx : x < 128
    · rcases split_high l with h | ⟨a, c, r, rfl, ha, hc⟩
      · refine .inl fun y hy => ?_
        rcases List.mem_cons.1 hy with rfl | hy
        · exact hx
        · exact h y hy
      · refine .inr ⟨x :: a, c, r, rfl, fun y hy => ?_, hc⟩
        rcases List.mem_cons.1 hy with rfl | hy
        · exact hx
        · exact ha y hy
    · exact .inr ⟨[], x, l, rfl, (fun _ h => by cases h), by omega⟩
theorem low_small {c : Nat} (h : c < 128) : K.low c < 128 := by
  unfold K.low
  split <;> omega
theorem low_high {c : Nat} (h : 128 ≤ c) : 128 ≤ K.low c := by
  unfold K.low
  split <;> omega
/-- strings.EqualFold of any text and a few small characters without k and s. -/
theorem fold_any (l t : List Nat) (hs : K.Sc l) (hl : (U.n8 l).length ≤ 262144) (ht : ∀ y ∈ t, NoKs y) (htl : t.length ≤ 8) (w : World) (h : Low w) (hw12 : 12 ≤ w.heap.size) :
    Calls Tryz.prog 86 #[.string (bs (U.n8 l)), .string (bs (K.b8 t))] w fun e w' => e = .returned (.bool (decide (l.map K.low = t.map K.low))) ∧ Below w.heap.size w w' := by
  have hsm : Small t := fun y hy => (ht y hy).small
  rcases split_high l with ha | ⟨a, c, r, rfl, ha, hc⟩
  · rw [K.n8_small l ha] at hl ⊢
    refine (Tryz.strings_EqualFold (bs (K.b8 l)) (bs (K.b8 t)) w (by rw [bs_size]; omega) ?_ ?_).mono ?_
    · intro j b hb
      rw [bs_list] at hb
      exact b8_low ha _ (List.mem_of_getElem? hb)
    · intro j b hb
      rw [bs_list] at hb
      exact b8_low hsm _ (List.mem_of_getElem? hb)
    · rintro e w' ⟨rfl, rfl⟩
      rw [bs_list, bs_list, equalFold_low l t ha hsm]
      exact ⟨rfl, Below.refl _ _⟩
  · refine (fold_high a r c hs ha hc t ht htl hl w h hw12).mono ?_
    rintro e w' ⟨rfl, hb⟩
    refine ⟨?_, hb⟩
    have : ¬ (a ++ c :: r).map K.low = t.map K.low := by
      intro e
      have hm : K.low c ∈ t.map K.low := by rw [← e]; simp
      obtain ⟨y, hy, hye⟩ := List.mem_map.1 hm
      have h1 := low_small (hsm y hy)
      have h2 := low_high hc
      omega
    rw [decide_eq_false this]
end Go.Proofs.YtdilngjolhmjnaaGreatDoor
