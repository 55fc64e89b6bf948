/- Whether attributes are those that a declaration may have. Conditions: those that each theorem names. -/
import Derived.Test.YtdilngjolhmjnaaGreatDoorB7
import Derived.Test.YtdilngjolhmjnaaGreatDoorB3
namespace Go.Proofs.YtdilngjolhmjnaaGreatDoor
open Go.RowKit Go.Shelf
set_option linter.all false

theorem cmp_b8 {n t : List Nat} (hs : K.Sc n) (ht : Small t) (q : List UInt8) (hq : q = K.b8 t) (v : Bool) (hv : decide (n = t) = v) : ((bs (U.n8 n)).toList == q) = v := by
  subst hq
  rw [← hv, Lib.toList_data, bs_list, Bool.eq_iff_iff, beq_iff_eq, decide_eq_true_eq]
  exact n8_eq_b8 hs ht
abbrev Dcl (g n cap : Nat) (w : World) (v : Bool) : Prop := Calls Tryz.prog 63 #[.slice (some ⟨g, 0, none⟩) n cap] w fun e w' => e = .returned (.bool v) ∧ Below w.heap.size w w'
abbrev Fld (V : ByteArray) (w : World) (v : Bool) : Prop := Calls Tryz.prog 86 #[.string V, .string ⟨#[85, 84, 70, 45, 56]⟩] w fun e w' => e = .returned (.bool v) ∧ Below w.heap.size w w'
abbrev qVersion : List UInt8 := [118, 101, 114, 115, 105, 111, 110]
abbrev q10 : List UInt8 := [49, 46, 48]
abbrev qEnc : List UInt8 := [101, 110, 99, 111, 100, 105, 110, 103]
abbrev qAlone : List UInt8 := [115, 116, 97, 110, 100, 97, 108, 111, 110, 101]
abbrev qYes : List UInt8 := [121, 101, 115]
abbrev qNo : List UInt8 := [110, 111]

set_option maxHeartbeats 4000000 in
set_option maxRecDepth 100000 in
theorem dcl_a1 (g cap : Nat) (A1 V1 A2 V2 A3 V3 : ByteArray) (w : World) (hcap : 1 ≤ cap) (hm : cap ≤ maxLen)
    (c0 : w.cell? ⟨g, 0, none⟩ = some (.string A1)) (c1 : w.cell? ⟨g, 1, none⟩ = some (.string V1))
    (h0 : (A1.toList == qVersion) = false) :
    Dcl g 1 cap w false := by
  unfold maxLen at hm
  unfold Dcl
  go_enter Tryz.func63, Tryz.ntmps63
  go_wp2
  all_goals (go_ret; exact ⟨by simp <;> omega, Below.refl _ _⟩)

set_option maxHeartbeats 4000000 in
set_option maxRecDepth 100000 in
theorem dcl_a2 (g cap : Nat) (A1 V1 A2 V2 A3 V3 : ByteArray) (w : World) (hcap : 2 ≤ cap) (hm : cap ≤ maxLen)
    (c0 : w.cell? ⟨g, 0, none⟩ = some (.string A1)) (c1 : w.cell? ⟨g, 1, none⟩ = some (.string V1)) (c4 : w.cell? ⟨g, 4, none⟩ = some (.string A2)) (c5 : w.cell? ⟨g, 5, none⟩ = some (.string V2))
    (h0 : (A1.toList == qVersion) = false) :
    Dcl g 2 cap w false := by
  unfold maxLen at hm
  unfold Dcl
  go_enter Tryz.func63, Tryz.ntmps63
  go_wp2
  all_goals (go_ret; exact ⟨by simp <;> omega, Below.refl _ _⟩)

set_option maxHeartbeats 4000000 in
set_option maxRecDepth 100000 in
theorem dcl_ak (g cap : Nat) (k : Nat) (hk : k ≤ 100000) (A1 V1 A2 V2 A3 V3 : ByteArray) (w : World) (hcap : (k + 3) ≤ cap) (hm : cap ≤ maxLen)
    (c0 : w.cell? ⟨g, 0, none⟩ = some (.string A1)) (c1 : w.cell? ⟨g, 1, none⟩ = some (.string V1)) (c4 : w.cell? ⟨g, 4, none⟩ = some (.string A2)) (c5 : w.cell? ⟨g, 5, none⟩ = some (.string V2)) (c8 : w.cell? ⟨g, 8, none⟩ = some (.string A3)) (c9 : w.cell? ⟨g, 9, none⟩ = some (.string V3))
    (h0 : (A1.toList == qVersion) = false) :
    Dcl g (k + 3) cap w false := by
  unfold maxLen at hm
  unfold Dcl
  go_enter Tryz.func63, Tryz.ntmps63
  go_wp2
  all_goals (go_ret; exact ⟨by simp <;> omega, Below.refl _ _⟩)

set_option maxHeartbeats 4000000 in
set_option maxRecDepth 100000 in
theorem dcl_b1 (g cap : Nat) (A1 V1 A2 V2 A3 V3 : ByteArray) (w : World) (hcap : 1 ≤ cap) (hm : cap ≤ maxLen)
    (c0 : w.cell? ⟨g, 0, none⟩ = some (.string A1)) (c1 : w.cell? ⟨g, 1, none⟩ = some (.string V1))
    (h0 : (A1.toList == qVersion) = true) (h1 : (V1.toList == q10) = false) :
    Dcl g 1 cap w false := by
  unfold maxLen at hm
  unfold Dcl
  go_enter Tryz.func63, Tryz.ntmps63
  go_wp2
  all_goals (go_ret; exact ⟨by simp <;> omega, Below.refl _ _⟩)

set_option maxHeartbeats 4000000 in
set_option maxRecDepth 100000 in
theorem dcl_b2 (g cap : Nat) (A1 V1 A2 V2 A3 V3 : ByteArray) (w : World) (hcap : 2 ≤ cap) (hm : cap ≤ maxLen)
    (c0 : w.cell? ⟨g, 0, none⟩ = some (.string A1)) (c1 : w.cell? ⟨g, 1, none⟩ = some (.string V1)) (c4 : w.cell? ⟨g, 4, none⟩ = some (.string A2)) (c5 : w.cell? ⟨g, 5, none⟩ = some (.string V2))
    (h0 : (A1.toList == qVersion) = true) (h1 : (V1.toList == q10) = false) :
    Dcl g 2 cap w false := by
  unfold maxLen at hm
  unfold Dcl
  go_enter Tryz.func63, Tryz.ntmps63
  go_wp2
  all_goals (go_ret; exact ⟨by simp <;> omega, Below.refl _ _⟩)

set_option maxHeartbeats 4000000 in
set_option maxRecDepth 100000 in
theorem dcl_bk (g cap : Nat) (k : Nat) (hk : k ≤ 100000) (A1 V1 A2 V2 A3 V3 : ByteArray) (w : World) (hcap : (k + 3) ≤ cap) (hm : cap ≤ maxLen)
    (c0 : w.cell? ⟨g, 0, none⟩ = some (.string A1)) (c1 : w.cell? ⟨g, 1, none⟩ = some (.string V1)) (c4 : w.cell? ⟨g, 4, none⟩ = some (.string A2)) (c5 : w.cell? ⟨g, 5, none⟩ = some (.string V2)) (c8 : w.cell? ⟨g, 8, none⟩ = some (.string A3)) (c9 : w.cell? ⟨g, 9, none⟩ = some (.string V3))
    (h0 : (A1.toList == qVersion) = true) (h1 : (V1.toList == q10) = false) :
    Dcl g (k + 3) cap w false := by
  unfold maxLen at hm
  unfold Dcl
  go_enter Tryz.func63, Tryz.ntmps63
  go_wp2
  all_goals (go_ret; exact ⟨by simp <;> omega, Below.refl _ _⟩)

set_option maxHeartbeats 4000000 in
set_option maxRecDepth 100000 in
theorem dcl_c1 (g cap : Nat) (A1 V1 A2 V2 A3 V3 : ByteArray) (w : World) (hcap : 1 ≤ cap) (hm : cap ≤ maxLen)
    (c0 : w.cell? ⟨g, 0, none⟩ = some (.string A1)) (c1 : w.cell? ⟨g, 1, none⟩ = some (.string V1))
    (h0 : (A1.toList == qVersion) = true) (h1 : (V1.toList == q10) = true) :
    Dcl g 1 cap w true := by
  unfold maxLen at hm
  unfold Dcl
  go_enter Tryz.func63, Tryz.ntmps63
  go_wp2
  all_goals (go_ret; exact ⟨by simp <;> omega, Below.refl _ _⟩)

set_option maxHeartbeats 4000000 in
set_option maxRecDepth 100000 in
theorem dcl_dn2 (g cap : Nat) (A1 V1 A2 V2 A3 V3 : ByteArray) (w : World) (hcap : 2 ≤ cap) (hm : cap ≤ maxLen)
    (c0 : w.cell? ⟨g, 0, none⟩ = some (.string A1)) (c1 : w.cell? ⟨g, 1, none⟩ = some (.string V1)) (c4 : w.cell? ⟨g, 4, none⟩ = some (.string A2)) (c5 : w.cell? ⟨g, 5, none⟩ = some (.string V2))
    (h0 : (A1.toList == qVersion) = true) (h1 : (V1.toList == q10) = true) (h2 : (A2.toList == qEnc) = false) (h3 : (A2.toList == qAlone) = false) :
    Dcl g 2 cap w false := by
  unfold maxLen at hm
  unfold Dcl
  go_enter Tryz.func63, Tryz.ntmps63
  go_wp2
  all_goals (go_ret; exact ⟨by simp <;> omega, Below.refl _ _⟩)

set_option maxHeartbeats 4000000 in
set_option maxRecDepth 100000 in
theorem dcl_dy2 (g cap : Nat) (A1 V1 A2 V2 A3 V3 : ByteArray) (w : World) (hcap : 2 ≤ cap) (hm : cap ≤ maxLen)
    (c0 : w.cell? ⟨g, 0, none⟩ = some (.string A1)) (c1 : w.cell? ⟨g, 1, none⟩ = some (.string V1)) (c4 : w.cell? ⟨g, 4, none⟩ = some (.string A2)) (c5 : w.cell? ⟨g, 5, none⟩ = some (.string V2))
    (h0 : (A1.toList == qVersion) = true) (h1 : (V1.toList == q10) = true) (h2 : (A2.toList == qEnc) = false) (h3 : (A2.toList == qAlone) = true) (h4 : (V2.toList == qYes) = true) :
    Dcl g 2 cap w true := by
  unfold maxLen at hm
  unfold Dcl
  go_enter Tryz.func63, Tryz.ntmps63
  go_wp2
  all_goals (go_ret; exact ⟨by simp <;> omega, Below.refl _ _⟩)

set_option maxHeartbeats 4000000 in
set_option maxRecDepth 100000 in
theorem dcl_do2 (g cap : Nat) (A1 V1 A2 V2 A3 V3 : ByteArray) (w : World) (hcap : 2 ≤ cap) (hm : cap ≤ maxLen)
    (c0 : w.cell? ⟨g, 0, none⟩ = some (.string A1)) (c1 : w.cell? ⟨g, 1, none⟩ = some (.string V1)) (c4 : w.cell? ⟨g, 4, none⟩ = some (.string A2)) (c5 : w.cell? ⟨g, 5, none⟩ = some (.string V2))
    (h0 : (A1.toList == qVersion) = true) (h1 : (V1.toList == q10) = true) (h2 : (A2.toList == qEnc) = false) (h3 : (A2.toList == qAlone) = true) (h4 : (V2.toList == qYes) = false) (h5 : (V2.toList == qNo) = true) :
    Dcl g 2 cap w true := by
  unfold maxLen at hm
  unfold Dcl
  go_enter Tryz.func63, Tryz.ntmps63
  go_wp2
  all_goals (go_ret; exact ⟨by simp <;> omega, Below.refl _ _⟩)

set_option maxHeartbeats 4000000 in
set_option maxRecDepth 100000 in
theorem dcl_dz2 (g cap : Nat) (A1 V1 A2 V2 A3 V3 : ByteArray) (w : World) (hcap : 2 ≤ cap) (hm : cap ≤ maxLen)
    (c0 : w.cell? ⟨g, 0, none⟩ = some (.string A1)) (c1 : w.cell? ⟨g, 1, none⟩ = some (.string V1)) (c4 : w.cell? ⟨g, 4, none⟩ = some (.string A2)) (c5 : w.cell? ⟨g, 5, none⟩ = some (.string V2))
    (h0 : (A1.toList == qVersion) = true) (h1 : (V1.toList == q10) = true) (h2 : (A2.toList == qEnc) = false) (h3 : (A2.toList == qAlone) = true) (h4 : (V2.toList == qYes) = false) (h5 : (V2.toList == qNo) = false) :
    Dcl g 2 cap w false := by
  unfold maxLen at hm
  unfold Dcl
  go_enter Tryz.func63, Tryz.ntmps63
  go_wp2
  all_goals (go_ret; exact ⟨by simp <;> omega, Below.refl _ _⟩)

set_option maxHeartbeats 4000000 in
set_option maxRecDepth 100000 in
theorem dcl_e2 (g cap : Nat) (A1 V1 A2 V2 A3 V3 : ByteArray) (w : World) (hcap : 2 ≤ cap) (hm : cap ≤ maxLen)
    (c0 : w.cell? ⟨g, 0, none⟩ = some (.string A1)) (c1 : w.cell? ⟨g, 1, none⟩ = some (.string V1)) (c4 : w.cell? ⟨g, 4, none⟩ = some (.string A2)) (c5 : w.cell? ⟨g, 5, none⟩ = some (.string V2))
    (hf : Fld V2 w false) (hl : ∀ W, Below w.heap.size w W → W.cell? ⟨g, 4, none⟩ = some (.string A2) ∧ W.cell? ⟨g, 5, none⟩ = some (.string V2))
    (h0 : (A1.toList == qVersion) = true) (h1 : (V1.toList == q10) = true) (h2 : (A2.toList == qEnc) = true) (h3 : (A2.toList == qAlone) = false) :
    Dcl g 2 cap w false := by
  unfold maxLen at hm
  unfold Fld at hf
  have HL := Lib.hid hl
  clear hl
  unfold Dcl
  go_enter Tryz.func63, Tryz.ntmps63
  go_wp2_with (go_at_call 86; refine hf.mono ?_; rintro e w1 ⟨rfl, hb1⟩; obtain ⟨k4, k5⟩ := HL.out _ hb1; have HB1 := Lib.hid hb1; clear hb1)
  all_goals (go_ret; exact ⟨by simp <;> omega, HB1.out⟩)

set_option maxHeartbeats 4000000 in
set_option maxRecDepth 100000 in
theorem dcl_dnk (g cap : Nat) (k : Nat) (hk : k ≤ 100000) (A1 V1 A2 V2 A3 V3 : ByteArray) (w : World) (hcap : (k + 3) ≤ cap) (hm : cap ≤ maxLen)
    (c0 : w.cell? ⟨g, 0, none⟩ = some (.string A1)) (c1 : w.cell? ⟨g, 1, none⟩ = some (.string V1)) (c4 : w.cell? ⟨g, 4, none⟩ = some (.string A2)) (c5 : w.cell? ⟨g, 5, none⟩ = some (.string V2)) (c8 : w.cell? ⟨g, 8, none⟩ = some (.string A3)) (c9 : w.cell? ⟨g, 9, none⟩ = some (.string V3))
    (h0 : (A1.toList == qVersion) = true) (h1 : (V1.toList == q10) = true) (h2 : (A2.toList == qEnc) = false) (h3 : (A2.toList == qAlone) = false) :
    Dcl g (k + 3) cap w false := by
  unfold maxLen at hm
  unfold Dcl
  go_enter Tryz.func63, Tryz.ntmps63
  go_wp2
  all_goals (go_ret; exact ⟨by simp <;> omega, Below.refl _ _⟩)

set_option maxHeartbeats 4000000 in
set_option maxRecDepth 100000 in
theorem dcl_dyk (g cap : Nat) (k : Nat) (hk : k ≤ 100000) (A1 V1 A2 V2 A3 V3 : ByteArray) (w : World) (hcap : (k + 3) ≤ cap) (hm : cap ≤ maxLen)
    (c0 : w.cell? ⟨g, 0, none⟩ = some (.string A1)) (c1 : w.cell? ⟨g, 1, none⟩ = some (.string V1)) (c4 : w.cell? ⟨g, 4, none⟩ = some (.string A2)) (c5 : w.cell? ⟨g, 5, none⟩ = some (.string V2)) (c8 : w.cell? ⟨g, 8, none⟩ = some (.string A3)) (c9 : w.cell? ⟨g, 9, none⟩ = some (.string V3))
    (h0 : (A1.toList == qVersion) = true) (h1 : (V1.toList == q10) = true) (h2 : (A2.toList == qEnc) = false) (h3 : (A2.toList == qAlone) = true) (h4 : (V2.toList == qYes) = true) :
    Dcl g (k + 3) cap w false := by
  unfold maxLen at hm
  unfold Dcl
  go_enter Tryz.func63, Tryz.ntmps63
  go_wp2
  all_goals (go_ret; exact ⟨by simp <;> omega, Below.refl _ _⟩)

set_option maxHeartbeats 4000000 in
set_option maxRecDepth 100000 in
theorem dcl_dok (g cap : Nat) (k : Nat) (hk : k ≤ 100000) (A1 V1 A2 V2 A3 V3 : ByteArray) (w : World) (hcap : (k + 3) ≤ cap) (hm : cap ≤ maxLen)
    (c0 : w.cell? ⟨g, 0, none⟩ = some (.string A1)) (c1 : w.cell? ⟨g, 1, none⟩ = some (.string V1)) (c4 : w.cell? ⟨g, 4, none⟩ = some (.string A2)) (c5 : w.cell? ⟨g, 5, none⟩ = some (.string V2)) (c8 : w.cell? ⟨g, 8, none⟩ = some (.string A3)) (c9 : w.cell? ⟨g, 9, none⟩ = some (.string V3))
    (h0 : (A1.toList == qVersion) = true) (h1 : (V1.toList == q10) = true) (h2 : (A2.toList == qEnc) = false) (h3 : (A2.toList == qAlone) = true) (h4 : (V2.toList == qYes) = false) (h5 : (V2.toList == qNo) = true) :
    Dcl g (k + 3) cap w false := by
  unfold maxLen at hm
  unfold Dcl
  go_enter Tryz.func63, Tryz.ntmps63
  go_wp2
  all_goals (go_ret; exact ⟨by simp <;> omega, Below.refl _ _⟩)

set_option maxHeartbeats 4000000 in
set_option maxRecDepth 100000 in
theorem dcl_dzk (g cap : Nat) (k : Nat) (hk : k ≤ 100000) (A1 V1 A2 V2 A3 V3 : ByteArray) (w : World) (hcap : (k + 3) ≤ cap) (hm : cap ≤ maxLen)
    (c0 : w.cell? ⟨g, 0, none⟩ = some (.string A1)) (c1 : w.cell? ⟨g, 1, none⟩ = some (.string V1)) (c4 : w.cell? ⟨g, 4, none⟩ = some (.string A2)) (c5 : w.cell? ⟨g, 5, none⟩ = some (.string V2)) (c8 : w.cell? ⟨g, 8, none⟩ = some (.string A3)) (c9 : w.cell? ⟨g, 9, none⟩ = some (.string V3))
    (h0 : (A1.toList == qVersion) = true) (h1 : (V1.toList == q10) = true) (h2 : (A2.toList == qEnc) = false) (h3 : (A2.toList == qAlone) = true) (h4 : (V2.toList == qYes) = false) (h5 : (V2.toList == qNo) = false) :
    Dcl g (k + 3) cap w false := by
  unfold maxLen at hm
  unfold Dcl
  go_enter Tryz.func63, Tryz.ntmps63
  go_wp2
  all_goals (go_ret; exact ⟨by simp <;> omega, Below.refl _ _⟩)

set_option maxHeartbeats 4000000 in
set_option maxRecDepth 100000 in
theorem dcl_ek (g cap : Nat) (k : Nat) (hk : k ≤ 100000) (A1 V1 A2 V2 A3 V3 : ByteArray) (w : World) (hcap : (k + 3) ≤ cap) (hm : cap ≤ maxLen)
    (c0 : w.cell? ⟨g, 0, none⟩ = some (.string A1)) (c1 : w.cell? ⟨g, 1, none⟩ = some (.string V1)) (c4 : w.cell? ⟨g, 4, none⟩ = some (.string A2)) (c5 : w.cell? ⟨g, 5, none⟩ = some (.string V2)) (c8 : w.cell? ⟨g, 8, none⟩ = some (.string A3)) (c9 : w.cell? ⟨g, 9, none⟩ = some (.string V3))
    (hf : Fld V2 w false) (hl : ∀ W, Below w.heap.size w W → W.cell? ⟨g, 4, none⟩ = some (.string A2) ∧ W.cell? ⟨g, 5, none⟩ = some (.string V2) ∧ W.cell? ⟨g, 8, none⟩ = some (.string A3) ∧ W.cell? ⟨g, 9, none⟩ = some (.string V3))
    (h0 : (A1.toList == qVersion) = true) (h1 : (V1.toList == q10) = true) (h2 : (A2.toList == qEnc) = true) (h3 : (A2.toList == qAlone) = false) :
    Dcl g (k + 3) cap w false := by
  unfold maxLen at hm
  unfold Fld at hf
  have HL := Lib.hid hl
  clear hl
  unfold Dcl
  go_enter Tryz.func63, Tryz.ntmps63
  go_wp2_with (go_at_call 86; refine hf.mono ?_; rintro e w1 ⟨rfl, hb1⟩; obtain ⟨k4, k5, k8, k9⟩ := HL.out _ hb1; have HB1 := Lib.hid hb1; clear hb1)
  all_goals (go_ret; exact ⟨by simp <;> omega, HB1.out⟩)

set_option maxHeartbeats 4000000 in
set_option maxRecDepth 100000 in
theorem dcl_f2 (g cap : Nat) (A1 V1 A2 V2 A3 V3 : ByteArray) (w : World) (hcap : 2 ≤ cap) (hm : cap ≤ maxLen)
    (c0 : w.cell? ⟨g, 0, none⟩ = some (.string A1)) (c1 : w.cell? ⟨g, 1, none⟩ = some (.string V1)) (c4 : w.cell? ⟨g, 4, none⟩ = some (.string A2)) (c5 : w.cell? ⟨g, 5, none⟩ = some (.string V2))
    (hf : Fld V2 w true) (hl : ∀ W, Below w.heap.size w W → W.cell? ⟨g, 4, none⟩ = some (.string A2) ∧ W.cell? ⟨g, 5, none⟩ = some (.string V2))
    (h0 : (A1.toList == qVersion) = true) (h1 : (V1.toList == q10) = true) (h2 : (A2.toList == qEnc) = true) :
    Dcl g 2 cap w true := by
  unfold maxLen at hm
  unfold Fld at hf
  have HL := Lib.hid hl
  clear hl
  unfold Dcl
  go_enter Tryz.func63, Tryz.ntmps63
  go_wp2_with (go_at_call 86; refine hf.mono ?_; rintro e w1 ⟨rfl, hb1⟩; obtain ⟨k4, k5⟩ := HL.out _ hb1; have HB1 := Lib.hid hb1; clear hb1)
  all_goals (go_ret; exact ⟨by simp <;> omega, HB1.out⟩)

set_option maxHeartbeats 4000000 in
set_option maxRecDepth 100000 in
theorem dcl_gn3 (g cap : Nat) (A1 V1 A2 V2 A3 V3 : ByteArray) (w : World) (hcap : 3 ≤ cap) (hm : cap ≤ maxLen)
    (c0 : w.cell? ⟨g, 0, none⟩ = some (.string A1)) (c1 : w.cell? ⟨g, 1, none⟩ = some (.string V1)) (c4 : w.cell? ⟨g, 4, none⟩ = some (.string A2)) (c5 : w.cell? ⟨g, 5, none⟩ = some (.string V2)) (c8 : w.cell? ⟨g, 8, none⟩ = some (.string A3)) (c9 : w.cell? ⟨g, 9, none⟩ = some (.string V3))
    (hf : Fld V2 w true) (hl : ∀ W, Below w.heap.size w W → W.cell? ⟨g, 4, none⟩ = some (.string A2) ∧ W.cell? ⟨g, 5, none⟩ = some (.string V2) ∧ W.cell? ⟨g, 8, none⟩ = some (.string A3) ∧ W.cell? ⟨g, 9, none⟩ = some (.string V3))
    (h0 : (A1.toList == qVersion) = true) (h1 : (V1.toList == q10) = true) (h2 : (A2.toList == qEnc) = true) (h3 : (A3.toList == qAlone) = false) :
    Dcl g 3 cap w false := by
  unfold maxLen at hm
  unfold Fld at hf
  have HL := Lib.hid hl
  clear hl
  unfold Dcl
  go_enter Tryz.func63, Tryz.ntmps63
  go_wp2_with (go_at_call 86; refine hf.mono ?_; rintro e w1 ⟨rfl, hb1⟩; obtain ⟨k4, k5, k8, k9⟩ := HL.out _ hb1; have HB1 := Lib.hid hb1; clear hb1)
  all_goals (go_ret; exact ⟨by simp <;> omega, HB1.out⟩)

set_option maxHeartbeats 4000000 in
set_option maxRecDepth 100000 in
theorem dcl_gy3 (g cap : Nat) (A1 V1 A2 V2 A3 V3 : ByteArray) (w : World) (hcap : 3 ≤ cap) (hm : cap ≤ maxLen)
    (c0 : w.cell? ⟨g, 0, none⟩ = some (.string A1)) (c1 : w.cell? ⟨g, 1, none⟩ = some (.string V1)) (c4 : w.cell? ⟨g, 4, none⟩ = some (.string A2)) (c5 : w.cell? ⟨g, 5, none⟩ = some (.string V2)) (c8 : w.cell? ⟨g, 8, none⟩ = some (.string A3)) (c9 : w.cell? ⟨g, 9, none⟩ = some (.string V3))
    (hf : Fld V2 w true) (hl : ∀ W, Below w.heap.size w W → W.cell? ⟨g, 4, none⟩ = some (.string A2) ∧ W.cell? ⟨g, 5, none⟩ = some (.string V2) ∧ W.cell? ⟨g, 8, none⟩ = some (.string A3) ∧ W.cell? ⟨g, 9, none⟩ = some (.string V3))
    (h0 : (A1.toList == qVersion) = true) (h1 : (V1.toList == q10) = true) (h2 : (A2.toList == qEnc) = true) (h3 : (A3.toList == qAlone) = true) (h4 : (V3.toList == qYes) = true) :
    Dcl g 3 cap w true := by
  unfold maxLen at hm
  unfold Fld at hf
  have HL := Lib.hid hl
  clear hl
  unfold Dcl
  go_enter Tryz.func63, Tryz.ntmps63
  go_wp2_with (go_at_call 86; refine hf.mono ?_; rintro e w1 ⟨rfl, hb1⟩; obtain ⟨k4, k5, k8, k9⟩ := HL.out _ hb1; have HB1 := Lib.hid hb1; clear hb1)
  all_goals (go_ret; exact ⟨by simp <;> omega, HB1.out⟩)

set_option maxHeartbeats 4000000 in
set_option maxRecDepth 100000 in
theorem dcl_go3 (g cap : Nat) (A1 V1 A2 V2 A3 V3 : ByteArray) (w : World) (hcap : 3 ≤ cap) (hm : cap ≤ maxLen)
    (c0 : w.cell? ⟨g, 0, none⟩ = some (.string A1)) (c1 : w.cell? ⟨g, 1, none⟩ = some (.string V1)) (c4 : w.cell? ⟨g, 4, none⟩ = some (.string A2)) (c5 : w.cell? ⟨g, 5, none⟩ = some (.string V2)) (c8 : w.cell? ⟨g, 8, none⟩ = some (.string A3)) (c9 : w.cell? ⟨g, 9, none⟩ = some (.string V3))
    (hf : Fld V2 w true) (hl : ∀ W, Below w.heap.size w W → W.cell? ⟨g, 4, none⟩ = some (.string A2) ∧ W.cell? ⟨g, 5, none⟩ = some (.string V2) ∧ W.cell? ⟨g, 8, none⟩ = some (.string A3) ∧ W.cell? ⟨g, 9, none⟩ = some (.string V3))
    (h0 : (A1.toList == qVersion) = true) (h1 : (V1.toList == q10) = true) (h2 : (A2.toList == qEnc) = true) (h3 : (A3.toList == qAlone) = true) (h4 : (V3.toList == qYes) = false) (h5 : (V3.toList == qNo) = true) :
    Dcl g 3 cap w true := by
  unfold maxLen at hm
  unfold Fld at hf
  have HL := Lib.hid hl
  clear hl
  unfold Dcl
  go_enter Tryz.func63, Tryz.ntmps63
  go_wp2_with (go_at_call 86; refine hf.mono ?_; rintro e w1 ⟨rfl, hb1⟩; obtain ⟨k4, k5, k8, k9⟩ := HL.out _ hb1; have HB1 := Lib.hid hb1; clear hb1)
  all_goals (go_ret; exact ⟨by simp <;> omega, HB1.out⟩)

set_option maxHeartbeats 4000000 in
set_option maxRecDepth 100000 in
theorem dcl_gz3 (g cap : Nat) (A1 V1 A2 V2 A3 V3 : ByteArray) (w : World) (hcap : 3 ≤ cap) (hm : cap ≤ maxLen)
    (c0 : w.cell? ⟨g, 0, none⟩ = some (.string A1)) (c1 : w.cell? ⟨g, 1, none⟩ = some (.string V1)) (c4 : w.cell? ⟨g, 4, none⟩ = some (.string A2)) (c5 : w.cell? ⟨g, 5, none⟩ = some (.string V2)) (c8 : w.cell? ⟨g, 8, none⟩ = some (.string A3)) (c9 : w.cell? ⟨g, 9, none⟩ = some (.string V3))
    (hf : Fld V2 w true) (hl : ∀ W, Below w.heap.size w W → W.cell? ⟨g, 4, none⟩ = some (.string A2) ∧ W.cell? ⟨g, 5, none⟩ = some (.string V2) ∧ W.cell? ⟨g, 8, none⟩ = some (.string A3) ∧ W.cell? ⟨g, 9, none⟩ = some (.string V3))
    (h0 : (A1.toList == qVersion) = true) (h1 : (V1.toList == q10) = true) (h2 : (A2.toList == qEnc) = true) (h3 : (A3.toList == qAlone) = true) (h4 : (V3.toList == qYes) = false) (h5 : (V3.toList == qNo) = false) :
    Dcl g 3 cap w false := by
  unfold maxLen at hm
  unfold Fld at hf
  have HL := Lib.hid hl
  clear hl
  unfold Dcl
  go_enter Tryz.func63, Tryz.ntmps63
  go_wp2_with (go_at_call 86; refine hf.mono ?_; rintro e w1 ⟨rfl, hb1⟩; obtain ⟨k4, k5, k8, k9⟩ := HL.out _ hb1; have HB1 := Lib.hid hb1; clear hb1)
  all_goals (go_ret; exact ⟨by simp <;> omega, HB1.out⟩)

set_option maxHeartbeats 4000000 in
set_option maxRecDepth 100000 in
theorem dcl_gnm (g cap : Nat) (k : Nat) (hk : k ≤ 100000) (A1 V1 A2 V2 A3 V3 : ByteArray) (w : World) (hcap : (k + 4) ≤ cap) (hm : cap ≤ maxLen)
    (c0 : w.cell? ⟨g, 0, none⟩ = some (.string A1)) (c1 : w.cell? ⟨g, 1, none⟩ = some (.string V1)) (c4 : w.cell? ⟨g, 4, none⟩ = some (.string A2)) (c5 : w.cell? ⟨g, 5, none⟩ = some (.string V2)) (c8 : w.cell? ⟨g, 8, none⟩ = some (.string A3)) (c9 : w.cell? ⟨g, 9, none⟩ = some (.string V3))
    (hf : Fld V2 w true) (hl : ∀ W, Below w.heap.size w W → W.cell? ⟨g, 4, none⟩ = some (.string A2) ∧ W.cell? ⟨g, 5, none⟩ = some (.string V2) ∧ W.cell? ⟨g, 8, none⟩ = some (.string A3) ∧ W.cell? ⟨g, 9, none⟩ = some (.string V3))
    (h0 : (A1.toList == qVersion) = true) (h1 : (V1.toList == q10) = true) (h2 : (A2.toList == qEnc) = true) (h3 : (A3.toList == qAlone) = false) :
    Dcl g (k + 4) cap w false := by
  unfold maxLen at hm
  unfold Fld at hf
  have HL := Lib.hid hl
  clear hl
  unfold Dcl
  go_enter Tryz.func63, Tryz.ntmps63
  go_wp2_with (go_at_call 86; refine hf.mono ?_; rintro e w1 ⟨rfl, hb1⟩; obtain ⟨k4, k5, k8, k9⟩ := HL.out _ hb1; have HB1 := Lib.hid hb1; clear hb1)
  all_goals (go_ret; exact ⟨by simp <;> omega, HB1.out⟩)

set_option maxHeartbeats 4000000 in
set_option maxRecDepth 100000 in
theorem dcl_gym (g cap : Nat) (k : Nat) (hk : k ≤ 100000) (A1 V1 A2 V2 A3 V3 : ByteArray) (w : World) (hcap : (k + 4) ≤ cap) (hm : cap ≤ maxLen)
    (c0 : w.cell? ⟨g, 0, none⟩ = some (.string A1)) (c1 : w.cell? ⟨g, 1, none⟩ = some (.string V1)) (c4 : w.cell? ⟨g, 4, none⟩ = some (.string A2)) (c5 : w.cell? ⟨g, 5, none⟩ = some (.string V2)) (c8 : w.cell? ⟨g, 8, none⟩ = some (.string A3)) (c9 : w.cell? ⟨g, 9, none⟩ = some (.string V3))
    (hf : Fld V2 w true) (hl : ∀ W, Below w.heap.size w W → W.cell? ⟨g, 4, none⟩ = some (.string A2) ∧ W.cell? ⟨g, 5, none⟩ = some (.string V2) ∧ W.cell? ⟨g, 8, none⟩ = some (.string A3) ∧ W.cell? ⟨g, 9, none⟩ = some (.string V3))
    (h0 : (A1.toList == qVersion) = true) (h1 : (V1.toList == q10) = true) (h2 : (A2.toList == qEnc) = true) (h3 : (A3.toList == qAlone) = true) (h4 : (V3.toList == qYes) = true) :
    Dcl g (k + 4) cap w false := by
  unfold maxLen at hm
  unfold Fld at hf
  have HL := Lib.hid hl
  clear hl
  unfold Dcl
  go_enter Tryz.func63, Tryz.ntmps63
  go_wp2_with (go_at_call 86; refine hf.mono ?_; rintro e w1 ⟨rfl, hb1⟩; obtain ⟨k4, k5, k8, k9⟩ := HL.out _ hb1; have HB1 := Lib.hid hb1; clear hb1)
  all_goals (go_ret; exact ⟨by simp <;> omega, HB1.out⟩)

set_option maxHeartbeats 4000000 in
set_option maxRecDepth 100000 in
theorem dcl_gom (g cap : Nat) (k : Nat) (hk : k ≤ 100000) (A1 V1 A2 V2 A3 V3 : ByteArray) (w : World) (hcap : (k + 4) ≤ cap) (hm : cap ≤ maxLen)
    (c0 : w.cell? ⟨g, 0, none⟩ = some (.string A1)) (c1 : w.cell? ⟨g, 1, none⟩ = some (.string V1)) (c4 : w.cell? ⟨g, 4, none⟩ = some (.string A2)) (c5 : w.cell? ⟨g, 5, none⟩ = some (.string V2)) (c8 : w.cell? ⟨g, 8, none⟩ = some (.string A3)) (c9 : w.cell? ⟨g, 9, none⟩ = some (.string V3))
    (hf : Fld V2 w true) (hl : ∀ W, Below w.heap.size w W → W.cell? ⟨g, 4, none⟩ = some (.string A2) ∧ W.cell? ⟨g, 5, none⟩ = some (.string V2) ∧ W.cell? ⟨g, 8, none⟩ = some (.string A3) ∧ W.cell? ⟨g, 9, none⟩ = some (.string V3))
    (h0 : (A1.toList == qVersion) = true) (h1 : (V1.toList == q10) = true) (h2 : (A2.toList == qEnc) = true) (h3 : (A3.toList == qAlone) = true) (h4 : (V3.toList == qYes) = false) (h5 : (V3.toList == qNo) = true) :
    Dcl g (k + 4) cap w false := by
  unfold maxLen at hm
  unfold Fld at hf
  have HL := Lib.hid hl
  clear hl
  unfold Dcl
  go_enter Tryz.func63, Tryz.ntmps63
  go_wp2_with (go_at_call 86; refine hf.mono ?_; rintro e w1 ⟨rfl, hb1⟩; obtain ⟨k4, k5, k8, k9⟩ := HL.out _ hb1; have HB1 := Lib.hid hb1; clear hb1)
  all_goals (go_ret; exact ⟨by simp <;> omega, HB1.out⟩)

set_option maxHeartbeats 4000000 in
set_option maxRecDepth 100000 in
theorem dcl_gzm (g cap : Nat) (k : Nat) (hk : k ≤ 100000) (A1 V1 A2 V2 A3 V3 : ByteArray) (w : World) (hcap : (k + 4) ≤ cap) (hm : cap ≤ maxLen)
    (c0 : w.cell? ⟨g, 0, none⟩ = some (.string A1)) (c1 : w.cell? ⟨g, 1, none⟩ = some (.string V1)) (c4 : w.cell? ⟨g, 4, none⟩ = some (.string A2)) (c5 : w.cell? ⟨g, 5, none⟩ = some (.string V2)) (c8 : w.cell? ⟨g, 8, none⟩ = some (.string A3)) (c9 : w.cell? ⟨g, 9, none⟩ = some (.string V3))
    (hf : Fld V2 w true) (hl : ∀ W, Below w.heap.size w W → W.cell? ⟨g, 4, none⟩ = some (.string A2) ∧ W.cell? ⟨g, 5, none⟩ = some (.string V2) ∧ W.cell? ⟨g, 8, none⟩ = some (.string A3) ∧ W.cell? ⟨g, 9, none⟩ = some (.string V3))
    (h0 : (A1.toList == qVersion) = true) (h1 : (V1.toList == q10) = true) (h2 : (A2.toList == qEnc) = true) (h3 : (A3.toList == qAlone) = true) (h4 : (V3.toList == qYes) = false) (h5 : (V3.toList == qNo) = false) :
    Dcl g (k + 4) cap w false := by
  unfold maxLen at hm
  unfold Fld at hf
  have HL := Lib.hid hl
  clear hl
  unfold Dcl
  go_enter Tryz.func63, Tryz.ntmps63
  go_wp2_with (go_at_call 86; refine hf.mono ?_; rintro e w1 ⟨rfl, hb1⟩; obtain ⟨k4, k5, k8, k9⟩ := HL.out _ hb1; have HB1 := Lib.hid hb1; clear hb1)
  all_goals (go_ret; exact ⟨by simp <;> omega, HB1.out⟩)

end Go.Proofs.YtdilngjolhmjnaaGreatDoor
