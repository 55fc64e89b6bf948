/- Layer 8: each call of a heap leaves a heap whose sum is as it was: what the statement HeapCells plays. Conditions: those that each theorem names. -/
import Derived.Test.YtmhoebbdapjpeaaDoorKa
namespace Go.Proofs.YtmhoebbdapjpeaaDoor
open Go.RowKit Go.Maps
set_option linter.all false

/-- Behind a call: a heap of the same sum. -/
def Pl (N h c : Nat) (L : List Nat) (w0 w w' : World) : Prop := ∃ A' : Hp, A'.Ok c ∧ Nx N h A' L w0 w w'
theorem Hv.keysOk {N h : Nat} {A : Hp} {L : List Nat} {w0 w : World} (H : Hv N h A L w0 w) : A.KeysOk := by
  obtain ⟨sv, gs, hG, -⟩ := H
  exact hG.keysOk
theorem ansV_form2 (x : Option V) : ∃ (k : Int) (n : Nat) (t : ByteArray) (r : Int) (b : Bool), ansV x = .tuple #[.agg #[.int .i64 k, .float .f64 n, .string t, .int .i64 r], .bool b] := by
  cases x with
  | none => exact ⟨_, _, _, _, _, rfl⟩
  | some v => exact ⟨_, _, _, _, _, rfl⟩
section
variable {N h c : Nat} {A : Hp} {L : List Nat} {w0 w : World}
theorem plain_p (H : Hv N h A L w0 w) (K : A.Ok c) (p : Int) : Calls Tryd.prog 16 #[.pointer (some ⟨h, 0, none⟩), .int .i64 p] w fun e w' => (∃ a b, e = .returned (.tuple #[.int .i64 a, .int .i64 b])) ∧ Pl N h c L w0 w w' := by
  have hK := K.make p (plainO p) rfl (fun h => h)
  refine (plain_h H p hK.toFew).mono ?_
  rintro e w' ⟨rfl, hn⟩
  exact ⟨⟨_, _, rfl⟩, _, hK, hn⟩
theorem array_p (H : Hv N h A L w0 w) (K : A.Ok c) (l : List V) (v : Value) (hl : l.length ≤ 10000) (hR : RowAt w v l.length (itemCells l)) (hv : l ≠ [] → ∀ x ∈ v.ownBlock.toList, x ∈ L ∨ x < N) (hts : ∀ u ∈ l, u.t.length ≤ maxLen) :
    Calls Tryd.prog 28 #[.pointer (some ⟨h, 0, none⟩), v] w fun e w' => (∃ a b, e = .returned (.tuple #[.int .i64 a, .int .i64 b])) ∧ Pl N h c L w0 w w' := by
  have hK := K.array l
  refine (array_h H l v hl hR hv hts hK.toFew).mono ?_
  rintro e w' ⟨rfl, hn⟩
  exact ⟨⟨_, _, rfl⟩, _, hK, hn⟩
theorem function_p (H : Hv N h A L w0 w) (K : A.Ok c) (a b p : Int) : Calls Tryd.prog 37 #[.pointer (some ⟨h, 0, none⟩), .int .i64 a, .int .i64 b, .int .i64 p] w fun e w' => (∃ a b, e = .returned (.tuple #[.int .i64 a, .int .i64 b])) ∧ Pl N h c L w0 w w' := by
  have hK := K.make p (funcO a b p) rfl (fun _ => Or.inl rfl)
  obtain ⟨sv, gs, hG, hF, h1, h2, h3, h4⟩ := H
  refine (function_any h A sv gs a b p w hG hF.left hF.objs).mono ?_
  rintro e w' ⟨rfl, hS⟩
  exact ⟨⟨_, _, rfl⟩, _, hK, Hv.step hK.toFew h1 h2 h3 h4 hS⟩
theorem put_p (H : Hv N h A L w0 w) (K : A.Ok c) (i : Int) (k : List UInt8) (hk : k.length ≤ 140737488355328) (vk : Int) (vn : Nat) (vt : List UInt8) (ht : vt.length ≤ maxLen) (vr : Int) :
    Calls Tryd.prog 18 #[.pointer (some ⟨h, 0, none⟩), .int .i64 i, .string (bs k), .agg #[.int .i64 vk, .float .f64 vn, .string (bs vt), .int .i64 vr]] w fun e w' => (∃ a, e = .returned (.int .i64 a)) ∧ Pl N h c L w0 w w' := by
  have hK := K.put i k ⟨vk, vn, vt, vr⟩
  refine (put_all_h H i k hk vk vn vt ht vr hK.toFew).mono ?_
  rintro e w' ⟨rfl, hn⟩
  exact ⟨⟨_, rfl⟩, _, hK, hn⟩
theorem set_p (H : Hv N h A L w0 w) (K : A.Ok c) (i : Int) (k : List UInt8) (hk : k.length ≤ 140737488355328) (vk : Int) (vn : Nat) (vt : List UInt8) (ht : vt.length ≤ maxLen) (vr : Int) :
    Calls Tryd.prog 38 #[.pointer (some ⟨h, 0, none⟩), .int .i64 i, .string (bs k), .agg #[.int .i64 vk, .float .f64 vn, .string (bs vt), .int .i64 vr]] w fun e w' => (∃ b a, e = .returned (.tuple #[.bool b, .int .i64 a])) ∧ Pl N h c L w0 w w' := by
  have hK := K.set' i k ⟨vk, vn, vt, vr⟩
  obtain ⟨sv, gs, hG, hF, h1, h2, h3, h4⟩ := H
  refine (set_all h A sv gs i k hk vk vn vt ht vr w hG hF).mono ?_
  rintro e w' ⟨rfl, hS⟩
  exact ⟨⟨_, _, rfl⟩, _, hK, Hv.step hK.toFew h1 h2 h3 h4 hS⟩
theorem drop_p (H : Hv N h A L w0 w) (K : A.Ok c) (i : Int) (k : List UInt8) (hk : k.length ≤ 140737488355328) :
    Calls Tryd.prog 26 #[.pointer (some ⟨h, 0, none⟩), .int .i64 i, .string (bs k)] w fun e w' => (∃ b, e = .returned (.bool b)) ∧ Pl N h c L w0 w w' := by
  have hK := K.drop H.keysOk i k
  refine (drop_all_h H i k hk hK.toFew).mono ?_
  rintro e w' ⟨rfl, hn⟩
  exact ⟨⟨_, rfl⟩, _, hK, hn⟩
theorem get_p (H : Hv N h A L w0 w) (K : A.Ok c) (i : Int) (k : List UInt8) (hk : k.length ≤ 140737488355328) :
    Calls Tryd.prog 24 #[.pointer (some ⟨h, 0, none⟩), .int .i64 i, .string (bs k)] w fun e w' => (∃ k n t r b, e = .returned (.tuple #[.agg #[.int .i64 k, .float .f64 n, .string t, .int .i64 r], .bool b])) ∧ Pl N h c L w0 w w' := by
  refine (get_h H i k hk).mono ?_
  rintro e w' ⟨rfl, hn⟩
  obtain ⟨a1, a2, a3, a4, a5, he⟩ := ansV_form2 ((A.find k i).map (·.2))
  exact ⟨⟨a1, a2, a3, a4, a5, by rw [he]⟩, _, K, hn⟩
theorem own_p (H : Hv N h A L w0 w) (K : A.Ok c) (i : Int) (k : List UInt8) (hk : k.length ≤ 140737488355328) :
    Calls Tryd.prog 23 #[.pointer (some ⟨h, 0, none⟩), .int .i64 i, .string (bs k)] w fun e w' => (∃ k n t r b, e = .returned (.tuple #[.agg #[.int .i64 k, .float .f64 n, .string t, .int .i64 r], .bool b])) ∧ Pl N h c L w0 w w' := by
  refine (own_all_h H i k hk).mono ?_
  rintro e w' ⟨rfl, hn⟩
  obtain ⟨a1, a2, a3, a4, a5, he⟩ := ansV_form2 (A.own i k)
  exact ⟨⟨a1, a2, a3, a4, a5, by rw [he]⟩, _, K, hn⟩
theorem kind_p (H : Hv N h A L w0 w) (K : A.Ok c) (i : Int) : Calls Tryd.prog 39 #[.pointer (some ⟨h, 0, none⟩), .int .i64 i] w fun e w' => (∃ a, e = .returned (.int .i64 a)) ∧ Pl N h c L w0 w w' :=
  (kind_h H i).mono fun e w' hh => ⟨⟨_, hh.1⟩, _, K, hh.2⟩
theorem proto_p (H : Hv N h A L w0 w) (K : A.Ok c) (i : Int) : Calls Tryd.prog 40 #[.pointer (some ⟨h, 0, none⟩), .int .i64 i] w fun e w' => (∃ a, e = .returned (.int .i64 a)) ∧ Pl N h c L w0 w w' :=
  (proto_h H i).mono fun e w' hh => ⟨⟨_, hh.1⟩, _, K, hh.2⟩
end
theorem kind_get (A : Hp) (i : Int) (z : Int) (hz : z ≠ 0) (h : A.kind i = z) : ∃ (n : Nat) (o : Ob), i = (n : Int) ∧ A.objs[n]? = some o ∧ o.kind = z := by
  unfold Hp.kind at h
  split at h
  · rename_i hi
    split at h
    · rename_i o ho
      exact ⟨i.toNat, o, by omega, ho, h⟩
    · exact absurd h.symm hz
  · exact absurd h.symm hz
section
variable {N h c : Nat} {A : Hp} {L : List Nat} {w0 w : World}
theorem items_p (H : Hv N h A L w0 w) (K : A.Ok c) (i : Int) : Calls Tryd.prog 29 #[.pointer (some ⟨h, 0, none⟩), .int .i64 i] w fun e w' => (∃ p n cap b, e = .returned (.tuple #[.slice p n cap, .bool b])) ∧ Pl N h c L w0 w w' := by
  by_cases hk : A.kind i = 2
  · obtain ⟨n, o, rfl, ho, hk⟩ := kind_get A i 2 (by decide) hk
    refine (items_h H n o ho hk).mono ?_
    rintro e w' ⟨rfl, -, hn, -⟩
    exact ⟨⟨_, _, _, _, rfl⟩, _, K, hn⟩
  · refine (items_none_h H i hk).mono ?_
    rintro e w' ⟨rfl, hn⟩
    exact ⟨⟨_, _, _, _, rfl⟩, _, K, hn⟩
theorem code_p (H : Hv N h A L w0 w) (K : A.Ok c) (i : Int) : Calls Tryd.prog 41 #[.pointer (some ⟨h, 0, none⟩), .int .i64 i] w fun e w' => (∃ a b d f, e = .returned (.tuple #[.int .i64 a, .int .i64 b, .int .i64 d, .bool f])) ∧ Pl N h c L w0 w w' := by
  by_cases hk : A.kind i = 3
  · obtain ⟨n, o, rfl, ho, hk⟩ := kind_get A i 3 (by decide) hk
    refine (code_h H n o ho hk).mono ?_
    rintro e w' ⟨rfl, hn⟩
    exact ⟨⟨_, _, _, _, rfl⟩, _, K, hn⟩
  · refine (code_none_h H i hk).mono ?_
    rintro e w' ⟨rfl, hn⟩
    exact ⟨⟨_, _, _, _, rfl⟩, _, K, hn⟩
theorem keys_lost (h : Nat) (A : Hp) (sv : Value) (gs : List Gx) (i : Int) (w : World) (H : HeapG h A sv gs w) (hlen : A.objs.length ≤ 10000) (hi : ¬ (0 ≤ i ∧ i < (A.objs.length : Int))) :
    Calls Tryd.prog 17 #[.pointer (some ⟨h, 0, none⟩), .int .i64 i] w fun e w' => e = .returned (.slice none 0 0) ∧ w = w' := by
  have hhas := has_obj H hlen i w (Fr.refl _ _)
  have e : (decide (0 ≤ i) && decide (i < (A.objs.length : Int))) = false := by
    rw [Bool.and_eq_false_iff]
    by_cases h0 : 0 ≤ i
    · exact Or.inr (decide_eq_false fun h => hi ⟨h0, h⟩)
    · exact Or.inl (decide_eq_false h0)
  rw [e] at hhas
  clear e
  go_enter Tryd.func17, Tryd.ntmps17
  go_wp2_with ((with_reducible refine hhas.mono ?_); rintro e w1 ⟨rfl, rfl⟩)
  go_ret
  exact ⟨rfl, rfl⟩
theorem keys_p (H : Hv N h A L w0 w) (K : A.Ok c) (N' : Nat) (hT : Tb N' w) (i : Int) : Calls Tryd.prog 17 #[.pointer (some ⟨h, 0, none⟩), .int .i64 i] w fun e w' => (∃ p n cap, e = .returned (.slice p n cap)) ∧ Pl N h c L w0 w w' := by
  by_cases hi : 0 ≤ i ∧ i < (A.objs.length : Int)
  · obtain ⟨n, rfl⟩ : ∃ n : Nat, i = n := ⟨i.toNat, by omega⟩
    have hn : n < A.objs.length := by omega
    refine (keys_h H N' hT n _ (List.getElem?_eq_getElem hn)).mono ?_
    rintro e w' ⟨p, cap, rfl, -, hn, -⟩
    exact ⟨⟨_, _, _, rfl⟩, _, K, hn⟩
  · have H' := H
    obtain ⟨sv, gs, hG, hF, h1, h2, h3, h4⟩ := H
    refine (keys_lost h A sv gs i w hG hF.objs hi).mono ?_
    rintro e w' ⟨rfl, rfl⟩
    exact ⟨⟨_, _, _, rfl⟩, _, K, H'.fr (Fr.refl _ _)⟩
end
end Go.Proofs.YtmhoebbdapjpeaaDoor
