/- Layer 8: what is taken and what is left are as many cells as were given, behind every call: on the model alone. No program. -/
import Derived.Test.YtmhoebbdapjpeaaDoorY16
namespace Go.Proofs.YtmhoebbdapjpeaaDoor
open Go.RowKit Go.Maps
set_option linter.all false

theorem taken_split (l1 l2 : List Ob) (o : Ob) (left : Nat) : Hp.taken ⟨l1 ++ o :: l2, left⟩ = Hp.taken ⟨l1 ++ l2, left⟩ + o.cells := by
  unfold Hp.taken
  simp only [List.map_append, List.map_cons, List.sum_append, List.sum_cons]
  omega
theorem taken_set {A : Hp} {i : Nat} {o o' : Ob} {left' : Nat} (ho : A.objs[i]? = some o) : Hp.taken ⟨A.objs.set i o', left'⟩ + o.cells = A.taken + o'.cells := by
  obtain ⟨l1, l2, e, rfl⟩ := list_split ho
  have h1 : A.taken = Hp.taken ⟨l1 ++ o :: l2, A.left⟩ := by unfold Hp.taken; rw [e]
  rw [e, set_split, h1, taken_split, taken_split]
  have h2 : Hp.taken ⟨l1 ++ l2, left'⟩ = Hp.taken ⟨l1 ++ l2, A.left⟩ := rfl
  omega
theorem taken_snoc (l : List Ob) (o : Ob) (left : Nat) : Hp.taken ⟨l ++ [o], left⟩ = Hp.taken ⟨l, left⟩ + o.cells := by
  have := taken_split l [] o left
  rw [List.append_nil] at this
  exact this
theorem taken_ge {A : Hp} {i : Nat} {o : Ob} (ho : A.objs[i]? = some o) : o.cells ≤ A.taken := by
  have := taken_set (o' := o) (left' := A.left) ho
  obtain ⟨l1, l2, e, rfl⟩ := list_split ho
  have h1 : A.taken = Hp.taken ⟨l1 ++ o :: l2, A.left⟩ := by unfold Hp.taken; rw [e]
  rw [h1, taken_split]
  omega
theorem taken_len : ∀ (l : List Ob) (left : Nat), l.length ≤ Hp.taken ⟨l, left⟩
  | [], _ => Nat.zero_le _
  | o :: l, left => by
    have ih := taken_len l left
    have := taken_split [] l o left
    rw [List.nil_append, List.nil_append] at this
    rw [this, List.length_cons]
    unfold Ob.cells
    omega
theorem Hp.Ok.toFew {A : Hp} {c : Nat} (K : A.Ok c) : A.Few := by
  have h1 := K.sum
  have h2 := K.few
  have h3 := taken_len A.objs A.left
  have h3' : A.objs.length ≤ A.taken := h3
  refine ⟨by omega, by omega, fun i o ho => ?_, fun i o ho => ?_, K.proto⟩
  · have := taken_ge ho; unfold Ob.cells at this; omega
  · have := taken_ge ho; unfold Ob.cells at this; omega
theorem proto_set {A : Hp} {i : Nat} {o o' : Ob} (ho : A.objs[i]? = some o) (he : o'.proto = o.proto) (hp : ∀ (i : Nat) (o : Ob), A.objs[i]? = some o → o.proto = -1 ∨ (0 ≤ o.proto ∧ o.proto < (i : Int))) : ∀ (j : Nat) (q : Ob), (A.objs.set i o')[j]? = some q → q.proto = -1 ∨ (0 ≤ q.proto ∧ q.proto < (j : Int)) := by
  intro j q hq
  by_cases hj : i = j
  · subst hj
    have hl := lt_of_getElem ho
    rw [List.getElem?_set_self hl] at hq
    cases hq
    rw [he]
    exact hp i o ho
  · rw [List.getElem?_set_ne hj] at hq
    exact hp j q hq
theorem Hp.Ok.set {A : Hp} {c : Nat} (K : A.Ok c) {i : Nat} {o o' : Ob} {left' : Nat} (ho : A.objs[i]? = some o) (he : o'.proto = o.proto) (hs : o'.cells + left' = o.cells + A.left) : Hp.Ok ⟨A.objs.set i o', left'⟩ c := by
  have h1 := taken_set (o' := o') (left' := left') ho
  have h2 := K.sum
  refine ⟨?_, K.few, proto_set ho he K.proto⟩
  show Hp.taken ⟨A.objs.set i o', left'⟩ + left' = c
  omega
theorem Hp.Ok.snoc {A : Hp} {c : Nat} (K : A.Ok c) {o : Ob} {left' : Nat} (hp : o.proto = -1 ∨ (0 ≤ o.proto ∧ o.proto < (A.objs.length : Int))) (hs : o.cells + left' = A.left) : Hp.Ok ⟨A.objs ++ [o], left'⟩ c := by
  have h1 := taken_snoc A.objs o left'
  have h2 := K.sum
  have h3 : Hp.taken ⟨A.objs, left'⟩ = A.taken := rfl
  refine ⟨?_, K.few, fun j q hq => ?_⟩
  · show Hp.taken ⟨A.objs ++ [o], left'⟩ + left' = c
    omega
  · rcases Nat.lt_or_ge j A.objs.length with hj | hj
    · rw [List.getElem?_append_left hj] at hq
      exact K.proto j q hq
    · rw [List.getElem?_append_right hj] at hq
      cases hk : j - A.objs.length with
      | zero =>
        rw [hk] at hq
        simp only [List.getElem?_cons_zero, Option.some.injEq] at hq
        subst hq
        rcases hp with h | ⟨h, h'⟩
        · exact Or.inl h
        · exact Or.inr ⟨h, by omega⟩
      | succ k => rw [hk] at hq; simp at hq
theorem Hp.Ok.make {A : Hp} {c : Nat} (K : A.Ok c) (p : Int) (o : Ob) (hc : o.cells = 1) (hp : A.okRef p → o.proto = -1 ∨ (0 ≤ o.proto ∧ o.proto < (A.objs.length : Int))) : (A.make p o).2.Ok c := by
  unfold Hp.make
  split
  · rename_i h
    split
    · exact K
    · rename_i n hn
      exact K.snoc (hp h) (by omega)
  · exact K
theorem Hp.Ok.array {A : Hp} {c : Nat} (K : A.Ok c) (l : List V) : (A.array l).2.Ok c := by
  unfold Hp.array
  split
  · split
    · exact K
    · rename_i h
      refine K.snoc (Or.inl rfl) ?_
      show 1 + 0 + l.length + (A.left - l.length - 1) = A.left
      omega
  · exact K
theorem lenItems_len2 (l : List V) (m : Nat) : (lenItems l m).length = m := lenItems_len l m
theorem putI_len (l : List V) (j : Nat) (v : V) : (putI l j v).length = max l.length (j + 1) := by
  unfold putI
  split
  · rw [List.length_set]; omega
  · rw [List.length_set, List.length_append, List.length_replicate]; omega
theorem Hp.Ok.putOwn {A : Hp} {c : Nat} (K : A.Ok c) (i : Nat) (o : Ob) (ho : A.objs[i]? = some o) (k : List UInt8) (v : V) : (A.putOwn i o k v).2.Ok c := by
  unfold Hp.putOwn
  split
  · refine K.set ho rfl ?_
    show 1 + (setP o.props k v).length + o.items.length + A.left = 1 + o.props.length + o.items.length + A.left
    unfold setP
    rw [List.length_map]
  · split
    · exact K
    · rename_i n hn
      refine K.set ho rfl ?_
      show 1 + (o.props ++ [(k, v)]).length + o.items.length + n = 1 + o.props.length + o.items.length + A.left
      rw [List.length_append, hn]
      simp
      omega
theorem Hp.Ok.put {A : Hp} {c : Nat} (K : A.Ok c) (i : Int) (k : List UInt8) (v : V) : (A.put i k v).2.Ok c := by
  unfold Hp.put
  split
  · cases ho : A.objs[i.toNat]? with
    | none => exact K
    | some o =>
      simp only
      split
      · split
        · split
          · split
            · split
              · exact K
              · rename_i m hm hlt
                refine K.set ho rfl ?_
                show 1 + o.props.length + (lenItems o.items m).length + (A.left + o.items.length - m) = 1 + o.props.length + o.items.length + A.left
                rw [lenItems_len]
                omega
            · exact K
          · exact K
        · split
          · rename_i j hj
            split
            · rename_i hlt
              refine K.set ho rfl ?_
              show 1 + o.props.length + (putI o.items j v).length + A.left = 1 + o.props.length + o.items.length + A.left
              rw [putI_len]
              omega
            · split
              · exact K
              · rename_i h1 h2
                refine K.set ho rfl ?_
                show 1 + o.props.length + (putI o.items j v).length + (A.left - (j + 1 - o.items.length)) = 1 + o.props.length + o.items.length + A.left
                rw [putI_len]
                omega
          · exact K.putOwn i.toNat o ho k v
      · exact K
  · exact K
/-- The keys of an object's own properties are apart. -/
def Hp.KeysOk (A : Hp) : Prop := ∀ (i : Nat) (o : Ob), A.objs[i]? = some o → (o.props.map (·.1)).Nodup
theorem dropP_len : ∀ (l : List (List UInt8 × V)) (k : List UInt8), (l.map (·.1)).Nodup → (lookP l k).isSome = true → (dropP l k).length + 1 = l.length
  | [], k, _, h => by simp [lookP] at h
  | q :: l, k, hn, h => by
    rw [List.map_cons, List.nodup_cons] at hn
    by_cases hq : q.1 = k
    · have hf : dropP (q :: l) k = dropP l k := by unfold dropP; rw [List.filter_cons, if_neg (by simp [hq])]
      have hr : dropP l k = l := by
        unfold dropP
        rw [List.filter_eq_self]
        intro x hx
        rw [decide_eq_true_eq]
        intro e
        exact hn.1 (List.mem_map.2 ⟨x, hx, by rw [e, hq]⟩)
      rw [hf, hr, List.length_cons]
    · have hf : dropP (q :: l) k = q :: dropP l k := by unfold dropP; rw [List.filter_cons, if_pos (by simp [hq])]
      have hl : lookP (q :: l) k = lookP l k := by unfold lookP; rw [List.find?_cons_of_neg (by simp [hq])]
      rw [hl] at h
      rw [hf, List.length_cons, List.length_cons, dropP_len l k hn.2 h]
theorem Hp.Ok.drop {A : Hp} {c : Nat} (K : A.Ok c) (hK : A.KeysOk) (i : Int) (k : List UInt8) : (A.drop i k).2.Ok c := by
  unfold Hp.drop
  split
  · cases ho : A.objs[i.toNat]? with
    | none => exact K
    | some o =>
      simp only
      cases hown : o.own k with
      | none => exact K
      | some v =>
        simp only
        split
        · exact K
        · rename_i hkl
          cases hki : oIdx o.kind k with
          | some j =>
            simp only
            refine K.set ho rfl ?_
            show 1 + o.props.length + (o.items.set j V.zero).length + A.left = 1 + o.props.length + o.items.length + A.left
            rw [List.length_set]
          | none =>
            simp only
            have hl : lookP o.props k = some v := by
              unfold Ob.own at hown
              rw [if_neg hkl, hki] at hown
              exact hown
            have := dropP_len o.props k (hK i.toNat o ho) (by rw [hl]; rfl)
            refine K.set ho rfl ?_
            show 1 + (dropP o.props k).length + o.items.length + (A.left + 1) = 1 + o.props.length + o.items.length + A.left
            omega
  · exact K
theorem HeapG.keysOk {h : Nat} {A : Hp} {sv : Value} {gs : List Gx} {w : World} (H : HeapG h A sv gs w) : A.KeysOk := by
  intro i o ho
  have hi := lt_of_getElem ho
  have hg : gs[i]? = some (gs[i]'(by rw [← H.len]; exact hi)) := List.getElem?_eq_getElem _
  have hob := H.obs i o _ ho hg
  rw [hob.eq, List.map_map]
  exact hob.keys
/-- Set, whatever it is of. -/
def Hp.set' (A : Hp) (i : Int) (k : List UInt8) (v : V) : (Bool × Int) × Hp :=
  if 0 ≤ i ∧ i < (A.objs.length : Int) then (match A.find k i with
    | some (a, _) => ((true, (A.put (a : Int) k v).1), (A.put (a : Int) k v).2)
    | none => ((false, 0), A))
  else ((false, 3), A)
theorem Hp.Ok.set' {A : Hp} {c : Nat} (K : A.Ok c) (i : Int) (k : List UInt8) (v : V) : (A.set' i k v).2.Ok c := by
  unfold Hp.set'
  split
  · split
    · exact K.put _ k v
    · exact K
  · exact K
theorem set_all (h : Nat) (A : Hp) (sv : Value) (gs : List Gx) (i : Int) (k : List UInt8) (hk : k.length ≤ 140737488355328) (vk : Int) (vn : Nat) (vt : List UInt8) (ht : vt.length ≤ maxLen) (vr : Int) (w : World) (H : HeapG h A sv gs w) (F : A.Few) :
    Calls Tryd.prog 38 #[.pointer (some ⟨h, 0, none⟩), .int .i64 i, .string (bs k), .agg #[.int .i64 vk, .float .f64 vn, .string (bs vt), .int .i64 vr]] w fun e w' => e = .returned (.tuple #[.bool (A.set' i k ⟨vk, vn, vt, vr⟩).1.1, .int .i64 (A.set' i k ⟨vk, vn, vt, vr⟩).1.2]) ∧ Step h (A.set' i k ⟨vk, vn, vt, vr⟩).2 (allBlocks h sv gs) w w' := by
  unfold Hp.set'
  by_cases hi : 0 ≤ i ∧ i < (A.objs.length : Int)
  · rw [if_pos hi]
    cases hf : A.find k i with
    | none =>
      simp only
      refine (set_none h A sv gs i k hk vk vn (bs vt) vr w H F hi hf).mono ?_
      rintro e w' ⟨rfl, hfr⟩
      exact ⟨rfl, step_fr H hfr⟩
    | some q =>
      obtain ⟨a, u⟩ := q
      simp only
      exact set_put h A sv gs i k hk vk vn (bs vt) vr w H F hi a u hf _ _ (fun W hW => put_all h A sv gs (a : Int) k hk vk vn vt ht vr W (H.fr hW) F)
  · rw [if_neg hi]
    refine (set_lost h A sv gs i (bs k) vk vn (bs vt) vr w H F.objs hi).mono ?_
    rintro e w' ⟨rfl, hfr⟩
    exact ⟨rfl, step_fr H hfr⟩
end Go.Proofs.YtmhoebbdapjpeaaDoor
