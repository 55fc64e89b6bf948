/- Layer 8: an object's properties: a map and a ring. Conditions: those that each theorem names. -/
import Derived.Test.YtmndmnajgfabnaaDoorH2
namespace Go.Proofs.YtmndmnajgfabnaaDoor
open Go.RowKit Go.Maps
set_option linter.all false

/-- A pointer to a block's head. -/
abbrev ptr (b : Nat) : Value := .pointer (some ⟨b, 0, none⟩)
/-- A ring's node: a block of seven cells. -/
def Nd (b : Nat) (w : World) : Prop := ∃ cs : Array Value, w.heap[b]? = some (.cells cs 114 (0, 0)) ∧ cs.size = 7
/-- What a node says. -/
structure Pay (b : Nat) (k : List UInt8) (v : V) (w : World) : Prop where
  c0 : w.cell? ⟨b, 0, none⟩ = some (.string (bs k))
  c1 : w.cell? ⟨b, 1, none⟩ = some (.int .i64 v.k)
  c2 : w.cell? ⟨b, 2, none⟩ = some (.float .f64 v.n)
  c3 : w.cell? ⟨b, 3, none⟩ = some (.string (bs v.t))
  c4 : w.cell? ⟨b, 4, none⟩ = some (.int .i64 v.r)
/-- x is ahead of y. -/
def Lk (x y : Nat) (w : World) : Prop := w.cell? ⟨x, 6, none⟩ = some (ptr y) ∧ w.cell? ⟨y, 5, none⟩ = some (ptr x)
def Links : Nat → List Nat → Nat → World → Prop
  | a, [], b, w => Lk a b w
  | a, x :: l, b, w => Lk a x w ∧ Links x l b w
def lastN (a : Nat) : List Nat → Nat
  | [] => a
  | x :: l => lastN x l
def headN (b : Nat) : List Nat → Nat
  | [] => b
  | x :: _ => x
theorem lastN_mem : ∀ (a : Nat) (l : List Nat), lastN a l ∈ a :: l
  | a, [] => by simp [lastN]
  | a, x :: l => List.mem_cons_of_mem _ (lastN_mem x l)
theorem lastN_snoc : ∀ (a : Nat) (l : List Nat) (x : Nat), lastN a (l ++ [x]) = x
  | a, [], x => rfl
  | a, y :: l, x => lastN_snoc y l x
theorem headN_mem (b : Nat) : ∀ l : List Nat, headN b l ∈ l ++ [b]
  | [] => by simp [headN]
  | x :: l => by simp [headN]
theorem Links.keep {b : Nat} {w w' : World} : ∀ {l : List Nat} {a : Nat}, (∀ x ∈ a :: l, w'.cell? ⟨x, 6, none⟩ = w.cell? ⟨x, 6, none⟩) → (∀ y ∈ l ++ [b], w'.cell? ⟨y, 5, none⟩ = w.cell? ⟨y, 5, none⟩) → Links a l b w → Links a l b w'
  | [], a, h6, h5, h => ⟨(h6 a (by simp)).trans h.1, (h5 b (by simp)).trans h.2⟩
  | x :: l, a, h6, h5, h => ⟨⟨(h6 a (by simp)).trans h.1.1, (h5 x (by simp)).trans h.1.2⟩, Links.keep (fun y hy => h6 y (List.mem_cons_of_mem _ hy)) (fun y hy => h5 y (List.mem_cons_of_mem _ hy)) h.2⟩
theorem Links.split {b x : Nat} {w : World} {l2 : List Nat} : ∀ {l1 : List Nat} {a : Nat}, Links a (l1 ++ x :: l2) b w → Links a l1 x w ∧ Links x l2 b w
  | [], a, h => ⟨h.1, h.2⟩
  | c :: l1, a, h => ⟨⟨h.1, (Links.split (l1 := l1) h.2).1⟩, (Links.split (l1 := l1) h.2).2⟩
theorem Links.last {b : Nat} {w : World} : ∀ {l : List Nat} {a : Nat}, Links a l b w → Lk (lastN a l) b w
  | [], a, h => h
  | _ :: l, a, h => Links.last (l := l) h.2
theorem Links.head {b : Nat} {w : World} : ∀ {l : List Nat} {a : Nat}, Links a l b w → Lk a (headN b l) w
  | [], a, h => h
  | _ :: l, a, h => h.1
theorem Links.snoc {b x q : Nat} {w w' : World} (h6q : w'.cell? ⟨q, 6, none⟩ = some (ptr x)) (h5x : w'.cell? ⟨x, 5, none⟩ = some (ptr q)) (h6x : w'.cell? ⟨x, 6, none⟩ = some (ptr b)) (h5b : w'.cell? ⟨b, 5, none⟩ = some (ptr x)) :
    ∀ {l : List Nat} {a : Nat}, lastN a l = q → (a :: l).Nodup → (∀ y ∈ a :: l, y ≠ q → w'.cell? ⟨y, 6, none⟩ = w.cell? ⟨y, 6, none⟩) → (∀ y ∈ l, w'.cell? ⟨y, 5, none⟩ = w.cell? ⟨y, 5, none⟩) → Links a l b w → Links a (l ++ [x]) b w'
  | [], a, hq, hn, h6, h5, h => by
    have : a = q := hq
    subst this
    exact ⟨⟨h6q, h5x⟩, ⟨h6x, h5b⟩⟩
  | y :: l, a, hq, hn, h6, h5, h => by
    have hne : a ≠ q := by
      intro e
      have := lastN_mem y l
      rw [show lastN y l = q from hq, ← e] at this
      exact (List.nodup_cons.1 hn).1 this
    exact ⟨⟨(h6 a (by simp) hne).trans h.1.1, (h5 y (by simp)).trans h.1.2⟩, Links.snoc h6q h5x h6x h5b hq (List.nodup_cons.1 hn).2 (fun z hz hzq => h6 z (List.mem_cons_of_mem _ hz) hzq) (fun z hz => h5 z (List.mem_cons_of_mem _ hz)) h.2⟩
theorem Links.cut {b x p n : Nat} {w w' : World} {l2 : List Nat} (hn : headN b l2 = n) (h6p : w'.cell? ⟨p, 6, none⟩ = some (ptr n)) (h5n : w'.cell? ⟨n, 5, none⟩ = some (ptr p)) :
    ∀ {l1 : List Nat} {a : Nat}, lastN a l1 = p → (a :: (l1 ++ x :: l2)).Nodup → b ∉ l1 ++ x :: l2 → (∀ y ∈ a :: (l1 ++ l2), y ≠ p → w'.cell? ⟨y, 6, none⟩ = w.cell? ⟨y, 6, none⟩) → (∀ y ∈ l1 ++ l2 ++ [b], y ≠ n → w'.cell? ⟨y, 5, none⟩ = w.cell? ⟨y, 5, none⟩) → Links a (l1 ++ x :: l2) b w → Links a (l1 ++ l2) b w'
  | [], a, hp, hd, hb, h6, h5, h => by
    have e : a = p := hp
    subst e
    cases l2 with
    | nil =>
      have e : b = n := hn
      subst e
      exact ⟨h6p, h5n⟩
    | cons y l2 =>
      have e : y = n := hn
      subst e
      simp only [List.nil_append, List.nodup_cons, List.mem_cons, not_or] at hd hb
      refine ⟨⟨h6p, h5n⟩, Links.keep (fun z hz => h6 z ?_ ?_) (fun z hz => h5 z ?_ ?_) h.2.2⟩
      · exact List.mem_cons_of_mem _ hz
      · rintro rfl
        simp only [List.mem_cons] at hz
        rcases hz with hz | hz
        · exact hd.1.2.1 hz
        · exact hd.1.2.2 hz
      · simp only [List.nil_append, List.cons_append, List.mem_cons]
        exact Or.inr hz
      · rintro rfl
        rw [List.mem_append, List.mem_singleton] at hz
        rcases hz with hz | hz
        · exact hd.2.2.1 hz
        · exact hb.2.1 hz.symm
  | c :: l1, a, hp, hd, hb, h6, h5, h => by
    have hap : a ≠ p := by
      intro e
      have := lastN_mem c l1
      rw [show lastN c l1 = p from hp, ← e] at this
      apply (List.nodup_cons.1 hd).1
      simp only [List.cons_append, List.mem_cons, List.mem_append] at this ⊢
      rcases this with h | h
      · exact Or.inl h
      · exact Or.inr (Or.inl h)
    have hcn : c ≠ n := by
      intro e
      have := headN_mem b l2
      rw [hn, ← e, List.mem_append, List.mem_singleton] at this
      have hd2 := (List.nodup_cons.1 (List.nodup_cons.1 hd).2).1
      rcases this with h | h
      · apply hd2
        show c ∈ l1 ++ x :: l2
        rw [List.mem_append, List.mem_cons]
        exact Or.inr (Or.inr h)
      · apply hb
        rw [← h]
        simp
    exact ⟨⟨(h6 a (by simp) hap).trans h.1.1, (h5 c (by simp) hcn).trans h.1.2⟩,
      Links.cut hn h6p h5n hp (List.nodup_cons.1 hd).2 (fun hm => hb (List.mem_cons_of_mem _ hm)) (fun z hz hzp => h6 z (List.mem_cons_of_mem _ hz) hzp) (fun z hz hzn => h5 z (List.mem_cons_of_mem _ hz) hzn) h.2⟩

/-- A property: its block, its key, its value. -/
abbrev Pr := Nat × List UInt8 × V
def mapV : Option (Nat × Nat) → Value
  | none => .map none
  | some (m, _) => .map (some m)
def ringV : Option (Nat × Nat) → Value
  | none => .pointer none
  | some (_, r) => ptr r
def keysB (L : List Pr) : List (List UInt8 × Nat) := L.map fun q => (q.2.1, q.1)
/-- The properties L, of an object that has these, lie as they should. -/
def PropsR (op : Option (Nat × Nat)) (L : List Pr) (w : World) : Prop :=
  match op with
  | none => L = []
  | some (m, r) => MapP Tryd.prog 9 m (keysB L) w ∧ Nd r w ∧ (∀ q ∈ L, Nd q.1 w ∧ Pay q.1 q.2.1 q.2.2 w) ∧ Links r (L.map (·.1)) r w
def blocksR (op : Option (Nat × Nat)) (L : List Pr) : List Nat :=
  match op with
  | none => []
  | some (m, r) => m :: r :: L.map (·.1)
theorem cell_keep {w w' : World} {b : Nat} (h : w'.heap[b]? = w.heap[b]?) (o : Nat) : w'.cell? ⟨b, o, none⟩ = w.cell? ⟨b, o, none⟩ := by simp [World.cell?, h]
theorem Nd.keep {w w' : World} {b : Nat} (h : w'.heap[b]? = w.heap[b]?) (H : Nd b w) : Nd b w' := by obtain ⟨cs, h1, h2⟩ := H; exact ⟨cs, by rw [h]; exact h1, h2⟩
theorem Pay.keep {w w' : World} {b : Nat} {k : List UInt8} {v : V} (h : w'.heap[b]? = w.heap[b]?) (H : Pay b k v w) : Pay b k v w' :=
  ⟨(cell_keep h 0).trans H.c0, (cell_keep h 1).trans H.c1, (cell_keep h 2).trans H.c2, (cell_keep h 3).trans H.c3, (cell_keep h 4).trans H.c4⟩
theorem PropsR.keep {op : Option (Nat × Nat)} {L : List Pr} {w w' : World} (h : ∀ b ∈ blocksR op L, w'.heap[b]? = w.heap[b]?) (H : PropsR op L w) : PropsR op L w' := by
  rcases op with _ | ⟨m, r⟩
  · exact H
  · obtain ⟨h1, h2, h3, h4⟩ := H
    have hL : ∀ q ∈ L, w'.heap[q.1]? = w.heap[q.1]? := fun q hq => h q.1 (by simp only [blocksR, List.mem_cons, List.mem_map]; exact Or.inr (Or.inr ⟨q, hq, rfl⟩))
    have hr : w'.heap[r]? = w.heap[r]? := h r (by simp [blocksR])
    have hl : ∀ x ∈ L.map (·.1), w'.heap[x]? = w.heap[x]? := by
      intro x hx; rw [List.mem_map] at hx; obtain ⟨q, hq, rfl⟩ := hx; exact hL q hq
    refine ⟨h1.keep (h m (by simp [blocksR])), h2.keep hr, fun q hq => ⟨(h3 q hq).1.keep (hL q hq), (h3 q hq).2.keep (hL q hq)⟩, h4.keep ?_ ?_⟩
    · intro x hx
      rw [List.mem_cons] at hx
      rcases hx with rfl | hx
      · exact cell_keep hr 6
      · exact cell_keep (hl x hx) 6
    · intro x hx
      rw [List.mem_append, List.mem_singleton] at hx
      rcases hx with hx | rfl
      · exact cell_keep (hl x hx) 5
      · exact cell_keep hr 5
theorem keysB_any (L : List Pr) (k : List UInt8) : (keysB L).any (fun q => decide (q.1 = k)) = L.any (fun q => decide (q.2.1 = k)) := by
  unfold keysB; rw [List.any_map]; rfl
theorem keysB_look (L : List Pr) (k : List UInt8) : lookB (keysB L) k = (L.find? (fun q => decide (q.2.1 = k))).map (·.1) := by
  unfold lookB keysB
  rw [List.find?_map, Option.map_map]
  rfl
end Go.Proofs.YtmndmnajgfabnaaDoor
