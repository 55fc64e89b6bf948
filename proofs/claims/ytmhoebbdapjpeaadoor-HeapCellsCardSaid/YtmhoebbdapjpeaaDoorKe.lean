/- Layer 8: a script of calls in memory; long. Conditions: those that each theorem names. -/
import Derived.Test.YtmhoebbdapjpeaaDoorKd
namespace Go.Proofs.YtmhoebbdapjpeaaDoor
open Go.RowKit Go.Maps
set_option linter.all false

/-- A call of a script. -/
structure Cl where
  kd : Nat
  i : Int
  n : Int
  k : List UInt8
  vk : Int
  vn : Nat
  vt : List UInt8
  vr : Int
  l : List V
  ip : Option Addr
  ic : Nat
/-- The call q at ⟨g, o⟩. -/
def CallIn (g o : Nat) (q : Cl) (w : World) : Prop :=
  w.cell? ⟨g, o, none⟩ = some (.int .u8 (q.kd : Int)) ∧ w.cell? ⟨g, o + 1, none⟩ = some (.int .i64 q.i) ∧ w.cell? ⟨g, o + 2, none⟩ = some (.int .i64 q.n) ∧ w.cell? ⟨g, o + 3, none⟩ = some (.string (bs q.k)) ∧ w.cell? ⟨g, o + 4, none⟩ = some (.int .i64 q.vk) ∧ w.cell? ⟨g, o + 5, none⟩ = some (.float .f64 q.vn) ∧ w.cell? ⟨g, o + 6, none⟩ = some (.string (bs q.vt)) ∧ w.cell? ⟨g, o + 7, none⟩ = some (.int .i64 q.vr) ∧ w.cell? ⟨g, o + 8, none⟩ = some (.slice q.ip q.l.length q.ic)
/-- A script in memory below N, as it stays. -/
structure ScriptAt (N : Nat) (p : Option Addr) (Q : List Cl) (w : World) : Prop where
  row : Q ≠ [] → ∃ g o, p = some ⟨g, o, none⟩ ∧ ∀ W, Below N w W → ∀ j q, Q[j]? = some q → CallIn g (o + j * 9) q W
  kd : ∀ q ∈ Q, q.kd < 256
  key : ∀ q ∈ Q, q.k.length ≤ 9223372036854775807
  vt : ∀ q ∈ Q, q.vt.length ≤ 9223372036854775807
  len : ∀ q ∈ Q, q.l.length ≤ 9223372036854775807
  items : ∀ q ∈ Q, ∀ W, Below N w W → RowAt W (.slice q.ip q.l.length q.ic) q.l.length (itemCells q.l)
  own : ∀ q ∈ Q, q.l ≠ [] → ∀ x ∈ (Value.slice q.ip q.l.length q.ic).ownBlock.toList, x < N
  texts : ∀ q ∈ Q, ∀ u ∈ q.l, u.t.length ≤ maxLen
def Brief (Q : List Cl) : Prop := Q.length ≤ 60 ∧ ∀ q ∈ Q, q.k.length ≤ 200 ∧ q.l.length ≤ 60 ∧ q.vt.length ≤ 200
def LongPost (Q : List Cl) (e : Ending) : Prop := ∃ b, e = .returned (.bool b) ∧ (b = false → Brief Q)
set_option maxRecDepth 100000 in
set_option maxHeartbeats 8000000 in
theorem long_any (N : Nat) (p : Option Addr) (Q : List Cl) (cap : Nat) (w : World) (hS : ScriptAt N p Q w) (hN : N ≤ w.heap.size) (hQ : Q.length ≤ 9223372036854775807) :
    Calls Tryd.prog 13 #[.slice p Q.length cap] w fun e w' => LongPost Q e ∧ Below w.heap.size w w' := by
  have hst := store_float
  obtain ⟨n, hn⟩ : ∃ n, n = Q.length := ⟨_, rfl⟩
  rw [← hn] at hQ ⊢
  have HS := Lib.hid hS
  have HN := Lib.hid hn
  have HNN := Lib.hid hN
  clear hS hn hN
  by_cases h60 : 60 < n
  · have e1 : (60 : Int) < (n : Int) := by omega
    go_enter Tryd.func13, Tryd.ntmps13
    go_wp2
    go_ret
    exact ⟨(⟨true, rfl, fun h => by cases h⟩ : LongPost Q _), Below.refl _ _⟩
  · have e1 : ¬ (60 : Int) < (n : Int) := by omega
    go_enter Tryd.func13, Tryd.ntmps13
    go_wp2
    go_loopg [4, 10] n (fun g v4 v10 wr => ∃ j : Nat, j + g = n ∧ v10 = .int .i64 j ∧ Below w.heap.size w wr ∧ ∀ i q, i < j → Q[i]? = some q → q.k.length ≤ 200 ∧ q.l.length ≤ 60 ∧ q.vt.length ≤ 200)
    case atStart => exact ⟨0, by omega, rfl, Below.refl _ _, fun i q h => absurd h (Nat.not_lt_zero _)⟩
    case round =>
      obtain ⟨j, hj, rfl, hbr, hall⟩ := hrel
      have HBR := Lib.hid hbr
      have HALL := Lib.hid hall
      clear hall
      by_cases hjn : j < n
      · obtain ⟨q, hq⟩ : ∃ q, Q[j]? = some q := ⟨Q[j]'(by rw [← HN.out]; exact hjn), List.getElem?_eq_getElem _⟩
        have hmem : q ∈ Q := List.mem_of_getElem? hq
        have hne : Q ≠ [] := by
          intro e
          rw [e] at hq
          simp at hq
        obtain ⟨g, o, rfl, hc⟩ := HS.out.row hne
        obtain ⟨a0, a1, a2, a3, a4, a5, a6, a7, a8⟩ := hc wr (hbr.mono HNN.out) j q hq
        have b1 := bs_size q.k
        have b2 := bs_size q.vt
        have z1 : (bs q.k).size ≤ 9223372036854775807 := by rw [b1]; exact HS.out.key q hmem
        have z2 : (bs q.vt).size ≤ 9223372036854775807 := by rw [b2]; exact HS.out.vt q hmem
        have z3 : q.l.length ≤ 9223372036854775807 := HS.out.len q hmem
        have k1 : (j : Int) < (n : Int) := by omega
        have k2 : IntKind.i64.wrap ((j : Int) + 1) = (j : Int) + 1 := IntWalk.i64_in _ (by omega)
        have HB1 := Lib.hid b1
        have HB2 := Lib.hid b2
        have HQ := Lib.hid hq
        clear b1 b2 hc hne hmem hq hbr
        obtain ⟨x1, hx1⟩ : ∃ x1, x1 = (bs q.k).size := ⟨_, rfl⟩
        obtain ⟨x2, hx2⟩ : ∃ x2, x2 = (bs q.vt).size := ⟨_, rfl⟩
        obtain ⟨x3, hx3⟩ : ∃ x3, x3 = q.l.length := ⟨_, rfl⟩
        have HX3 := Lib.hid hx3
        rw [← hx3] at a8 z3
        clear hx3
        generalize bs q.k = K at *
        generalize bs q.vt = T at *
        by_cases c1 : 200 < K.size
        · have d1 : decide ((200 : Int) < (K.size : Int)) = true := decide_eq_true (by omega)
          have d1' : (200 : Int) < (K.size : Int) := by omega
          clear hx1 hx2 c1
          go_wp2
          go_ret
          exact ⟨(⟨true, rfl, fun h => by cases h⟩ : LongPost Q _), HBR.out.alloc HBR.out.size _⟩
        · have d1 : ¬ ((200 : Int) < (K.size : Int)) := by omega
          by_cases c2 : 60 < x3
          · have d2 : (60 : Int) < (x3 : Int) := by omega
            clear hx1 hx2 c2
            go_wp2
            go_ret
            exact ⟨(⟨true, rfl, fun h => by cases h⟩ : LongPost Q _), HBR.out.alloc HBR.out.size _⟩
          · have d2 : ¬ ((60 : Int) < (x3 : Int)) := by omega
            by_cases c3 : 200 < T.size
            · have d3 : (200 : Int) < (T.size : Int) := by omega
              clear hx1 hx2 c3
              go_wp2
              go_ret
              exact ⟨(⟨true, rfl, fun h => by cases h⟩ : LongPost Q _), HBR.out.alloc HBR.out.size _⟩
            · have d3 : ¬ ((200 : Int) < (T.size : Int)) := by omega
              have C1 := Lib.hid c1
              have C2 := Lib.hid c2
              have C3 := Lib.hid c3
              clear hx1 hx2 c1 c2 c3
              go_wp2
              go_roundg (n - (j + 1))
              case measure => omega
              case rel =>
                refine ⟨j + 1, by omega, by go_num, HBR.out.alloc HBR.out.size _, fun i q' hi hq' => ?_⟩
                by_cases e : i = j
                · subst e
                  have := HQ.out
                  rw [hq'] at this
                  cases this
                  have t1 := HB1.out; have t2 := HB2.out; have t3 := HX3.out; have t4 := C1.out; have t5 := C2.out; have t6 := C3.out
                  exact ⟨by omega, by omega, by omega⟩
                · exact HALL.out i q' (by omega) hq'
      · have hjj : ¬ (j : Int) < (n : Int) := by omega
        go_wp2
        go_ret
        refine ⟨(⟨false, rfl, fun _ => ⟨by rw [← HN.out]; omega, fun q hm => ?_⟩⟩ : LongPost Q _), HBR.out⟩
        obtain ⟨i, hi⟩ := List.getElem?_of_mem hm
        exact HALL.out i q (by have := lt_of_getElem hi; rw [← HN.out] at this; omega) hi
end Go.Proofs.YtmhoebbdapjpeaaDoor
