/- Layer 8: what the document's own words of layers 1, 4 and 8 answer: a text as a wide one, a number as a value, the same value. Conditions: those that each theorem names. -/
import Derived.Test.YtmndmnajgfabnaaDoorHy
import Derived.Laws.IdiomStrings
namespace Go.Proofs.YtmndmnajgfabnaaDoor
open Go.RowKit Go.Maps Go.Shelf
set_option linter.all false

theorem conv_list (w : World) (l : List UInt8) (C : Array Value) (hc : C.toList = l.map fun b => Value.int .u8 (b.toNat : Int)) :
    (convert 105 9 (.slice (some ⟨w.heap.size, 0, none⟩) l.length l.length)).run Tryd.prog (w.alloc (.cells C 5)) = .ok (.string ⟨l.toArray⟩) (w.alloc (.cells C 5)) := by
  refine run_convert_bytes_back (P := Tryd.prog) (w.alloc (.cells C 5)) 105 9 5 ⟨w.heap.size, 0, none⟩ l.length l Tryd.underlying105 Tryd.underlying5 Tryd.underlying9 (fun j hj => ?_)
  have e : (⟨w.heap.size, 0, none⟩ : Addr).add j = ⟨w.heap.size, j, none⟩ := by unfold Addr.add; split <;> simp_all
  rw [e]
  have h := World.cell?_alloc_mark w C 5 (0, 0) j
  have h2 : C[j]? = some (.int .u8 (l[j].toNat : Int)) := by
    rw [← Array.getElem?_toList, hc, List.getElem?_map, List.getElem?_eq_getElem hj]
    rfl
  rw [h2] at h
  exact h
set_option maxHeartbeats 1000000 in
theorem unitS (z : Int) (h0 : 0 ≤ z) (h1 : z < 65536) (w : World) :
    Calls Tryd.prog 58 #[.int .i64 z] w fun e w' => e = .returned (.string (bs (U.be z.toNat))) ∧ Fr [] w w' := by
  have hb := conv_list w (U.be z.toNat) #[.int .u8 (z / 256), .int .u8 (z % 256)] (byteCells_be z h0 h1).symm
  rw [show (U.be z.toNat).length = 2 from rfl] at hb
  obtain ⟨R, hR⟩ : ∃ R : ByteArray, (⟨(U.be z.toNat).toArray⟩ : ByteArray) = R := ⟨_, rfl⟩
  rw [hR] at hb
  have hR' : bs (U.be z.toNat) = R := hR
  rw [hR']
  clear hR hR'
  go_enter Tryd.func58, Tryd.ntmps58
  go_wp2
  go_ret
  exact ⟨rfl, Fr.alloc _ _⟩
/-- A text's bytes as units. -/
def ofB (l : List UInt8) : List UInt8 := l.flatMap fun b => U.be b.toNat
theorem ofB_len (l : List UInt8) : (ofB l).length = 2 * l.length := by
  unfold ofB
  induction l with
  | nil => rfl
  | cons a l ih => rw [List.flatMap_cons, List.length_append, ih, be_length, List.length_cons]; omega
theorem ofB_snoc (l : List UInt8) (b : UInt8) : ofB (l ++ [b]) = ofB l ++ U.be b.toNat := by unfold ofB; rw [List.flatMap_append]; simp
theorem bs_append (a b : List UInt8) : bs a ++ bs b = bs (a ++ b) := by
  apply str_ext
  show (bs a ++ bs b).data.toList = a ++ b
  rw [ByteArray.data_append]
  simp [bs]
def OfRel (l : List UInt8) (w : World) (j : Nat) (S : ByteArray) (wr : World) : Prop := j ≤ l.length ∧ S = bs (ofB (l.take j)) ∧ Fr [] w wr
set_option maxHeartbeats 1000000 in
theorem of_any (l : List UInt8) (hl : l.length ≤ 100000) (w : World) :
    Calls Tryd.prog 30 #[.string (bs l)] w fun e w' => e = .returned (.string (bs (ofB l))) ∧ Fr [] w w' := by
  have hsz := bs_size l
  have hget : ∀ (j : Nat) (h : j < (bs l).size) (h2 : j < l.length), ((bs l)[j]).toNat = (l[j]).toNat := fun j h h2 => by rw [bs_get l j h h2]
  have hS0 : OfRel l w 0 ⟨#[]⟩ w := ⟨Nat.zero_le _, rfl, Fr.refl _ _⟩
  obtain ⟨RR, hRR⟩ : ∃ RR, bs (ofB l) = RR := ⟨_, rfl⟩
  rw [hRR]
  have HRR := Lib.hid hRR
  clear hRR
  have HS0 := Lib.hid hS0
  have HG := Lib.hid hget
  obtain ⟨S, hS⟩ : ∃ S, S = bs l := ⟨_, rfl⟩
  have HSS := Lib.hid hS
  rw [← hS] at hsz ⊢
  have hs1 : S.size ≤ 100000 := by omega
  have HSZ := Lib.hid hsz
  clear hS0 hget hS hsz hl
  go_enter Tryd.func30, Tryd.ntmps30
  go_wp2
  go_loopg [3, 4] S.size (fun gk sv iv wr => ∃ (j : Nat) (T : ByteArray), iv = .int .i64 (j : Int) ∧ sv = .string T ∧ S.size - j = gk ∧ Hid (OfRel l w j T wr))
  case atStart => exact ⟨0, ⟨#[]⟩, rfl, rfl, by omega, HS0⟩
  case round =>
    obtain ⟨j, T, rfl, rfl, hgk, hrl⟩ := hrel
    obtain ⟨hj, hT, hfr⟩ := hrl.out
    have hsz := HSZ.out
    by_cases hlt : j < S.size
    · have hb : S[j].toNat = (l[j]'(by omega)).toNat := by
        have := HSS.out
        subst this
        exact HG.out j hlt (by omega)
      have hwr : wrap64 (S[j].toNat : Int) = (S[j].toNat : Int) := IntWalk.wrap64_in _ ⟨by omega, by have := UInt8.toNat_lt S[j]; omega⟩
      have hu : ∀ W, Calls Tryd.prog 58 #[.int .i64 (wrap64 (S[j].toNat : Int))] W fun e w' => e = .returned (.string (bs (U.be ((S[j].toNat : Int)).toNat))) ∧ Fr [] W w' := by
        intro W; rw [hwr]; exact unitS ((S[j].toNat : Int)) (by omega) (by have := UInt8.toNat_lt S[j]; omega) W
      have htl : T.size = 2 * j := by rw [hT, bs_size, ofB_len, List.length_take]; omega
      have hrel' : ∀ W, Fr [] wr W → OfRel l w (j + 1) (T ++ bs (U.be ((S[j].toNat : Int)).toNat)) W := by
        intro W hW
        refine ⟨by omega, ?_, hfr.trans hW (fun _ h => by cases h)⟩
        have e : l.take (j + 1) = l.take j ++ [l[j]'(by omega)] := by rw [List.take_succ_eq_append_getElem (by omega)]
        rw [e, ofB_snoc, hT, ← bs_append]
        congr 2
        rw [show ((S[j].toNat : Int)).toNat = S[j].toNat by omega, hb]
      have HREL := Lib.hid hrel'
      have hsz2 : (bs (U.be ((S[j].toNat : Int)).toNat)).size = 2 := by rw [bs_size]; rfl
      clear hrel' hrl hj hT hfr hb hsz hwr
      generalize bs (U.be ((S[j].toNat : Int)).toNat) = B at *
      have hsum : ¬ (T.size + B.size > 9223372036854775807) := by omega
      go_wp2_with (go_at_call 58; ((with_reducible refine (hu _).mono ?_); rintro e w2 ⟨rfl, hf2⟩; have HR := Lib.hid (HREL.out _ hf2); clear hf2))
      go_roundg (S.size - (j + 1))
      case measure => omega
      case rel => exact ⟨j + 1, _, by go_num, rfl, rfl, HR⟩
    · have hje : j = S.size := by omega
      have hTT : T = RR := by rw [hT, ← HRR.out, List.take_of_length_le (by omega)]
      have HF := Lib.hid hfr
      subst hje
      subst hTT
      clear hrl hj hT hfr hsz HSZ HSS HG HRR
      go_wp2
      go_ret
      exact ⟨rfl, HF.out⟩
theorem num_any (n : Nat) (w : World) : Calls Tryd.prog 22 #[.float .f64 n] w fun e w' => e = .returned (.agg #[.int .i64 3, .float .f64 n, .string ⟨#[]⟩, .int .i64 0]) ∧ Fr [] w w' := by
  have hst := store_float
  go_enter Tryd.func22, Tryd.ntmps22
  go_wp2
  exact bodyPost_ret (v := .agg #[.int .i64 3, .float .f64 n, .string ⟨#[]⟩, .int .i64 0]) (by simp [results, Tryd.results22, go_sem]) rfl ⟨rfl, Fr.alloc _ _⟩
theorem same4_self (n : Nat) (w : World) : Calls Tryd.prog 52 #[.float .f64 n, .float .f64 n] w fun e w' => e = .returned (.bool true) ∧ w = w' := by
  have x1 := x_bits
  cases hq : (FloatKind.f64.format.order n n != some Ordering.eq)
  · go_enter Tryd.func52, Tryd.ntmps52
    go_wp2
    go_ret
    exact ⟨rfl, rfl⟩
  · go_enter Tryd.func52, Tryd.ntmps52
    go_wp2
    go_ret
    exact ⟨rfl, rfl⟩
set_option maxHeartbeats 1000000 in
theorem same8_self (k : Int) (n : Nat) (T : ByteArray) (r : Int) (w : World) : Calls Tryd.prog 25 #[.agg #[.int .i64 k, .float .f64 n, .string T, .int .i64 r], .agg #[.int .i64 k, .float .f64 n, .string T, .int .i64 r]] w fun e w' => e = .returned (.bool true) ∧ Fr [] w w' := by
  have hs := same4_self
  have hst := store_float
  go_enter Tryd.func25, Tryd.ntmps25
  go_wp2_with (go_at_call 52; ((with_reducible refine (hs _ _).mono ?_); rintro e w2 ⟨rfl, rfl⟩))
  go_ret
  exact ⟨rfl, (Fr.alloc _ _).trans (Fr.alloc _ _) (fun _ h => by cases h)⟩
end Go.Proofs.YtmndmnajgfabnaaDoor
