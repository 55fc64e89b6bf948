/- What the law's own escaping makes of a text. Conditions: those that each theorem names. -/
import Derived.Test.YtdilngjolhmjnaaGreatDoorLawLines
import Derived.Deep.QuietTactic
import Derived.Laws.IdiomStrings
import Derived.BigQuiet
namespace Go.Proofs.YtdilngjolhmjnaaGreatDoor
open Go.RowKit Go.Shelf
set_option linter.all false

theorem conv_at (W : World) (b : Nat) (l : List UInt8) (C : Array Value) (hW : W.heap[b]? = some (.cells C 5 (0, 0))) (hc : C.toList = l.map fun b => Value.int .u8 (b.toNat : Int)) :
    (convert 53 9 (.slice (some ⟨b, 0, none⟩) l.length l.length)).run Tryz.prog W = .ok (.string ⟨l.toArray⟩) W := by
  refine run_convert_bytes_back (P := Tryz.prog) W 53 9 5 ⟨b, 0, none⟩ l.length l Tryz.underlying53 Tryz.underlying5 Tryz.underlying9 (fun j hj => ?_)
  have e : (⟨b, 0, none⟩ : Addr).add j = ⟨b, j, none⟩ := by unfold Addr.add; split <;> simp_all
  rw [e, Lib.cell_of_heap hW]
  rw [← Array.getElem?_toList, hc, List.getElem?_map, List.getElem?_eq_getElem hj]
  rfl
/-- What stands for one byte. -/
def esc1 (v : Bool) (b : UInt8) : List UInt8 :=
  if b = 60 then [38, 108, 116, 59] else if b = 38 then [38, 97, 109, 112, 59] else if b = 62 then [38, 35, 54, 50, 59] else if b = 34 then [38, 35, 120, 50, 50, 59]
  else if b = 13 then [38, 35, 49, 51, 59] else if v = true ∧ b = 9 then [38, 35, 48, 57, 59] else if v = true ∧ b = 10 then [38, 35, 49, 48, 59] else [b]
def esc (v : Bool) (l : List UInt8) : List UInt8 := l.flatMap (esc1 v)
theorem esc_append (v : Bool) (a b : List UInt8) : esc v (a ++ b) = esc v a ++ esc v b := by unfold esc; rw [List.flatMap_append]
theorem esc1_length (v : Bool) (b : UInt8) : (esc1 v b).length ≤ 6 := by unfold esc1; (repeat' split) <;> simp
theorem esc_length (v : Bool) (l : List UInt8) : (esc v l).length ≤ 6 * l.length := by
  induction l with
  | nil => simp [esc]
  | cons b l ih =>
    have := esc1_length v b
    have h : esc v (b :: l) = esc1 v b ++ esc v l := rfl
    rw [h, List.length_append, List.length_cons]
    omega
/-- What the loop has come to. -/
def EsRel (v : Bool) (d : List UInt8) (w : World) (g : Nat) (a iv : Value) (wr : World) : Prop :=
  ∃ i : Nat, iv = .int .i64 (i : Int) ∧ d.length - i = g ∧ i ≤ d.length ∧ a = .string (bs (esc v (d.take i))) ∧ Below w.heap.size w wr

set_option maxHeartbeats 16000000 in
set_option maxRecDepth 100000 in
theorem escaped_any (v : Bool) (d : List UInt8) (hs : d.length ≤ 1000) (w : World) :
    Calls Tryz.prog 15 #[.string (bs d), .bool v] w fun e w' => e = .returned (.string (bs (esc v d))) ∧ Below w.heap.size w w' := by
  have hsz := bs_size d
  go_enter Tryz.func15, Tryz.ntmps15
  go_wp2
  go_loopg [5, 6] d.length (fun g a iv wr => EsRel v d w g a iv wr)
  case atStart => exact ⟨0, rfl, rfl, Nat.zero_le _, rfl, Below.refl _ _⟩
  case round =>
    obtain ⟨i, rfl, hg, him, rfl, hbel⟩ := hrel
    have HBel := Lib.hid hbel
    clear hbel
    by_cases hlt : i < d.length
    · have hi2 : i < (bs d).size := by omega
      obtain ⟨b0, hb0⟩ : ∃ b0, d[i] = b0 := ⟨_, rfl⟩
      have hget : (bs d)[i] = b0 := (bs_get d i hi2 hlt).trans hb0
      have htk : d.take (i + 1) = d.take i ++ [b0] := by subst hb0; exact List.take_succ_eq_append_getElem hlt
      have hlts : (i : Int) < ((bs d).size : Int) := by omega
      have hE : esc v (d.take (i + 1)) = esc v (d.take i) ++ esc1 v b0 := by
        rw [htk, esc_append]
        congr 1
        simp [esc]
      have hL := esc_length v (d.take i)
      have hti : (d.take i).length = i := by rw [List.length_take]; omega
      have hLs := bs_size (esc v (d.take i))
      have HE := Lib.hid hE
      have HTI := Lib.hid hti
      rw [hti] at hL
      by_cases h60 : b0 = 60
      · subst h60
        have e1 : bs (esc v (d.take i)) ++ ⟨#[38, 108, 116, 59]⟩ = bs (esc v (d.take (i + 1))) := by rw [hE, ← bs_append]; rfl
        have hc : ¬ ((bs (esc v (d.take i))).size + 4 > 9223372036854775807) := by omega
        have E1 := Lib.hid e1
        clear htk hb0 e1 hE hti
        go_wp2
        go_roundg (d.length - (i + 1))
        case measure => omega
        case rel => exact ⟨i + 1, by go_num, rfl, by omega, by rw [E1.out], HBel.out⟩
      · have n60 : (((b0.toNat : Int)) == 60) = false := by
          rw [beq_eq_false_iff_ne]
          intro e
          exact h60 (UInt8.toNat_inj.1 (by have : (60 : UInt8).toNat = 60 := rfl; omega))
        by_cases h38 : b0 = 38
        · subst h38
          have e1 : bs (esc v (d.take i)) ++ ⟨#[38, 97, 109, 112, 59]⟩ = bs (esc v (d.take (i + 1))) := by rw [hE, ← bs_append]; rfl
          have hc : ¬ ((bs (esc v (d.take i))).size + 5 > 9223372036854775807) := by omega
          have E1 := Lib.hid e1
          clear htk hb0 e1 hE hti
          go_wp2
          go_roundg (d.length - (i + 1))
          case measure => omega
          case rel => exact ⟨i + 1, by go_num, rfl, by omega, by rw [E1.out], HBel.out⟩
        · have n38 : (((b0.toNat : Int)) == 38) = false := by
            rw [beq_eq_false_iff_ne]
            intro e
            exact h38 (UInt8.toNat_inj.1 (by have : (38 : UInt8).toNat = 38 := rfl; omega))
          by_cases h62 : b0 = 62
          · subst h62
            have e1 : bs (esc v (d.take i)) ++ ⟨#[38, 35, 54, 50, 59]⟩ = bs (esc v (d.take (i + 1))) := by rw [hE, ← bs_append]; rfl
            have hc : ¬ ((bs (esc v (d.take i))).size + 5 > 9223372036854775807) := by omega
            have E1 := Lib.hid e1
            clear htk hb0 e1 hE hti
            go_wp2
            go_roundg (d.length - (i + 1))
            case measure => omega
            case rel => exact ⟨i + 1, by go_num, rfl, by omega, by rw [E1.out], HBel.out⟩
          · have n62 : (((b0.toNat : Int)) == 62) = false := by
              rw [beq_eq_false_iff_ne]
              intro e
              exact h62 (UInt8.toNat_inj.1 (by have : (62 : UInt8).toNat = 62 := rfl; omega))
            by_cases h34 : b0 = 34
            · subst h34
              have e1 : bs (esc v (d.take i)) ++ ⟨#[38, 35, 120, 50, 50, 59]⟩ = bs (esc v (d.take (i + 1))) := by rw [hE, ← bs_append]; rfl
              have hc : ¬ ((bs (esc v (d.take i))).size + 6 > 9223372036854775807) := by omega
              have E1 := Lib.hid e1
              clear htk hb0 e1 hE hti
              go_wp2
              go_roundg (d.length - (i + 1))
              case measure => omega
              case rel => exact ⟨i + 1, by go_num, rfl, by omega, by rw [E1.out], HBel.out⟩
            · have n34 : (((b0.toNat : Int)) == 34) = false := by
                rw [beq_eq_false_iff_ne]
                intro e
                exact h34 (UInt8.toNat_inj.1 (by have : (34 : UInt8).toNat = 34 := rfl; omega))
              by_cases h13 : b0 = 13
              · subst h13
                have e1 : bs (esc v (d.take i)) ++ (⟨#[38, 35]⟩ ++ ⟨#[49, 51]⟩ ++ ⟨#[59]⟩) = bs (esc v (d.take (i + 1))) := by rw [hE, ← bs_append]; rfl
                have hc : ¬ ((bs (esc v (d.take i))).size + 5 > 9223372036854775807) := by omega
                have E1 := Lib.hid e1
                have hcv : (convert 53 9 (.slice (some ⟨wr.heap.size, 0, none⟩) 2 2)).run Tryz.prog (wr.alloc (.cells #[.int .u8 49, .int .u8 51] 5)).drew = .ok (.string ⟨#[49, 51]⟩) (wr.alloc (.cells #[.int .u8 49, .int .u8 51] 5)).drew := conv_at _ wr.heap.size [49, 51] _ (heap_new wr _) rfl
                clear htk hb0 e1 hE hti
                go_wp2
                go_region
                go_wp2
                go_roundg (d.length - (i + 1))
                case measure => omega
                case rel => exact ⟨i + 1, by go_num, rfl, by omega, by rw [E1.out], (HBel.out.alloc HBel.out.size _).drew⟩
              · have n13 : (((b0.toNat : Int)) == 13) = false := by
                  rw [beq_eq_false_iff_ne]
                  intro e
                  exact h13 (UInt8.toNat_inj.1 (by have : (13 : UInt8).toNat = 13 := rfl; omega))
                cases v with
                | false =>
                  have hex : (bs d).extract i (i + 1) = bs [b0] := by
                    rw [bs_extract, show i + 1 - i = 1 by omega, List.drop_eq_getElem_cons hlt]
                    show bs [d[i]] = bs [b0]
                    exact congrArg (fun x => bs [x]) hb0
                  have e0 : esc1 false b0 = [b0] := by simp [esc1, h60, h38, h62, h34, h13]
                  have eA : bs (esc false (d.take i)) ++ (bs d).extract i (i + 1) = bs (esc false (d.take (i + 1))) := by rw [hex, hE, e0, ← bs_append]
                  have hes : ((bs d).extract i (i + 1)).size = 1 := by rw [hex]; rfl
                  have hcA : ¬ ((bs (esc false (d.take i))).size + ((bs d).extract i (i + 1)).size > 9223372036854775807) := by omega
                  have EA := Lib.hid eA
                  clear htk hb0 eA hex hE hti e0
                  go_wp2
                  go_roundg (d.length - (i + 1))
                  case measure => omega
                  case rel => exact ⟨i + 1, by go_num, rfl, by omega, by rw [EA.out], HBel.out⟩
                | true =>
                  by_cases h9 : b0 = 9
                  · subst h9
                    have e1 : bs (esc true (d.take i)) ++ (⟨#[38, 35]⟩ ++ ⟨#[48, 57]⟩ ++ ⟨#[59]⟩) = bs (esc true (d.take (i + 1))) := by rw [hE, ← bs_append]; rfl
                    have hc : ¬ ((bs (esc true (d.take i))).size + 5 > 9223372036854775807) := by omega
                    have E1 := Lib.hid e1
                    have hcv : (convert 53 9 (.slice (some ⟨wr.heap.size, 0, none⟩) 2 2)).run Tryz.prog (wr.alloc (.cells #[.int .u8 48, .int .u8 57] 5)).drew = .ok (.string ⟨#[48, 57]⟩) (wr.alloc (.cells #[.int .u8 48, .int .u8 57] 5)).drew := conv_at _ wr.heap.size [48, 57] _ (heap_new wr _) rfl
                    clear htk hb0 e1 hE hti
                    go_wp2
                    go_region
                    go_wp2
                    go_roundg (d.length - (i + 1))
                    case measure => omega
                    case rel => exact ⟨i + 1, by go_num, rfl, by omega, by rw [E1.out], (HBel.out.alloc HBel.out.size _).drew⟩
                  · have n9 : (((b0.toNat : Int)) == 9) = false := by
                      rw [beq_eq_false_iff_ne]
                      intro e
                      exact h9 (UInt8.toNat_inj.1 (by have : (9 : UInt8).toNat = 9 := rfl; omega))
                    by_cases h10 : b0 = 10
                    · subst h10
                      have e1 : bs (esc true (d.take i)) ++ (⟨#[38, 35]⟩ ++ ⟨#[49, 48]⟩ ++ ⟨#[59]⟩) = bs (esc true (d.take (i + 1))) := by rw [hE, ← bs_append]; rfl
                      have hc : ¬ ((bs (esc true (d.take i))).size + 5 > 9223372036854775807) := by omega
                      have E1 := Lib.hid e1
                      have hcv : (convert 53 9 (.slice (some ⟨wr.heap.size, 0, none⟩) 2 2)).run Tryz.prog (wr.alloc (.cells #[.int .u8 49, .int .u8 48] 5)).drew = .ok (.string ⟨#[49, 48]⟩) (wr.alloc (.cells #[.int .u8 49, .int .u8 48] 5)).drew := conv_at _ wr.heap.size [49, 48] _ (heap_new wr _) rfl
                      clear htk hb0 e1 hE hti
                      go_wp2
                      go_region
                      go_wp2
                      go_roundg (d.length - (i + 1))
                      case measure => omega
                      case rel => exact ⟨i + 1, by go_num, rfl, by omega, by rw [E1.out], (HBel.out.alloc HBel.out.size _).drew⟩
                    · have n10 : (((b0.toNat : Int)) == 10) = false := by
                        rw [beq_eq_false_iff_ne]
                        intro e
                        exact h10 (UInt8.toNat_inj.1 (by have : (10 : UInt8).toNat = 10 := rfl; omega))
                      have hex : (bs d).extract i (i + 1) = bs [b0] := by
                        rw [bs_extract, show i + 1 - i = 1 by omega, List.drop_eq_getElem_cons hlt]
                        show bs [d[i]] = bs [b0]
                        exact congrArg (fun x => bs [x]) hb0
                      have e0 : esc1 true b0 = [b0] := by simp [esc1, h60, h38, h62, h34, h13, h9, h10]
                      have eA : bs (esc true (d.take i)) ++ (bs d).extract i (i + 1) = bs (esc true (d.take (i + 1))) := by rw [hex, hE, e0, ← bs_append]
                      have hes : ((bs d).extract i (i + 1)).size = 1 := by rw [hex]; rfl
                      have hcA : ¬ ((bs (esc true (d.take i))).size + ((bs d).extract i (i + 1)).size > 9223372036854775807) := by omega
                      have EA := Lib.hid eA
                      clear htk hb0 eA hex hE hti e0
                      go_wp2
                      go_roundg (d.length - (i + 1))
                      case measure => omega
                      case rel => exact ⟨i + 1, by go_num, rfl, by omega, by rw [EA.out], HBel.out⟩
    · have hie : d.take i = d := List.take_of_length_le (by omega)
      have hge : ((bs d).size : Int) ≤ (i : Int) := by omega
      rw [hie]
      go_wp2
      go_ret
      exact ⟨rfl, HBel.out⟩
end Go.Proofs.YtdilngjolhmjnaaGreatDoor
