/- A value of scripts as it came in, and as it is handed back. Conditions: those that each theorem names. -/
import Derived.Test.YtmhoebbdapjpeaaDoorLaid
import Derived.Laws.Cover2
import Derived.Lib.SmallJoins
namespace Go.Proofs.YtmhoebbdapjpeaaDoor
open Go.ChangeShapes Go.WideShapes Go.ChangeAt Go.RowKit Go.Lib
set_option linter.all false

section
variable {H : Type} {enc : TypeId × Value → H} {w : World} {base : Nat} {spare : Nat → Bool} {held : Bool}
theorem trod_float {P : Program} {t : TypeId} {k : FloatKind} {fuel : Nat} {v : Value} {x : DataW H × List MemPlace} (ht : P.underlying t = some (.float k)) (h : DataW.trod enc P w base spare held fuel t [v] = some x) : ∃ b, v = .float k b ∧ x = (.lit (.float k b), []) ∧ (Lit.float k b).wf = true := by
  cases fuel with
  | zero => simp [DataW.trod] at h
  | succ n =>
    unfold DataW.trod at h
    rw [ht] at h
    cases v <;> simp at h
    rename_i k' b
    obtain ⟨⟨hk, hw⟩, hx⟩ := h
    subst hk
    exact ⟨b, rfl, hx.symm, hw⟩
def valD (k : Int) (n : Nat) (s : ByteArray) (r : Int) : DataW H := .agg [.lit (.int .i64 k), .lit (.float .f64 n), .lit (.string s.data.toList), .lit (.int .i64 r)]
set_option maxRecDepth 100000 in
theorem open_val {rr : Reach} {b0 : Nat} {v : Value} {d : DataW H} {p : List MemPlace} (hv : Value.okWide Tryd.prog w rr b0 31 v) (h : DataW.Trod enc Tryd.prog w base spare held 31 v d p) :
    ∃ (k : Int) (n : Nat) (s : ByteArray) (r : Int), v = .agg #[.int .i64 k, .float .f64 n, .string s, .int .i64 r] ∧ d = valD k n s r ∧ p = [] ∧ ((Lit.int .i64 k).wf = true ∧ (Lit.float .f64 n).wf = true ∧ s.size ≤ maxLen ∧ (Lit.int .i64 r).wf = true) := by
  obtain ⟨v0, v1, v2, v3, y0, y1, y2, y3, n, rfl, rfl, rfl, h0, h1, h2, h3⟩ := Go.Joins.open_agg4 Tryd.underlying31 (by kernel_rfl) (by kernel_rfl) hv h
  obtain ⟨k, e0, rfl, w0⟩ := DataW.trod_int Tryd.underlying3 h0
  obtain ⟨f, rfl, rfl, w1⟩ := trod_float Tryd.underlying29 h1
  obtain ⟨s, e2, rfl, w2⟩ := DataW.trod_string Tryd.underlying9 h2
  obtain ⟨r, e3, rfl, w3⟩ := DataW.trod_int Tryd.underlying3 h3
  cases e0
  cases e2
  cases e3
  exact ⟨k, f, s, r, rfl, rfl, rfl, w0, w1, w2, w3⟩
set_option maxRecDepth 100000 in
theorem shut_val {k : Int} {n : Nat} {s : ByteArray} {r : Int} (hw : (Lit.int .i64 k).wf = true ∧ (Lit.float .f64 n).wf = true ∧ s.size ≤ maxLen ∧ (Lit.int .i64 r).wf = true) : DataW.Trod enc Tryd.prog w base spare held 31 (.agg #[.int .i64 k, .float .f64 n, .string s, .int .i64 r]) (valD k n s r) [] := by
  obtain ⟨w0, w1, w2, w3⟩ := hw
  have t0 : DataW.Trod enc Tryd.prog w base spare held 3 (.int .i64 k) (.lit (.int .i64 k)) [] := shut_int Tryd.underlying3 w0
  have t1 : DataW.Trod enc Tryd.prog w base spare held 29 (.float .f64 n) (.lit (.float .f64 n)) [] := shut_float Tryd.underlying29 w1
  have t2 : DataW.Trod enc Tryd.prog w base spare held 9 (.string s) (.lit (.string s.data.toList)) [] := Go.ChangeMaps.shut_string Tryd.underlying9 w2
  have t3 : DataW.Trod enc Tryd.prog w base spare held 3 (.int .i64 r) (.lit (.int .i64 r)) [] := shut_int Tryd.underlying3 w3
  have := Go.Joins.shut_agg4 (enc := enc) (w := w) (base := base) (spare := spare) (held := held) (y0 := (.lit (.int .i64 k), [])) (y1 := (.lit (.float .f64 n), [])) (y2 := (.lit (.string s.data.toList), [])) (y3 := (.lit (.int .i64 r), [])) Tryd.underlying31 (by kernel_rfl) (by kernel_rfl) t0 t1 t2 t3
  exact this
end
end Go.Proofs.YtmhoebbdapjpeaaDoor
