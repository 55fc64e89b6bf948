/- Layer 8: the law HeapIndexes, at a number as an argument is one. Conditions: the tables that Key reads. -/
import Derived.Test.YtmndmnajgfabnaaDoorIh
import Derived.Test.YtmndmnajgfabnaaDoorLv
namespace Go.Proofs.YtmndmnajgfabnaaDoor
open Go.RowKit Go.Maps Go.Shelf
set_option linter.all false

theorem law_indexesW (N' : Nat) (k : List UInt8) (hk : k.length ≤ 140737488355328) (n : Int) (hn : (Lit.int .i64 n).wf = true) (w : World) (hT : Tb N' w) :
    Calls Tryd.prog 3 #[.string (bs k), .int .i64 n] w fun e w' => e = .returned (.bool true) ∧ Below w.heap.size w w' := by
  have h : -9223372036854775808 ≤ n ∧ n ≤ 9223372036854775807 := by
    simp [Lit.wf, IntKind.min, IntKind.max, IntKind.signed, IntKind.bits] at hn
    omega
  exact law_indexes N' k hk n h.1 h.2 w hT
end Go.Proofs.YtmndmnajgfabnaaDoor
