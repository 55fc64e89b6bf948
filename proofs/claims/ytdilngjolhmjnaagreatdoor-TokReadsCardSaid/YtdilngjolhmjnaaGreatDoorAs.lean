/- errors.As of a fault, at the two targets of api.Tell. Conditions: those that each theorem names. -/
import Derived.Test.YtdilngjolhmjnaaGreatDoorB9
import Derived.LaidEql
import Derived.Stop.Asserts
import Derived.RowKitTokens
namespace Go.Proofs.YtdilngjolhmjnaaGreatDoor
open Go.RowKit Go.Extern.Stop Go.Stop Go.Extern
set_option linter.all false

theorem as_nil (t : Value) (w : World) : Calls Tryz.prog 29 #[.nilIface, t] w fun e w' => e = .returned (.bool false) ∧ w' = w := by
  go_enter Tryz.func29, Tryz.ntmps29
  go_wp2
  go_ret
  exact ⟨rfl, rfl⟩

/-- The look at a target: a pointer to a variable of type E, at address t. -/
abbrev rv (T : Nat) (a : Addr) : Value := .agg #[.pointer (some ⟨12, T, none⟩), .pointer (some a), .int .u64 150]
abbrev rt (T : Nat) : Value := .iface 108 (.agg #[.pointer (some ⟨12, T, none⟩)])
theorem valueOf69 (t : Addr) (w : World) : (ReflectliteValue.unpack (.iface 69 (.pointer (some t)))).run Tryz.prog w = .ok (rv 69 ⟨w.heap.size, 0, none⟩) (w.alloc (.cells #[.pointer (some t)] 69)) := by kernel_rfl
theorem valueOf72 (t : Addr) (w : World) : (ReflectliteValue.unpack (.iface 72 (.pointer (some t)))).run Tryz.prog w = .ok (rv 72 ⟨w.heap.size, 0, none⟩) (w.alloc (.cells #[.pointer (some t)] 72)) := by kernel_rfl
theorem type69 (a : Addr) (w : World) : (ReflectliteValue.methodAny (ReflectliteValue.valueError "reflectlite.Value.Type" 0) (fun t _ _ _ => ReflectliteType.toType t) #[rv 69 a]).run Tryz.prog w = .ok (rt 69) w := by kernel_rfl
theorem type72 (a : Addr) (w : World) : (ReflectliteValue.methodAny (ReflectliteValue.valueError "reflectlite.Value.Type" 0) (fun t _ _ _ => ReflectliteType.toType t) #[rv 72 a]).run Tryz.prog w = .ok (rt 72) w := by kernel_rfl
theorem kind69 (w : World) : ((ReflectliteType.abiMethod fun t => (fun a : Nat => Value.int IntKind.u8 (a : Int)) <$> Rtype.kind t) #[.pointer (some ⟨12, 69, none⟩)]).run Tryz.prog w = .ok (.int .u8 22) w := by kernel_rfl
theorem kind72 (w : World) : ((ReflectliteType.abiMethod fun t => (fun a : Nat => Value.int IntKind.u8 (a : Int)) <$> Rtype.kind t) #[.pointer (some ⟨12, 72, none⟩)]).run Tryz.prog w = .ok (.int .u8 22) w := by kernel_rfl
theorem kind45 (w : World) : ((ReflectliteType.abiMethod fun t => (fun a : Nat => Value.int IntKind.u8 (a : Int)) <$> Rtype.kind t) #[.pointer (some ⟨12, 45, none⟩)]).run Tryz.prog w = .ok (.int .u8 22) w := by kernel_rfl
theorem kind32 (w : World) : ((ReflectliteType.abiMethod fun t => (fun a : Nat => Value.int IntKind.u8 (a : Int)) <$> Rtype.kind t) #[.pointer (some ⟨12, 32, none⟩)]).run Tryz.prog w = .ok (.int .u8 2) w := by kernel_rfl
theorem rlm (z : Sem Value) (f : TypeId → Addr → Nat → Nat → Sem Value) (v : Value) : ReflectliteValue.method z f #[v] = (do match ← ReflectliteValue.parts v with | none => z | some (t, a, fl) => f t a fl (fl % 32)) := rfl
theorem parts69 (a : Addr) (w : World) : (ReflectliteValue.parts (rv 69 a)).run Tryz.prog w = .ok (some (69, a, 150)) w := by kernel_rfl
theorem parts72 (a : Addr) (w : World) : (ReflectliteValue.parts (rv 72 a)).run Tryz.prog w = .ok (some (72, a, 150)) w := by kernel_rfl
theorem isNil69 (a p : Addr) (W : World) (ha : W.cell? a = some (.pointer (some p))) : (ReflectliteValue.method (ReflectliteValue.valueError "reflectlite.Value.IsNil" 0) ReflectliteValue.isNil #[rv 69 a]).run Tryz.prog W = .ok (.bool false) W := by
  rw [rlm]
  simp only [Sem.run_bind, parts69, Result.andThen]
  simp [ReflectliteValue.isNil, loadVar, isAgg, underlying, Tryz.underlying69, ha, Result.andThen]
theorem isNil72 (a p : Addr) (W : World) (ha : W.cell? a = some (.pointer (some p))) : (ReflectliteValue.method (ReflectliteValue.valueError "reflectlite.Value.IsNil" 0) ReflectliteValue.isNil #[rv 72 a]).run Tryz.prog W = .ok (.bool false) W := by
  rw [rlm]
  simp only [Sem.run_bind, parts72, Result.andThen]
  simp [ReflectliteValue.isNil, loadVar, isAgg, underlying, Tryz.underlying72, ha, Result.andThen]
theorem elem69 (w : World) : (ReflectliteType.method ReflectliteType.elem #[.agg #[.pointer (some ⟨12, 69, none⟩)]]).run Tryz.prog w = .ok (rt 45) w := by kernel_rfl
theorem elem72 (w : World) : (ReflectliteType.method ReflectliteType.elem #[.agg #[.pointer (some ⟨12, 72, none⟩)]]).run Tryz.prog w = .ok (rt 32) w := by kernel_rfl
theorem implements45 (w : World) : (ReflectliteType.relation "Implements" ReflectliteType.implements_ #[.agg #[.pointer (some ⟨12, 45, none⟩)], rt 25]).run Tryz.prog w = .ok (.bool true) w := by kernel_rfl
theorem implements32 (w : World) : (ReflectliteType.relation "Implements" ReflectliteType.implements_ #[.agg #[.pointer (some ⟨12, 32, none⟩)], rt 25]).run Tryz.prog w = .ok (.bool true) w := by kernel_rfl
theorem typeOf45 (v : Value) (w : World) : (ReflectliteType.typeOf #[.iface 45 v]).run Tryz.prog w = .ok (rt 45) w := by kernel_rfl
theorem typeOf32 (v : Value) (w : World) : (ReflectliteType.typeOf #[.iface 32 v]).run Tryz.prog w = .ok (rt 32) w := by kernel_rfl
theorem assignable45 (w : World) : (ReflectliteType.relation "AssignableTo" ReflectliteType.assignableTo #[.agg #[.pointer (some ⟨12, 45, none⟩)], rt 45]).run Tryz.prog w = .ok (.bool true) w := by kernel_rfl
theorem assignable32 (w : World) : (ReflectliteType.relation "AssignableTo" ReflectliteType.assignableTo #[.agg #[.pointer (some ⟨12, 32, none⟩)], rt 32]).run Tryz.prog w = .ok (.bool true) w := by kernel_rfl
theorem assignable4532 (w : World) : (ReflectliteType.relation "AssignableTo" ReflectliteType.assignableTo #[.agg #[.pointer (some ⟨12, 45, none⟩)], rt 32]).run Tryz.prog w = .ok (.bool false) w := by kernel_rfl
theorem valueOf45 (e : Addr) (w : World) : (ReflectliteValue.unpack (.iface 45 (.pointer (some e)))).run Tryz.prog w = .ok (rv 45 ⟨w.heap.size, 0, none⟩) (w.alloc (.cells #[.pointer (some e)] 45)) := by kernel_rfl
theorem valueOf32 (n : Int) (w : World) : (ReflectliteValue.unpack (.iface 32 (.int .i64 n))).run Tryz.prog w = .ok (.agg #[.pointer (some ⟨12, 32, none⟩), .pointer (some ⟨w.heap.size, 0, none⟩), .int .u64 130]) (w.alloc (.cells #[.int .i64 n] 32)) := by kernel_rfl
end Go.Proofs.YtdilngjolhmjnaaGreatDoor
