
/- Closed facts of the program: methods, assertions, the entries of reflectlite. -/

import Derived.Test.YtfbnnofmplakjaaDoorRows

import Derived.WalkKit

import Derived.LaidEql

import Derived.Stop.Asserts

import Derived.RowKitTokens

import Derived.Defers

import Derived.Recover

namespace Go.Proofs.YtfbnnofmplakjaaDoor

open Go.RowKit Go.Extern.Stop Go.Stop Go.Extern

set_option linter.unusedVariables false

theorem me_N (v : Value) (w : World) : (Go.method 258 59 v "Error").run Tryd.prog w = .ok (73, v) w := by kernel_rfl
theorem me_O (v : Value) (w : World) : (Go.method 258 52 v "Error").run Tryd.prog w = .ok (71, v) w := by kernel_rfl
theorem me_P (v : Value) (w : World) : (Go.method 258 76 v "Error").run Tryd.prog w = .ok (84, v) w := by kernel_rfl
theorem me_S (v : Value) (w : World) : (Go.method 258 81 v "Error").run Tryd.prog w = .ok (86, v) w := by kernel_rfl
theorem me_E (v : Value) (w : World) : (Go.method 258 22 v "Error").run Tryd.prog w = .ok (70, v) w := by kernel_rfl
theorem mu_N (v : Value) (w : World) : (Go.method 258 59 v "Unwrap").run Tryd.prog w = .ok (74, v) w := by kernel_rfl
theorem mu_O (v : Value) (w : World) : (Go.method 258 52 v "Unwrap").run Tryd.prog w = .ok (72, v) w := by kernel_rfl
theorem mu_P (v : Value) (w : World) : (Go.method 258 76 v "Unwrap").run Tryd.prog w = .ok (85, v) w := by kernel_rfl
theorem la89_N (v : Value) (xT : TypeId) (w : World) : (Instr.typeAssert (.iface 59 v) xT 89 true).run Tryd.prog w = .ok (.tuple #[.nilIface, .bool false]) w := run_typeAssert_lacksB Tryd.underlying89 (by kernel_rfl) (by kernel_rfl) v xT w
theorem la94_N (v : Value) (xT : TypeId) (w : World) : (Instr.typeAssert (.iface 59 v) xT 94 true).run Tryd.prog w = .ok (.tuple #[.nilIface, .bool false]) w := run_typeAssert_lacksB Tryd.underlying94 (by kernel_rfl) (by kernel_rfl) v xT w
theorem la99_N (v : Value) (xT : TypeId) (w : World) : (Instr.typeAssert (.iface 59 v) xT 99 true).run Tryd.prog w = .ok (.tuple #[.nilIface, .bool false]) w := run_typeAssert_lacksB Tryd.underlying99 (by kernel_rfl) (by kernel_rfl) v xT w
theorem la92_N (v : Value) (xT : TypeId) (w : World) : (Instr.typeAssert (.iface 59 v) xT 92 true).run Tryd.prog w = .ok (.tuple #[.iface 59 v, .bool true]) w := run_typeAssert_hasB Tryd.underlying92 (by kernel_rfl) v xT w
theorem la89_O (v : Value) (xT : TypeId) (w : World) : (Instr.typeAssert (.iface 52 v) xT 89 true).run Tryd.prog w = .ok (.tuple #[.nilIface, .bool false]) w := run_typeAssert_lacksB Tryd.underlying89 (by kernel_rfl) (by kernel_rfl) v xT w
theorem la94_O (v : Value) (xT : TypeId) (w : World) : (Instr.typeAssert (.iface 52 v) xT 94 true).run Tryd.prog w = .ok (.tuple #[.nilIface, .bool false]) w := run_typeAssert_lacksB Tryd.underlying94 (by kernel_rfl) (by kernel_rfl) v xT w
theorem la99_O (v : Value) (xT : TypeId) (w : World) : (Instr.typeAssert (.iface 52 v) xT 99 true).run Tryd.prog w = .ok (.tuple #[.nilIface, .bool false]) w := run_typeAssert_lacksB Tryd.underlying99 (by kernel_rfl) (by kernel_rfl) v xT w
theorem la92_O (v : Value) (xT : TypeId) (w : World) : (Instr.typeAssert (.iface 52 v) xT 92 true).run Tryd.prog w = .ok (.tuple #[.iface 52 v, .bool true]) w := run_typeAssert_hasB Tryd.underlying92 (by kernel_rfl) v xT w
theorem la89_P (v : Value) (xT : TypeId) (w : World) : (Instr.typeAssert (.iface 76 v) xT 89 true).run Tryd.prog w = .ok (.tuple #[.nilIface, .bool false]) w := run_typeAssert_lacksB Tryd.underlying89 (by kernel_rfl) (by kernel_rfl) v xT w
theorem la94_P (v : Value) (xT : TypeId) (w : World) : (Instr.typeAssert (.iface 76 v) xT 94 true).run Tryd.prog w = .ok (.tuple #[.nilIface, .bool false]) w := run_typeAssert_lacksB Tryd.underlying94 (by kernel_rfl) (by kernel_rfl) v xT w
theorem la99_P (v : Value) (xT : TypeId) (w : World) : (Instr.typeAssert (.iface 76 v) xT 99 true).run Tryd.prog w = .ok (.tuple #[.nilIface, .bool false]) w := run_typeAssert_lacksB Tryd.underlying99 (by kernel_rfl) (by kernel_rfl) v xT w
theorem la92_P (v : Value) (xT : TypeId) (w : World) : (Instr.typeAssert (.iface 76 v) xT 92 true).run Tryd.prog w = .ok (.tuple #[.iface 76 v, .bool true]) w := run_typeAssert_hasB Tryd.underlying92 (by kernel_rfl) v xT w
theorem la89_S (v : Value) (xT : TypeId) (w : World) : (Instr.typeAssert (.iface 81 v) xT 89 true).run Tryd.prog w = .ok (.tuple #[.nilIface, .bool false]) w := run_typeAssert_lacksB Tryd.underlying89 (by kernel_rfl) (by kernel_rfl) v xT w
theorem la94_S (v : Value) (xT : TypeId) (w : World) : (Instr.typeAssert (.iface 81 v) xT 94 true).run Tryd.prog w = .ok (.tuple #[.nilIface, .bool false]) w := run_typeAssert_lacksB Tryd.underlying94 (by kernel_rfl) (by kernel_rfl) v xT w
theorem la99_S (v : Value) (xT : TypeId) (w : World) : (Instr.typeAssert (.iface 81 v) xT 99 true).run Tryd.prog w = .ok (.tuple #[.nilIface, .bool false]) w := run_typeAssert_lacksB Tryd.underlying99 (by kernel_rfl) (by kernel_rfl) v xT w
theorem la92_S (v : Value) (xT : TypeId) (w : World) : (Instr.typeAssert (.iface 81 v) xT 92 true).run Tryd.prog w = .ok (.tuple #[.nilIface, .bool false]) w := run_typeAssert_lacksB Tryd.underlying92 (by kernel_rfl) (by kernel_rfl) v xT w
theorem la89_E (v : Value) (xT : TypeId) (w : World) : (Instr.typeAssert (.iface 22 v) xT 89 true).run Tryd.prog w = .ok (.tuple #[.nilIface, .bool false]) w := run_typeAssert_lacksB Tryd.underlying89 (by kernel_rfl) (by kernel_rfl) v xT w
theorem la94_E (v : Value) (xT : TypeId) (w : World) : (Instr.typeAssert (.iface 22 v) xT 94 true).run Tryd.prog w = .ok (.tuple #[.nilIface, .bool false]) w := run_typeAssert_lacksB Tryd.underlying94 (by kernel_rfl) (by kernel_rfl) v xT w
theorem la99_E (v : Value) (xT : TypeId) (w : World) : (Instr.typeAssert (.iface 22 v) xT 99 true).run Tryd.prog w = .ok (.tuple #[.nilIface, .bool false]) w := run_typeAssert_lacksB Tryd.underlying99 (by kernel_rfl) (by kernel_rfl) v xT w
theorem la92_E (v : Value) (xT : TypeId) (w : World) : (Instr.typeAssert (.iface 22 v) xT 92 true).run Tryd.prog w = .ok (.tuple #[.nilIface, .bool false]) w := run_typeAssert_lacksB Tryd.underlying92 (by kernel_rfl) (by kernel_rfl) v xT w
theorem asN_N (v : Value) (xT : TypeId) (w : World) : (Instr.typeAssert (.iface 59 v) xT 59 true).run Tryd.prog w = .ok (.tuple #[v, .bool true]) w := by kernel_rfl
theorem asP_N (v : Value) (xT : TypeId) (w : World) : (Instr.typeAssert (.iface 59 v) xT 76 true).run Tryd.prog w = .ok (.tuple #[.pointer none, .bool false]) w := by kernel_rfl
theorem asN_O (v : Value) (xT : TypeId) (w : World) : (Instr.typeAssert (.iface 52 v) xT 59 true).run Tryd.prog w = .ok (.tuple #[.pointer none, .bool false]) w := by kernel_rfl
theorem asP_O (v : Value) (xT : TypeId) (w : World) : (Instr.typeAssert (.iface 52 v) xT 76 true).run Tryd.prog w = .ok (.tuple #[.pointer none, .bool false]) w := by kernel_rfl
theorem asN_P (v : Value) (xT : TypeId) (w : World) : (Instr.typeAssert (.iface 76 v) xT 59 true).run Tryd.prog w = .ok (.tuple #[.pointer none, .bool false]) w := by kernel_rfl
theorem asP_P (v : Value) (xT : TypeId) (w : World) : (Instr.typeAssert (.iface 76 v) xT 76 true).run Tryd.prog w = .ok (.tuple #[v, .bool true]) w := by kernel_rfl
theorem asN_S (v : Value) (xT : TypeId) (w : World) : (Instr.typeAssert (.iface 81 v) xT 59 true).run Tryd.prog w = .ok (.tuple #[.pointer none, .bool false]) w := by kernel_rfl
theorem asP_S (v : Value) (xT : TypeId) (w : World) : (Instr.typeAssert (.iface 81 v) xT 76 true).run Tryd.prog w = .ok (.tuple #[.pointer none, .bool false]) w := by kernel_rfl
theorem asN_E (v : Value) (xT : TypeId) (w : World) : (Instr.typeAssert (.iface 22 v) xT 59 true).run Tryd.prog w = .ok (.tuple #[.pointer none, .bool false]) w := by kernel_rfl
theorem asP_E (v : Value) (xT : TypeId) (w : World) : (Instr.typeAssert (.iface 22 v) xT 76 true).run Tryd.prog w = .ok (.tuple #[.pointer none, .bool false]) w := by kernel_rfl
theorem ty_N (v : Value) (w : World) : (Extern.ReflectliteType.typeOf #[.iface 59 v]).run Tryd.prog w = .ok (.iface 87 (.agg #[.pointer (some ⟨4, 59, none⟩)])) w := by kernel_rfl
theorem ty_O (v : Value) (w : World) : (Extern.ReflectliteType.typeOf #[.iface 52 v]).run Tryd.prog w = .ok (.iface 87 (.agg #[.pointer (some ⟨4, 52, none⟩)])) w := by kernel_rfl
theorem ty_P (v : Value) (w : World) : (Extern.ReflectliteType.typeOf #[.iface 76 v]).run Tryd.prog w = .ok (.iface 87 (.agg #[.pointer (some ⟨4, 76, none⟩)])) w := by kernel_rfl
theorem ty_S (v : Value) (w : World) : (Extern.ReflectliteType.typeOf #[.iface 81 v]).run Tryd.prog w = .ok (.iface 87 (.agg #[.pointer (some ⟨4, 81, none⟩)])) w := by kernel_rfl
theorem ty_E (v : Value) (w : World) : (Extern.ReflectliteType.typeOf #[.iface 22 v]).run Tryd.prog w = .ok (.iface 87 (.agg #[.pointer (some ⟨4, 22, none⟩)])) w := by kernel_rfl
end Go.Proofs.YtfbnnofmplakjaaDoor
