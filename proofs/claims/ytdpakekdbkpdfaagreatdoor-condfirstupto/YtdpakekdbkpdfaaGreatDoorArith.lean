/- What each operation on whole numbers of the machine answers, for any kind and any numbers: the answer is named, and told by an equation. -/
import Derived.Laws.Entries
import Derived.WalkKit
namespace Go.Proofs.YtdpakekdbkpdfaaGreatDoor
open Go.RowKit
set_option linter.unusedVariables false
set_option linter.unusedSimpArgs false
section
variable {P : Program} {t : TypeId} {x y : Operand} {k k' : IntKind} {a b z : Int}
theorem ar_add (h : k.wrap (a + b) = z) : ∀ w, (do eqGuard .add t x y (.int k a) (.int k b); binOp .add t (.int k a) (.int k b) : Sem Value).run P w = .ok (.int k z) w := fun w => by simp [go_sem, h]
theorem ar_sub (h : k.wrap (a - b) = z) : ∀ w, (do eqGuard .sub t x y (.int k a) (.int k b); binOp .sub t (.int k a) (.int k b) : Sem Value).run P w = .ok (.int k z) w := fun w => by simp [go_sem, h]
end
theorem in_i64 {a : Int} (h0 : -9223372036854775808 ≤ a) (h1 : a ≤ 9223372036854775807) : IntKind.i64.wrap a = a := by rw [IntKind.wrap_i64]; omega
theorem in_i32 {a : Int} (h0 : -2147483648 ≤ a) (h1 : a ≤ 2147483647) : IntKind.i32.wrap a = a := by rw [IntKind.wrap_i32]; omega
end Go.Proofs.YtdpakekdbkpdfaaGreatDoor
