/- Arith -/
import Derived.Laws.Entries
import Derived.WalkKit
set_option linter.unusedVariables false
set_option linter.unusedSimpArgs false
set_option maxHeartbeats 1000000
namespace Go.Proofs.YtgjohjfehgdgbaaGreatDoor
open Go.RowKit
section
variable {P:Program} {t:TypeId} {x y:Operand} {k k':IntKind} {a b z:Int}
theorem ar_add(h:k.wrap (a+b)=z):∀w,(do eqGuard .add t x y (.int k a) (.int k b); binOp .add t (.int k a) (.int k b):Sem Value).run P w=.ok (.int k z) w:=fun w=>by simp[go_sem,h]
theorem ar_sub(h:k.wrap (a-b)=z):∀w,(do eqGuard .sub t x y (.int k a) (.int k b); binOp .sub t (.int k a) (.int k b):Sem Value).run P w=.ok (.int k z) w:=fun w=>by simp[go_sem,h]
theorem ar_quo(hb:b≠0)(h:k.wrap (a.tdiv b)=z):∀w,(do eqGuard .quo t x y (.int k a) (.int k b); binOp .quo t (.int k a) (.int k b):Sem Value).run P w=.ok (.int k z) w:=fun w=>by simp[go_sem,h,hb]
theorem ar_and(h:bits .and k a b=z):∀w,(do eqGuard .and t x y (.int k a) (.int k b); binOp .and t (.int k a) (.int k b):Sem Value).run P w=.ok (.int k z) w:=fun w=>by simp[go_sem,h]
theorem ar_or(h:bits .or k a b=z):∀w,(do eqGuard .or t x y (.int k a) (.int k b); binOp .or t (.int k a) (.int k b):Sem Value).run P w=.ok (.int k z) w:=fun w=>by simp[go_sem,h]
theorem ar_shl{n:Nat}(hn:b=(n:Nat))(hle:Nat.ble n k.bits=true)(h:k.wrap (a*2^n)=z):∀w,(do eqGuard .shl t x y (.int k a) (.int k' b); binOp .shl t (.int k a) (.int k' b):Sem Value).run P w=.ok (.int k z) w:=fun w=>by
  subst hn;have h0:¬((n:Nat):Int)<0:=by omega
  have h1:min n k.bits=n:=Nat.min_eq_left (Nat.le_of_ble_eq_true hle);cases k<;>(simp only[IntKind.bits]at h1; simp[go_sem,h0,h1,h])
theorem ar_shr{n:Nat}(hn:b=(n:Nat))(hle:Nat.ble n k.bits=true)(h:a / 2^n=z):∀w,(do eqGuard .shr t x y (.int k a) (.int k' b); binOp .shr t (.int k a) (.int k' b):Sem Value).run P w=.ok (.int k z) w:=fun w=>by
  subst hn;have h0:¬((n:Nat):Int)<0:=by omega
  have h1:min n k.bits=n:=Nat.min_eq_left (Nat.le_of_ble_eq_true hle);cases k<;>(simp only[IntKind.bits]at h1; simp[go_sem,h0,h1,h])
theorem ar_neg(h:k.wrap (-a)=z):∀w,(Op.unary .neg (.int k a)).run P w=.ok (.int k z) w:=fun w=>by simp[go_sem,h]
theorem ar_conv{s d:TypeId}(hs:P.underlying s=some (.int k))(hd:P.underlying d=some (.int k'))(h:k'.wrap a=z):∀w,(convert s d (.int k a)).run P w=.ok (.int k' z) w:=fun w=>by
  simp[convert,run_underlying hs,run_underlying hd,go_sem,h]
end
theorem in_i64{a:Int}(h0:-9223372036854775808≤a)(h1:a≤9223372036854775807):IntKind.i64.wrap a=a:=by rw[IntKind.wrap_i64]; omega
theorem in_i32{a:Int}(h0:-2147483648≤a)(h1:a≤2147483647):IntKind.i32.wrap a=a:=by rw[IntKind.wrap_i32]; omega
theorem in_u8{a:Int}(h0:0≤a)(h1:a≤255):IntKind.u8.wrap a=a:=by rw[IntKind.wrap_u8]; omega
end Go.Proofs.YtgjohjfehgdgbaaGreatDoor
