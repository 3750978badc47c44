/- NatD -/
import Derived.Test.YtgjohjfehgdgbaaGreatDoorNatC
namespace Go.Proofs.YtgjohjfehgdgbaaGreatDoor
open Go.RowKit
set_option linter.unusedVariables false
set_option linter.unusedSimpArgs false

theorem carry_step(P s:Nat):P*(s%4294967296)+4294967296*P*(s / 4294967296)=P*s:=by
  have h:=Nat.mod_add_div s 4294967296;have e:4294967296*P*(s / 4294967296)=P*(4294967296*(s / 4294967296)):=by
    rw[Nat.mul_comm 4294967296 P,Nat.mul_assoc]
  rw[e,←Nat.mul_add,h]
end Go.Proofs.YtgjohjfehgdgbaaGreatDoor
