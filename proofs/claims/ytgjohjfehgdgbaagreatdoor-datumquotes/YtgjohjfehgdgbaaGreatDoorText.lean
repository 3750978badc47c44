/- Text -/
import Derived.Lib.RuneBytes
import Derived.Lib.TrimUEq
namespace Go.Proofs.YtgjohjfehgdgbaaGreatDoor
open Go.Lib
set_option linter.unusedVariables false

def ValidR(r:Int):Prop:=0≤r∧r≤1114111∧¬(55296≤r∧r≤57343)

end Go.Proofs.YtgjohjfehgdgbaaGreatDoor
