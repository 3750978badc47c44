/- Text -/
import Derived.Lib.RuneBytes
import Derived.Lib.TrimUEq
namespace Go.Proofs.YtmnlfahgklnpeaaGreatDoor
open Go.Lib
set_option linter.unusedVariables false

def ValidR(r:Int):Prop:=0≤r∧r≤1114111∧¬(55296≤r∧r≤57343)

theorem encodeRune_len(r:Int):1≤(encodeRune r).length∧(encodeRune r).length≤4:=by
  have:=encodeRuneZ_length r;simpa[encodeRune]using this
