/- NatY -/
import Derived.Test.YtgjohjfehgdgbaaGreatDoorNatX
namespace Go.Proofs.YtgjohjfehgdgbaaGreatDoor
open Go.RowKit
set_option linter.unusedVariables false
set_option linter.unusedSimpArgs false

theorem divide_any{w:World}{ao bo:Option Addr}{x y:Nat}(ca cb:Nat)(ha:Rd w ao (words x))(hb:Rd w bo (words y))(hx:(words x).length≤90000)(hy:(words y).length≤90000)(hnil:ao=none→ca=0)(hy0:y≠0):
    Calls Tryz.prog 143 #[.slice ao (words x).length ca,.slice bo (words y).length cb] w (Row2 w (words (x / y)) (words (x%y))):=by
  by_cases hxy:x<y
  · exact divide_less ca cb ha hb hx hy hnil hxy
  · by_cases h1:(words y).length=1
    · exact divide_word ca cb ha hb hx h1 hnil hxy
    · refine divide_long ca cb ha hb hx ?_ hxy;have:(words y).length≠0:=fun e=>hy0 (words_eq_nil.1 (List.length_eq_zero_iff.1 e));omega

def Ans3(w:World)(r:List Nat×List Nat×Int)(e:Ending)(w':World):Prop:=
  ∃qo qc ro rc,e=.returned (.tuple #[.slice qo r.1.length qc,.slice ro r.2.1.length rc,.int .i64 r.2.2])∧Own w.heap.size w' qo qc r.1∧Own w.heap.size w' ro rc r.2.1∧Below w.heap.size w w'
theorem Ans3.none(w:World)(k:Int):Ans3 w ([],[],k) (.returned (.tuple #[.slice .none 0 0,.slice .none 0 0,.int .i64 k])) w:=
  ⟨.none,0,.none,0,rfl,Own.nil _ _,Own.nil _ _,Below.refl _ _⟩

end Go.Proofs.YtgjohjfehgdgbaaGreatDoor
