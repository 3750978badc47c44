/- Transcoders that come in as arguments. -/
import Derived.Test.YtcigofjajphmjaaMs
import Derived.Test.YtcigofjajphmjaaProg
import Derived.WalkKit
import Derived.ProofKit
import Derived.OpenShut
import Derived.ChangeOld
import Derived.Lib.SmallJoins
import Derived.Deep.Strs
namespace Go.Proofs.Ytcigofjajphmjaa
open Go.ChangeShapes Go.WideShapes Go.ChangeAt Go.RowKit Go.Joins Go.Deep
set_option linter.unusedVariables false
set_option linter.unusedSimpArgs false
set_option maxRecDepth 100000

section
variable {H : Type} {enc : TypeId × Value → H} {W : World}
theorem trod_number {fuel : Nat} {v : Value} {x : DataW H × List MemPlace} (h : DataW.trod enc Try.prog W 0 (fun _ => true) true fuel 3 [v] = some x) : ∃ b, v = .int .i64 b := by
  obtain ⟨b, h, _⟩ := DataW.trod_int Try.underlying3 h
  exact ⟨b, by simpa using h⟩
end
end Go.Proofs.Ytcigofjajphmjaa
