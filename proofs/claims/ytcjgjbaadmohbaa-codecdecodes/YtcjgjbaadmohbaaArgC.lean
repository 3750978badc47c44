/- Transcoders that come in as arguments. -/
import Derived.Test.YtcjgjbaadmohbaaMs
import Derived.WalkKit
import Derived.ProofKit
import Derived.OpenShut
import Derived.ChangeOld
import Derived.Lib.SmallJoins
import Derived.Deep.Strs
namespace Go.Proofs.Ytcjgjbaadmohbaa
open Go.ChangeShapes Go.WideShapes Go.ChangeAt Go.RowKit Go.Joins Go.Deep
set_option linter.unusedVariables false
set_option linter.unusedSimpArgs false
set_option maxRecDepth 100000

section
variable {H : Type} {enc : TypeId × Value → H} {W : World}
theorem trod_number {fuel : Nat} {v : Value} {x : DataW H × List MemPlace} (h : DataW.trod enc Try.prog W 0 (fun _ => true) true fuel 3 [v] = some x) : ∃ b, v = .int .i64 b := by
  obtain ⟨b, h, _⟩ := DataW.trod_int Try.underlying3 h
  exact ⟨b, by simpa using h⟩
theorem open_coder {base : Nat} {v : Value} {d : DataW H} {p : List MemPlace} (hv : Value.okWide Try.prog W .any base 23 v) (h : DataW.Trod enc Try.prog W 0 (fun _ => true) true 23 v d p) :
    ∃ c k m, v = .agg #[.int .i64 c, .int .i64 k, .int .i64 m] := by
  obtain ⟨cs, rfl, hsz⟩ := okWide_struct Try.underlying23 hv
  rw [show Try.prog.cellsOf 23 = 3 from by kernel_rfl] at hsz
  obtain ⟨cs⟩ := cs
  match cs, hsz with
  | [v0, v1, v2], _ =>
    obtain ⟨fuel, hf⟩ := h
    obtain ⟨y0, y1, y2, n, _, _, h0, h1, h2⟩ := trod_struct3 Try.underlying23 hf
    have e : Try.prog.cellsOf 3 = 1 := by kernel_rfl
    simp only [Value.cells, e, List.drop_zero, List.take_succ_cons, List.take_zero, List.drop_succ_cons] at h0 h1 h2
    obtain ⟨c, rfl⟩ := trod_number h0
    obtain ⟨k, rfl⟩ := trod_number h1
    obtain ⟨m, rfl⟩ := trod_number h2
    exact ⟨c, k, m, rfl⟩
end
end Go.Proofs.Ytcjgjbaadmohbaa
