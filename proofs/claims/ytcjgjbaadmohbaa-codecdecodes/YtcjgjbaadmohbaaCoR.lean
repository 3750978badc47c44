/- The walk of CodecModes. -/
import Derived.Test.YtcjgjbaadmohbaaCoO
import Derived.Test.YtcjgjbaadmohbaaCoQ
namespace Go.Proofs.Ytcjgjbaadmohbaa
open Go.RowKit
set_option linter.unusedVariables false
set_option linter.unusedSimpArgs false
set_option maxRecDepth 100000

theorem decode_zero {w : World} {c k m : Int} {so : Option Addr} {cap : Nat} {l : List UInt8} (hb : Rb w so l) (h : (decS c k m l).2 = (0, 0)) : Calls Try.prog 7 #[.agg #[.int .i64 c, .int .i64 k, .int .i64 m], .slice so l.length cap] w fun e w' => e = .returned (.tuple #[.string ⟨(decS c k m l).1.toArray⟩, .int .i64 0, .int .i64 0]) ∧ Below w.heap.size w w' := by
  have h1 := decode_any (c := c) (k := k) (m := m) (cap := cap) hb rfl
  rw [h] at h1
  exact h1
theorem encode_zero {w : World} {c k m : Int} {s : ByteArray} (h : (encS c k m s).2 = (0, 0)) : Calls Try.prog 12 #[.agg #[.int .i64 c, .int .i64 k, .int .i64 m], .string s] w fun e w' => ∃ v, e = .returned (.tuple #[v, .int .i64 0, .int .i64 0]) ∧ (encS c k m s).1.length ≤ 100000000 ∧ Mg w w' [.row BY 1 v (encS c k m s).1.length (Lib.byteCells (encS c k m s).1)] := by
  have h1 := encode_any (w := w) (c := c) (k := k) (m := m) (s := s) rfl
  rw [h] at h1
  exact h1
theorem bin_eqlT {P : Program} {t : TypeId} {x y : Operand} {a b : ByteArray} (hu : P.underlying t = some .string) (h : a = b) : ∀ w, (do eqGuard .eql t x y (.string a) (.string b); binOp .eql t (.string a) (.string b) : Sem Value).run P w = .ok (.bool true) w := fun w => by
  subst h
  simp [go_sem, hu, run_underlying hu]
theorem same_eq {w0 w : World} {L : List Ck} (hM : Mg w0 w L) (i j : Nat) {v v' : Value} {n n' : Nat} {xs ys : List UInt8} (hi : L[i]? = some (.row BY 1 v n (Lib.byteCells xs))) (hj : L[j]? = some (.row BY 1 v' n' (Lib.byteCells ys))) (hl : xs.length ≤ 1000000000) (h : xs = ys) : Calls Try.prog 14 #[v, v'] w fun e w' => e = .returned (.bool true) ∧ Below w.heap.size w w' := by
  have h1 := same_own hM i j hi hj hl
  rw [decide_eq_true h] at h1
  exact h1
end Go.Proofs.Ytcjgjbaadmohbaa
