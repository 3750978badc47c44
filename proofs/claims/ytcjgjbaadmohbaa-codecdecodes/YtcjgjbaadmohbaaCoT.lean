/- The walk of CodecBack. -/
import Derived.Test.YtcjgjbaadmohbaaCoR
import Derived.Test.YtcjgjbaadmohbaaCoS
namespace Go.Proofs.Ytcjgjbaadmohbaa
open Go.RowKit
set_option linter.unusedVariables false
set_option linter.unusedSimpArgs false
set_option maxRecDepth 100000

theorem decode_back {w : World} {c k m : Int} {so : Option Addr} {cap : Nat} {l : List UInt8} {s : ByteArray} (hb : Rb w so l) (h : decS c k m l = (s.data.toList, 0, 0)) : Calls Try.prog 7 #[.agg #[.int .i64 c, .int .i64 k, .int .i64 m], .slice so l.length cap] w fun e w' => e = .returned (.tuple #[.string s, .int .i64 0, .int .i64 0]) ∧ Below w.heap.size w w' := by
  have h1 := decode_any (c := c) (k := k) (m := m) (cap := cap) hb rfl
  rw [h, show (⟨(s.data.toList, (0 : Int), (0 : Int)).1.toArray⟩ : ByteArray) = s from by simp] at h1
  exact h1
def goodK (k : Int) (l : List Int) : Prop := k ≠ 0 → ∀ r ∈ l, r ≠ 13 ∧ r ≠ 133 ∧ r ≠ 8232
def headK (c : Int) (l : List Int) : Prop := c = 3 → ∀ r, l.head? = some r → r ≠ 65279 ∧ r ≠ 65534
theorem good_step {k : Int} {s : ByteArray} {p r q : Nat} (h : p < s.size) (e : Utf8.decode s p = (r, q)) (hk : k ≠ 0 → (r : Int) ≠ 13 ∧ (r : Int) ≠ 133 ∧ (r : Int) ≠ 8232) (g : goodK k (charsR s (p + q))) : goodK k (charsR s p) := by
  intro h0 x hx
  rw [charsR_step h e] at hx
  rcases List.mem_cons.1 hx with rfl | hx
  · exact hk h0
  · exact g h0 x hx
theorem head_first {c : Int} {s : ByteArray} {p r q : Nat} (hp : p = 0) (h : p < s.size) (e : Utf8.decode s p = (r, q)) (hk : c = 3 → (r : Int) ≠ 65279 ∧ (r : Int) ≠ 65534) : headK c (charsL s.data.toList) := by
  subst hp
  intro h3 x hx
  rw [← charsR_zero, charsR_step h e] at hx
  cases hx
  exact hk h3
theorem good_end {k : Int} {s : ByteArray} {p : Nat} (h : ¬ p < s.size) : goodK k (charsR s p) := by
  rw [charsR_over h]
  intro _ r hr
  cases hr
theorem head_end {c : Int} {s : ByteArray} {p : Nat} {fb : Bool} (h : ¬ p < s.size) (h1 : fb = true → p = 0) (h2 : fb = false → headK c (charsL s.data.toList)) : headK c (charsL s.data.toList) := by
  cases fb with
  | false => exact h2 rfl
  | true =>
    obtain rfl := h1 rfl
    intro _ r hr
    rw [← charsR_zero, charsR_over h] at hr
    cases hr
end Go.Proofs.Ytcjgjbaadmohbaa
