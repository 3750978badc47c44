/- The walk of CodecPlaces. -/
import Derived.Test.YtcjgjbaadmohbaaCoL
import Derived.Test.YtcjgjbaadmohbaaCoN
import Derived.Test.YtcjgjbaadmohbaaArgB
namespace Go.Proofs.Ytcjgjbaadmohbaa
open Go.RowKit
set_option linter.unusedVariables false
set_option linter.unusedSimpArgs false
set_option maxRecDepth 100000

theorem decode_take {w : World} {c k m : Int} {so : Option Addr} {cap n : Nat} {l : List UInt8} (hb : Rb w so l) (hn : n ≤ l.length) : Calls Try.prog 7 #[.agg #[.int .i64 c, .int .i64 k, .int .i64 m], .slice so n cap] w fun e w' => e = .returned (.tuple #[.string ⟨(decS c k m (l.take n)).1.toArray⟩, .int .i64 (decS c k m (l.take n)).2.1, .int .i64 (decS c k m (l.take n)).2.2]) ∧ Below w.heap.size w w' := by
  have h := decode_any (c := c) (k := k) (m := m) (cap := cap) (hb.take n) rfl
  rw [List.length_take, Nat.min_eq_left hn] at h
  exact h
end Go.Proofs.Ytcjgjbaadmohbaa
