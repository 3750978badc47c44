/- NatE -/
import Derived.Test.YtclkfideaameoaaGreatDoorNatD
namespace Go.Proofs.YtclkfideaameoaaGreatDoor
open Go.RowKit
set_option linter.unusedVariables false
set_option linter.unusedSimpArgs false

def Row1 (w : World) (l : List Nat) (e : Ending) (w' : World) : Prop :=
  ∃ ro rc, e = .returned (.slice ro l.length rc) ∧ Own w.heap.size w' ro rc l ∧ Below w.heap.size w w'
def Ans (w : World) (r : List Nat × Int) (e : Ending) (w' : World) : Prop :=
  ∃ ro rc, e = .returned (.tuple #[.slice ro r.1.length rc, .int .i64 r.2]) ∧ Own w.heap.size w' ro rc r.1 ∧ Below w.heap.size w w'
theorem Ans.intro {w : World} {l : List Nat} {k : Int} {w' : World} {ro : Option Addr} {rc : Nat} (ho : Own w.heap.size w' ro rc l) (hb : Below w.heap.size w w') :
    Ans w (l, k) (.returned (.tuple #[.slice ro l.length rc, .int .i64 k])) w' := ⟨ro, rc, rfl, ho, hb⟩

def fitS (n : Nat) : List Nat × Int := if (words n).length ≤ 512 then (words n, 0) else ([], 4)
theorem sound_words {l : List Nat} (hd : Dig l) (h : sound l = true) : l = words (val l) ∧ l.length ≤ 512 := by
  obtain ⟨h1, h2⟩ := (sound_iff l).1 h
  exact ⟨(words_of hd h2).symm, h1⟩
theorem words_add_length {x y k : Nat} (hx : (words x).length ≤ k) (hy : (words y).length ≤ k) : (words (x + y)).length ≤ k + 1 := by
  apply words_length_le
  have := words_length_iff.1 hx
  have := words_length_iff.1 hy
  have e : pw (k + 1) = 4294967296 * pw k := pw_succ k
  omega
theorem words_mul_length {x y k m : Nat} (hx : (words x).length ≤ k) (hy : (words y).length ≤ m) : (words (x * y)).length ≤ k + m := by
  apply words_length_le
  rw [pw_add]
  exact Nat.mul_lt_mul'' (words_length_iff.1 hx) (words_length_iff.1 hy)

theorem Rd.lit1 (w : World) (x : Nat) (hx : x < 4294967296) : Rd (w.alloc (.cells #[.int .u32 (x : Int)] 99)) (some ⟨w.heap.size, 0, none⟩) [x] := by
  refine ⟨by simp [Dig]; exact hx, fun _ => ⟨w.heap.size, 0, rfl, by simp, fun j hj => ?_⟩⟩
  have : j = 0 := by simp at hj; exact hj
  subst this
  simp
end Go.Proofs.YtclkfideaameoaaGreatDoor
