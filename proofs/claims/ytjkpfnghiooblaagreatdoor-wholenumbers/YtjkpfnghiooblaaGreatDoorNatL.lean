/- Walks of the document's differences and order; the answers of Sub and Cmp. -/
import Derived.Test.YtjkpfnghiooblaaGreatDoorNatK
namespace Go.Proofs.YtjkpfnghiooblaaGreatDoor
open Go.RowKit
set_option linter.unusedVariables false
set_option linter.unusedSimpArgs false

theorem less_step (acc a b : List Nat) (i c : Nat) (hi : acc.length = i) (ha : Dig a) (hb : Dig b) (hc : c ≤ 1) (h : val acc + val (b.take i) = val (a.take i) + pw i * c) :
    val (acc ++ [dif (a.getD i 0) (b.getD i 0) c]) + val (b.take (i + 1)) = val (a.take (i + 1)) + pw (i + 1) * bor (a.getD i 0) (b.getD i 0) c := by
  rw [val_snoc, val_take_succ a, val_take_succ b, pw_succ, hi]
  have e := dif_eq (ha.getD i) (hb.getD i) hc
  have e2 := congrArg (fun z => pw i * z) e
  simp only [Nat.mul_add] at e2
  have e3 : 4294967296 * pw i * bor (a.getD i 0) (b.getD i 0) c = pw i * (4294967296 * bor (a.getD i 0) (b.getD i 0) c) := by
    rw [Nat.mul_comm 4294967296 (pw i), Nat.mul_assoc]
  rw [e3]
  omega

theorem cmp_at {x y k : Nat} (h : x / pw (k + 1) = y / pw (k + 1)) :
    ((words x).getD k 0 = (words y).getD k 0 → x / pw k = y / pw k) ∧ ((words y).getD k 0 < (words x).getD k 0 → cmpN x y = 1) ∧ ((words x).getD k 0 < (words y).getD k 0 → cmpN x y = -1) := by
  obtain ⟨a1, a2, a3⟩ := order_step x y k h
  rw [words_getD, words_getD]
  refine ⟨a1, fun h1 => ?_, fun h1 => ?_⟩
  · have := a3 h1
    unfold cmpN
    rw [if_neg (by omega), if_pos this]
  · have := a2 h1
    unfold cmpN
    rw [if_pos this]

end Go.Proofs.YtjkpfnghiooblaaGreatDoor
