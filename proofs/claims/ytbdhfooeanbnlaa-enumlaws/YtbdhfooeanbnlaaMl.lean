/- Memory of a part of a call, seen from the call's begin. -/
import Derived.Test.YtbdhfooeanbnlaaMr
import Derived.Test.YtbdhfooeanbnlaaCoW
namespace Go.Proofs.Ytbdhfooeanbnlaa
open Go.RowKit Go.Lib
set_option linter.unusedVariables false
set_option linter.unusedSimpArgs false
theorem Mg.addNil {w0 w : World} {L : List Ck} (h : Mg w0 w L) (hn : noBld L) : Mg w0 w (.row BY 1 (.slice none 0 0) 0 [] :: L) :=
  h.add (Below.refl _ _) (c := .row BY 1 (.slice none 0 0) 0 []) ⟨rfl, .inl ⟨rfl, rfl⟩⟩ (fun k e => by cases e) (.inr (.inl ⟨_, _, _, _, _, rfl, .inr hn⟩))
theorem Ck.low {B B' : Nat} {w : World} {c : Ck} (h : c.holds B' w) (hb : B ≤ B') (hn : ∀ b bs, c ≠ .bld b bs) : c.holds B w := by
  cases c with
  | obj g o => exact ⟨Nat.le_trans hb h.1, h.2⟩
  | row e sz v n xs =>
    refine ⟨h.1, ?_⟩
    rcases h.2 with h | ⟨g, cap, cur, a, b, c⟩
    · exact .inl h
    · exact .inr ⟨g, cap, cur, a, Nat.le_trans hb b, c⟩
  | bld b bs => exact absurd rfl (hn b bs)
/-- What a call's own part does, seen from the call's begin. -/
theorem Mg.low {w0 w w' : World} {L : List Ck} (hb : Below w0.heap.size w0 w) (h : Mg w w' L) (hn : noBld L) : Mg w0 w' L :=
  ⟨hb.trans (h.bel.mono hb.size), fun c hc => Ck.low (h.all c hc) hb.size (hn c hc), h.dis⟩
end Go.Proofs.Ytbdhfooeanbnlaa
