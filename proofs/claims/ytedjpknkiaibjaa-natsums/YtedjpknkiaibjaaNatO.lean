/- Copies of slices of words; what a walk keeps of the slices that it reads. -/
import Derived.Test.YtedjpknkiaibjaaNatM
import Derived.Test.YtedjpknkiaibjaaNatN
import Derived.Test.YtedjpknkiaibjaaNatJ
import Derived.Test.YtedjpknkiaibjaaArgs
import Derived.Test.YtedjpknkiaibjaaCopy
namespace Go.Proofs.Ytedjpknkiaibjaa
open Go.RowKit
set_option linter.unusedVariables false
set_option linter.unusedSimpArgs false

/-- What a walk keeps: two copies, the two slices that came in, and all that was there. -/
structure St (w0 w : World) (xo yo ao bo : Option Addr) (a b : List Nat) : Prop where
  rx : Rd w xo a
  ry : Rd w yo b
  ra : Rd w ao a
  rb : Rd w bo b
  bel : Below w0.heap.size w0 w
theorem St.step {w0 w w' : World} {xo yo ao bo : Option Addr} {a b : List Nat} (h : St w0 w xo yo ao bo a b) (hb : Below w.heap.size w w') : St w0 w' xo yo ao bo a b :=
  ⟨h.rx.below hb, h.ry.below hb, h.ra.below hb, h.rb.below hb, chain2 h.bel hb⟩
theorem St.write {w0 w w' : World} {xo yo ao bo : Option Addr} {a b : List Nat} {r : Option Nat} {B : Nat} (h : St w0 w xo yo ao bo a b) (hg : w.grownBy w' r) (hr : ∀ k, r = some k → B ≤ k) (hB : w0.heap.size ≤ B)
    (hx : a ≠ [] → ∀ c, xo = some c → c.block < B) (hy : b ≠ [] → ∀ c, yo = some c → c.block < B) (ha : a ≠ [] → ∀ c, ao = some c → c.block < B) (hb : b ≠ [] → ∀ c, bo = some c → c.block < B) : St w0 w' xo yo ao bo a b := by
  have hne : ∀ {l : List Nat} {po : Option Addr}, (l ≠ [] → ∀ c, po = some c → c.block < B) → l ≠ [] → ∀ c, po = some c → some c.block ≠ r := by
    intro l po hh hl c hc e
    have h1 := hr c.block e.symm
    have h2 := hh hl c hc
    omega
  exact ⟨h.rx.apart hg (hne hx), h.ry.apart hg (hne hy), h.ra.apart hg (hne ha), h.rb.apart hg (hne hb), h.bel.grown hg h.bel.size (fun k hk => Nat.le_trans hB (hr k hk))⟩

/-- Seven is written over each word of a row. -/
theorem own_seven {B : Nat} {w : World} {g cap : Nat} {l : List Nat} (h : Own B w (some ⟨g, 0, none⟩) cap l) (i : Nat) : Own B (w.setCell ⟨g, i, none⟩ (.int .u32 7)) (some ⟨g, 0, none⟩) cap (l.set i 7) := h.set i 7 (by omega)
theorem addS_len (a b : List Nat) : (addS a b).1.length ≤ 512 := by
  unfold addS fitS
  split
  · split
    · assumption
    · simp
  · simp
theorem subS_len {a b : List Nat} (ha : Dig a) : (subS a b).1.length ≤ 512 := by
  unfold subS
  split
  · rename_i h
    simp only [Bool.and_eq_true] at h
    obtain ⟨e, hl⟩ := sound_words ha h.1
    split
    · simp
    · have := words_mono (Nat.sub_le (val a) (val b))
      rw [← e] at this
      simp only
      omega
  · simp
end Go.Proofs.Ytedjpknkiaibjaa
