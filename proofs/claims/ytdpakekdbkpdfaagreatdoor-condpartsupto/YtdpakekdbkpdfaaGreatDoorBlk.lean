/- Blocks of the call's own of any length, fractions as values, and the walk of isOne. -/
import Derived.Test.YtdpakekdbkpdfaaGreatDoorExA
namespace Go.Proofs.YtdpakekdbkpdfaaGreatDoor
open Go.RowKit
set_option linter.unusedVariables false
set_option linter.unusedSimpArgs false

/-- A block whose first cells hold these values, none of them a word, and nothing of it is frozen. -/
structure Blk (w : World) (g : Nat) (vs : List Value) : Prop where
  lt : g < w.heap.size
  cell : ∀ i v, vs[i]? = some v → w.cell? ⟨g, i, none⟩ = some v
  froz : ∀ i, w.frozen? ⟨g, i, none⟩ = false
  no : ∀ v ∈ vs, ∀ n, v ≠ .int .u32 n
theorem Blk.new (w : World) (vs : List Value) (t : TypeId) (hno : ∀ v ∈ vs, ∀ n, v ≠ .int .u32 n) : Blk (w.alloc (.cells vs.toArray t)) w.heap.size vs := by
  refine ⟨by simp, fun i v h => ?_, fun i => ?_, hno⟩
  · rw [World.cell?_alloc_at _ _ _ _ rfl]
    simpa using h
  · exact World.frozen?_alloc_at _ _ _ _ rfl
theorem Blk.alloc {w : World} {g : Nat} {vs : List Value} (h : Blk w g vs) (o : Obj) : Blk (w.alloc o) g vs :=
  ⟨by have := h.lt; simp; omega, fun i v hv => (World.cell?_alloc_past o g i h.lt).trans (h.cell i v hv), fun i => (World.frozen?_alloc_past o g i h.lt).trans (h.froz i), h.no⟩
theorem Blk.drew {w : World} {g : Nat} {vs : List Value} (h : Blk w g vs) : Blk w.drew g vs := ⟨h.lt, h.cell, h.froz, h.no⟩
theorem Blk.below {w w' : World} {g : Nat} {vs : List Value} (h : Blk w g vs) (hb : Below w.heap.size w w') : Blk w' g vs := by
  refine ⟨Nat.lt_of_lt_of_le h.lt hb.size, fun i v hv => (hb.cell (p := ⟨g, i, none⟩) h.lt).trans (h.cell i v hv), fun i => ?_, h.no⟩
  have := hb.block g h.lt
  have e : w'.frozen? ⟨g, i, none⟩ = w.frozen? ⟨g, i, none⟩ := by simp only [World.frozen?, this]
  rw [e]
  exact h.froz i
theorem Blk.far {w : World} {g g' : Nat} {vs : List Value} (h : Blk w g vs) (hne : g' ≠ g) (j : Nat) (x : Value) : Blk (w.setCell ⟨g', j, none⟩ x) g vs :=
  ⟨by simpa using h.lt, fun i v hv => (World.cell?_setCell_other _ _ _ _ (by intro e; cases e; exact hne rfl)).trans (h.cell i v hv), fun i => by simpa using h.froz i, h.no⟩
theorem Blk.set {w : World} {g : Nat} {vs : List Value} (h : Blk w g vs) (i : Nat) (v : Value) (hi : i < vs.length) (hv : ∀ n, v ≠ .int .u32 n) : Blk (w.setCell ⟨g, i, none⟩ v) g (vs.set i v) := by
  refine ⟨by simpa using h.lt, fun j u hu => ?_, fun j => by simpa using h.froz j, fun u hu n => ?_⟩
  · by_cases e : i = j
    · subst e
      rw [List.getElem?_set_self hi] at hu
      cases hu
      exact World.cell?_setCell_same _ _ _ (h.cell i vs[i] (by rw [List.getElem?_eq_getElem hi]))
    · rw [List.getElem?_set_ne e] at hu
      rw [World.cell?_setCell_other _ _ _ _ (by intro k; cases k; exact e rfl)]
      exact h.cell j u hu
  · rcases List.mem_or_eq_of_mem_set hu with h1 | h1
    · exact h.no u h1 n
    · subst h1
      exact hv n
theorem Blk.rd {w : World} {g : Nat} {vs : List Value} (h : Blk w g vs) {so : Option Addr} {l : List Nat} (hr : Rd w so l) (i : Nat) (v : Value) (hi : i < vs.length) : Rd (w.setCell ⟨g, i, none⟩ v) so l :=
  hr.setNo (h.cell i vs[i] (by rw [List.getElem?_eq_getElem hi])) (h.no _ (List.getElem_mem hi)) v

/-- A block of the call's own, behind which memory is as it was. -/
structure Mine (w0 w : World) (g : Nat) (vs : List Value) : Prop where
  ge : w0.heap.size ≤ g
  bel : Below w0.heap.size w0 w
  blk : Blk w g vs
theorem Mine.set {w0 w : World} {g : Nat} {vs : List Value} (h : Mine w0 w g vs) (i : Nat) (v : Value) (hi : i < vs.length) (hv : ∀ n, v ≠ .int .u32 n) : Mine w0 (w.setCell ⟨g, i, none⟩ v) g (vs.set i v) :=
  ⟨h.ge, h.bel.setCell (p := ⟨g, i, none⟩) h.ge v, h.blk.set i v hi hv⟩
theorem Mine.below {w0 w w' : World} {g : Nat} {vs : List Value} (h : Mine w0 w g vs) (hb : Below w.heap.size w w') : Mine w0 w' g vs := ⟨h.ge, chain2 h.bel hb, h.blk.below hb⟩

/-- The value '.agg #[.bool b, .slice to_ m tc, .slice bo n bc]' stands for a fraction t over q. -/
structure Rt (w : World) (b : Bool) (to_ : Option Addr) (m tc : Nat) (bo : Option Addr) (n bc : Nat) (t : Int) (q : Nat) : Prop where
  neg : b = decide (t < 0)
  top : m = (words t.natAbs).length
  bot : n = (words q).length
  rdT : Rd w to_ (words t.natAbs)
  rdB : Rd w bo (words q)
  nilT : to_ = none → tc = 0
  nilB : bo = none → bc = 0
theorem Rt.below {w w' : World} {b : Bool} {to_ bo : Option Addr} {m tc n bc : Nat} {t : Int} {q : Nat} (h : Rt w b to_ m tc bo n bc t q) (hb : Below w.heap.size w w') : Rt w' b to_ m tc bo n bc t q := ⟨h.neg, h.top, h.bot, h.rdT.below hb, h.rdB.below hb, h.nilT, h.nilB⟩
theorem Rt.carry {w w' : World} {b : Bool} {to_ bo : Option Addr} {m tc n bc : Nat} {t : Int} {q : Nat} (h : Rt w b to_ m tc bo n bc t q) (hr : ∀ so l, Rd w so l → Rd w' so l) : Rt w' b to_ m tc bo n bc t q := ⟨h.neg, h.top, h.bot, hr _ _ h.rdT, hr _ _ h.rdB, h.nilT, h.nilB⟩
set_option maxHeartbeats 1000000 in
set_option maxRecDepth 1000000 in
theorem isOne_any {w : World} {ao : Option Addr} {l : List Nat} (ca : Nat) (ha : Rd w ao l) (hl : l.length ≤ 9223372036854775807) :
    Calls Tryz.prog 169 #[.slice ao l.length ca] w fun e w' => e = .returned (.bool (decide (l = [1]))) ∧ w' = w := by
  by_cases h1 : l.length = 1
  · obtain ⟨d, rfl⟩ : ∃ d, l = [d] := by
      match l, h1 with
      | [d], _ => exact ⟨d, rfl⟩
    obtain ⟨b, off, rfl, _, hc⟩ := ha.pos (by simp)
    have k := hc 0 (by simp)
    simp only [List.getD_cons_zero, Nat.add_zero] at k
    have hd := ha.dig d (by simp)
    clear ha hc hl h1
    by_cases hd1 : d = 1
    · subst hd1
      simp only [List.length_singleton]
      go_enter Tryz.func169, Tryz.ntmps169
      go_wp2
      go_ret
      exact ⟨rfl, rfl⟩
    · have e : decide ([d] = [1]) = false := by simp [hd1]
      rw [e]
      have hdI : ((d : Int) == 1) = false := by simp; omega
      simp only [List.length_singleton]
      clear e hd1
      go_enter Tryz.func169, Tryz.ntmps169
      go_wp2
      go_ret
      exact ⟨rfl, rfl⟩
  · have e : decide (l = [1]) = false := by
      apply decide_eq_false
      intro h
      rw [h] at h1
      exact h1 rfl
    rw [e]
    generalize l.length = n at *
    have hnI : ((n : Int) == 1) = false := by simp; omega
    clear ha e
    go_enter Tryz.func169, Tryz.ntmps169
    go_wp2
    go_ret
    exact ⟨rfl, rfl⟩
end Go.Proofs.YtdpakekdbkpdfaaGreatDoor
