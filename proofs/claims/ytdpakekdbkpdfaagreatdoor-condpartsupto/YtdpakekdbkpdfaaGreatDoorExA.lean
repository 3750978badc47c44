/- Whole numbers of the program, as a sign and a size: what a value stands for, and walks of signed and opposite. -/
import Derived.Test.YtdpakekdbkpdfaaGreatDoorGcdD
import Derived.Laws.ResultCell
import Derived.Deep.RegionWith
import Derived.BigRegion
namespace Go.Proofs.YtdpakekdbkpdfaaGreatDoor
open Go.RowKit
set_option linter.unusedVariables false
set_option linter.unusedSimpArgs false

theorem Own.nocap {B : Nat} {w : World} {ao : Option Addr} {cap : Nat} {l : List Nat} (h : Own B w ao cap l) : ao = none → cap = 0 := by
  intro e
  rw [e] at h
  exact h.none_cap
/-- Two cells in a block of the call's own. -/
structure Two (w : World) (g : Nat) (a b : Value) : Prop where
  c0 : w.cell? ⟨g, 0, none⟩ = some a
  c1 : w.cell? ⟨g, 1, none⟩ = some b
  f0 : w.frozen? ⟨g, 0, none⟩ = false
  f1 : w.frozen? ⟨g, 1, none⟩ = false
theorem Two.new (w : World) (a b : Value) (t : TypeId) : Two (w.alloc (.cells #[a, b] t)) w.heap.size a b := by
  exact ⟨by go_cell, by go_cell, by go_cell, by go_cell⟩
theorem Two.alloc {w : World} {g : Nat} {a b : Value} (h : Two w g a b) (o : Obj) : Two (w.alloc o) g a b := by
  have hg : g < w.heap.size := cell_lt h.c0
  exact ⟨(World.cell?_alloc_past o g 0 hg).trans h.c0, (World.cell?_alloc_past o g 1 hg).trans h.c1, (World.frozen?_alloc_past o g 0 hg).trans h.f0, (World.frozen?_alloc_past o g 1 hg).trans h.f1⟩
theorem Two.drew {w : World} {g : Nat} {a b : Value} (h : Two w g a b) : Two w.drew g a b := ⟨h.c0, h.c1, h.f0, h.f1⟩
theorem Two.below {w w' : World} {g : Nat} {a b : Value} (h : Two w g a b) (hb : Below w.heap.size w w') : Two w' g a b := by
  have hg : g < w.heap.size := cell_lt h.c0
  have e : ∀ i, w'.cell? ⟨g, i, none⟩ = w.cell? ⟨g, i, none⟩ := fun i => hb.cell (p := ⟨g, i, none⟩) hg
  have e2 : ∀ i, w'.frozen? ⟨g, i, none⟩ = w.frozen? ⟨g, i, none⟩ := fun i => by
    have := hb.block g hg
    simp only [World.frozen?, this]
  exact ⟨(e 0).trans h.c0, (e 1).trans h.c1, (e2 0).trans h.f0, (e2 1).trans h.f1⟩

theorem Two.far {w : World} {g g' : Nat} {a b : Value} (h : Two w g a b) (hne : g' ≠ g) (j : Nat) (x : Value) : Two (w.setCell ⟨g', j, none⟩ x) g a b := by
  have e : ∀ i, (w.setCell ⟨g', j, none⟩ x).cell? ⟨g, i, none⟩ = w.cell? ⟨g, i, none⟩ := fun i => World.cell?_setCell_other _ _ _ _ (by intro e; cases e; exact hne rfl)
  have e2 : ∀ i, (w.setCell ⟨g', j, none⟩ x).frozen? ⟨g, i, none⟩ = w.frozen? ⟨g, i, none⟩ := fun i => by simp
  exact ⟨(e 0).trans h.c0, (e 1).trans h.c1, (e2 0).trans h.f0, (e2 1).trans h.f1⟩
/-- A store into a cell that holds no word leaves what reads as words. -/
theorem Rd.setNo {w : World} {so : Option Addr} {l : List Nat} {p : Addr} {u : Value} (h : Rd w so l) (hp : w.cell? p = some u) (hu : ∀ n, u ≠ .int .u32 n) (v : Value) : Rd (w.setCell p v) so l := by
  refine ⟨h.dig, fun hne => ?_⟩
  obtain ⟨b, off, h1, h2, h3⟩ := h.pos hne
  refine ⟨b, off, h1, by simpa using h2, fun j hj => ?_⟩
  rw [World.cell?_setCell_other _ _ _ _ (by
    intro e
    have h4 := h3 j hj
    rw [← e, hp] at h4
    simp only [Option.some.injEq] at h4
    exact hu _ h4)]
  exact h3 j hj
/-- Both cells of a block of the call's own are written. -/
theorem fin2 {w w2 : World} {g : Nat} {x : Bool} {o : Option Addr} {n c : Nat} (hg : w.heap.size ≤ g) (hb : Below w.heap.size w w2) (ht : Two w2 g (.bool x) (.slice o n c)) (v0 v1 : Value) :
    Below w.heap.size w ((w2.setCell ⟨g, 0, none⟩ v0).setCell ⟨g, 1, none⟩ v1) ∧ ∀ so l, Rd w2 so l → Rd ((w2.setCell ⟨g, 0, none⟩ v0).setCell ⟨g, 1, none⟩ v1) so l := by
  refine ⟨(hb.setCell (p := ⟨g, 0, none⟩) hg v0).setCell (p := ⟨g, 1, none⟩) hg v1, fun so l h => ?_⟩
  have h1 := h.setNo ht.c0 (fun n => by simp) v0
  refine h1.setNo (p := ⟨g, 1, none⟩) (u := .slice o n c) ?_ (fun n => by simp) v1
  rw [World.cell?_setCell_other _ _ _ _ (by simp)]
  exact ht.c1

/-- The value '.agg #[.bool b, .slice so m sc]' stands for a whole number. -/
structure Wh (w : World) (b : Bool) (so : Option Addr) (m sc : Nat) (z : Int) : Prop where
  neg : b = decide (z < 0)
  len : m = (words z.natAbs).length
  rd : Rd w so (words z.natAbs)
  nil : so = none → sc = 0
theorem Wh.below {w w' : World} {b : Bool} {so : Option Addr} {m sc : Nat} {z : Int} (h : Wh w b so m sc z) (hb : Below w.heap.size w w') : Wh w' b so m sc z := ⟨h.neg, h.len, h.rd.below hb, h.nil⟩
theorem Wh.carry {w w' : World} {b : Bool} {so : Option Addr} {m sc : Nat} {z : Int} (h : Wh w b so m sc z) (hr : ∀ so l, Rd w so l → Rd w' so l) : Wh w' b so m sc z := ⟨h.neg, h.len, hr _ _ h.rd, h.nil⟩
/-- A call answers a whole number. -/
def AnsW (w : World) (z : Int) (e : Ending) (w' : World) : Prop := ∃ b so m sc, e = .returned (.agg #[.bool b, .slice so m sc]) ∧ Wh w' b so m sc z ∧ Below w.heap.size w w'
def sgn (neg : Bool) (n : Nat) : Int := if neg then -(n : Int) else n
theorem sgn_abs (neg : Bool) (n : Nat) : (sgn neg n).natAbs = n := by unfold sgn; split <;> omega
theorem sgn_neg (neg : Bool) (n : Nat) : decide (sgn neg n < 0) = (neg && decide (0 < n)) := by
  unfold sgn
  cases neg with
  | false => simp
  | true => simp
theorem words_pos_len (n : Nat) : 0 < n ↔ 0 < (words n).length := by
  constructor
  · intro h
    have : (words n).length ≠ 0 := fun e => by have := words_eq_nil.1 (List.length_eq_zero_iff.1 e); omega
    omega
  · intro h
    have : n ≠ 0 := fun e => by rw [e, words_zero] at h; simp at h
    omega

theorem sgn_self (z : Int) : sgn (decide (z < 0)) z.natAbs = z := by
  unfold sgn
  by_cases h : z < 0
  · rw [decide_eq_true h]
    simp
    omega
  · rw [decide_eq_false h]
    simp
    omega
theorem sgn_opp (z : Int) : sgn (!decide (z < 0)) z.natAbs = -z := by
  unfold sgn
  by_cases h : z < 0
  · rw [decide_eq_true h]
    simp
    omega
  · rw [decide_eq_false h]
    simp
    omega
theorem sgn_mul (x y : Int) : sgn (decide (x < 0) != decide (y < 0)) (x.natAbs * y.natAbs) = x * y := by
  unfold sgn
  have e : ((x.natAbs * y.natAbs : Nat) : Int) = (x.natAbs : Int) * (y.natAbs : Int) := by rw [Int.natCast_mul]
  rw [e]
  by_cases h : x < 0
  · have hx : (x.natAbs : Int) = -x := by omega
    by_cases k : y < 0
    · have hy : (y.natAbs : Int) = -y := by omega
      rw [decide_eq_true h, decide_eq_true k, hx, hy]
      simp [Int.neg_mul_neg]
    · have hy : (y.natAbs : Int) = y := by omega
      rw [decide_eq_true h, decide_eq_false k, hx, hy]
      simp [Int.neg_mul]
  · have hx : (x.natAbs : Int) = x := by omega
    by_cases k : y < 0
    · have hy : (y.natAbs : Int) = -y := by omega
      rw [decide_eq_false h, decide_eq_true k, hx, hy]
      simp [Int.mul_neg]
    · have hy : (y.natAbs : Int) = y := by omega
      rw [decide_eq_false h, decide_eq_false k, hx, hy]
      simp

end Go.Proofs.YtdpakekdbkpdfaaGreatDoor
