/- Rows of bytes, and rows of rows, that come in as arguments. -/
import Derived.Test.YtcjgjbaadmohbaaArgW
import Derived.Test.YtcjgjbaadmohbaaWp
namespace Go.Proofs.Ytcjgjbaadmohbaa
open Go.RowKit
set_option linter.unusedVariables false
set_option linter.unusedSimpArgs false
set_option maxRecDepth 100000

open Go.ChangeShapes Go.WideShapes Go.ChangeAt Go.RowKit Go.Joins Go.Deep
section
variable {H : Type} {enc : TypeId × Value → H} {W : World}
theorem open_bytesA {base : Nat} {v : Value} {d : DataW H} {p : List MemPlace} (hv : Value.okWide Try.prog W .any base 24 v) (h : DataW.Trod enc Try.prog W 0 (fun _ => true) true 24 v d p) (hs : Sm Try.prog 24 d) :
    ∃ so cap l, v = .slice so (l : List UInt8).length cap ∧ Rb W so l ∧ l.length ≤ 140737488351232 := by
  obtain ⟨a0, len, cap, rfl⟩ := okWide_slice Try.underlying24 hv
  obtain ⟨fuel, hf⟩ := h
  obtain ⟨so, ca, l, h1, h2, _, h3⟩ := open_bytesS (x := (d, p)) hf hs
  exact ⟨so, ca, l, h1, h2, h3⟩
theorem open_rows {base : Nat} {v : Value} {d : DataW H} {p : List MemPlace} (hv : Value.okWide Try.prog W .any base 54 v) (h : DataW.Trod enc Try.prog W 0 (fun _ => true) true 54 v d p) (hs : Sm Try.prog 54 d) :
    ∃ so cap ds, v = .slice so (ds : List (List UInt8)).length cap ∧ Rq W so ds ∧ ds.length ≤ 140737488351232 := by
  obtain ⟨a0, len, cap, rfl⟩ := okWide_slice Try.underlying54 hv
  obtain ⟨fuel, hf⟩ := h
  rcases open_slice Try.underlying54 hf with ⟨hcs, _⟩ | ⟨a, len2, cap2, m, n, D, Pl, hcs, _, hl, hm, hmm, hx, hc⟩
  · simp only [Value.cells, List.cons.injEq, and_true] at hcs
    cases hcs
    exact ⟨none, 0, [], rfl, ⟨fun j q k => by simp at k⟩, by simp⟩
  · simp only [Value.cells, List.cons.injEq, and_true] at hcs
    cases hcs
    simp only [Prod.mk.injEq] at hx
    obtain ⟨rfl, rfl⟩ := hx
    obtain ⟨s1, s2⟩ := sm_slice Try.underlying54 hs
    rw [bytesSW] at s1
    simp only [List.length_map, List.length_range] at s1
    simp only [if_true] at hmm
    rw [show Try.prog.cellsOf 24 = 1 from by kernel_rfl] at hc
    have each : ∀ i, ∃ q : List UInt8 × Option Addr × Nat, i < len → W.cell? (a.add i) = some (.slice q.2.1 q.1.length q.2.2) ∧ Rb W q.2.1 q.1 ∧ q.1.length ≤ q.2.2 := by
      intro i
      by_cases hi : i < len
      · obtain ⟨cs', h1, h2⟩ := hc i (by omega)
        obtain ⟨_, hlen, hcell⟩ := World.cells?_some h1
        match cs', hlen with
        | [v0], _ =>
          have e0 := hcell 0 (by omega)
          rw [add_add, Nat.mul_one, Nat.add_zero] at e0
          have hd := s2 _ (List.mem_map.2 ⟨i, List.mem_range.2 hi, rfl⟩)
          obtain ⟨so, ca, l, q3, r1, r2, r3⟩ := open_bytesS h2 hd
          subst q3
          exact ⟨(l, so, ca), fun _ => ⟨by simpa using e0, r1, r2⟩⟩
      · exact ⟨([], none, 0), fun k => absurd k hi⟩
    obtain ⟨F, hF⟩ := Classical.skolem.1 each
    refine ⟨some a, cap, (List.range len).map fun i => (F i).1, by simp, ⟨fun j q hq => ?_⟩, by simp; omega⟩
    rw [List.getElem?_map] at hq
    obtain ⟨y, h1, h2⟩ := Option.map_eq_some_iff.1 hq
    obtain ⟨hj, h4⟩ := List.getElem?_eq_some_iff.1 h1
    rw [List.length_range] at hj
    rw [List.getElem_range] at h4
    subst h4 h2
    obtain ⟨c0, f2, f3⟩ := hF j hj
    obtain ⟨b, off, rfl⟩ := addr_none rfl (hF 0 (by omega)).1
    rw [Addr.add_lit] at c0
    exact ⟨b, off, _, _, rfl, cell_lt c0, c0, f2, f3⟩
end
end Go.Proofs.Ytcjgjbaadmohbaa
