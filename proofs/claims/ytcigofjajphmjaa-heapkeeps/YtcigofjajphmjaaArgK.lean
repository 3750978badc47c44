/- Rows of numbers of 16 bits that come in as arguments. -/
import Derived.Test.YtcigofjajphmjaaArgB
import Derived.Test.YtcigofjajphmjaaHo
namespace Go.Proofs.Ytcigofjajphmjaa
open Go.ChangeShapes Go.WideShapes Go.ChangeAt Go.RowKit Go.Joins Go.Deep
set_option linter.unusedVariables false
set_option linter.unusedSimpArgs false
set_option maxRecDepth 100000

theorem u16_row {w : World} {x : Addr} {len cap : Nat} {zs : List Int} (hl : len ≤ cap) (hz : zs.length = cap)
    (hc : ∀ i, i < zs.length → w.cell? (x.add i) = some (.int .u16 (zs.getD i 0))) (hw : ∀ n ∈ zs, (Lit.int .u16 n).wf = true) :
    ∃ l : List Nat, l.length = len ∧ Rh w (some x) l := by
  have hbd : ∀ n ∈ zs, 0 ≤ n ∧ n < 65536 := by
    intro n hn
    have := bounds_u16 (hw n hn)
    omega
  have hlen : ((zs.take len).map Int.toNat).length = len := by rw [List.length_map, List.length_take]; omega
  refine ⟨(zs.take len).map Int.toNat, hlen, ⟨fun hne => ?_, fun j => ?_⟩⟩
  · have h0 : 0 < len := by
      apply Classical.byContradiction
      intro h
      have : len = 0 := by omega
      subst this
      simp at hne
    obtain ⟨b, off, spot⟩ := x
    have hspot : spot = none := by
      have := hc 0 (by omega)
      simp only [World.cell?, Addr.add] at this
      split at this
      · cases spot with
        | none => rfl
        | some s => simp at this
      · cases this
    subst hspot
    have hcj : ∀ j, j < len → w.cell? ⟨b, off + j, none⟩ = some (.int .u16 (((((zs.take len).map Int.toNat).getD j 0) : Nat) : Int)) := by
      intro j hj
      have h1 := hc j (by omega)
      rw [Addr.add_lit] at h1
      rw [h1]
      have hjz : j < zs.length := by omega
      have h2 := hbd zs[j] (List.getElem_mem hjz)
      have e1 : zs.getD j 0 = zs[j] := by simp [hjz]
      have e2 : ((zs.take len).map Int.toNat).getD j 0 = zs[j].toNat := by simp [List.getD_eq_getElem?_getD, hj, hjz]
      rw [e1, e2, show ((zs[j].toNat : Nat) : Int) = zs[j] from by omega]
    refine ⟨b, off, rfl, ?_, fun j hj => hcj j (by omega)⟩
    have := hcj 0 h0
    apply Classical.byContradiction
    intro h
    simp [World.cell?, Array.getElem?_eq_none (Nat.le_of_not_lt h)] at this
  · by_cases hj : j < len
    · have hjz : j < zs.length := by omega
      have h2 := hbd zs[j] (List.getElem_mem hjz)
      have e2 : ((zs.take len).map Int.toNat).getD j 0 = zs[j].toNat := by simp [List.getD_eq_getElem?_getD, hj, hjz]
      rw [e2]
      omega
    · rw [List.getD_eq_getElem?_getD, List.getElem?_eq_none (by omega)]
      simp
section
variable {H : Type} {enc : TypeId × Value → H} {W : World}
theorem open_u16s {base : Nat} {v : Value} {d : DataW H} {p : List MemPlace} (hv : Value.okWide Try.prog W .any base 57 v) (h : DataW.Trod enc Try.prog W 0 (fun _ => true) true 57 v d p) :
    ∃ so cap l, v = .slice so l.length cap ∧ Rh W so l ∧ l.length ≤ cap := by
  obtain ⟨a, n, c, rfl⟩ := okWide_slice Try.underlying57 hv
  obtain ⟨fuel, hf⟩ := h
  rcases open_ints Try.underlying57 Try.underlying60 (by kernel_rfl) hf with ⟨hcs, _⟩ | ⟨x, l, c, zs, hcs, _, hl, hm, hz, hx, hcell, hwz⟩
  · simp [Value.cells] at hcs
    obtain ⟨rfl, rfl, rfl⟩ := hcs
    exact ⟨none, 0, [], rfl, ⟨fun k => absurd rfl k, fun j => by simp⟩, Nat.le_refl _⟩
  · simp [Value.cells] at hcs
    obtain ⟨rfl, rfl, rfl⟩ := hcs
    obtain ⟨us, e, ha⟩ := u16_row hl (by simpa using hz) hcell hwz
    subst e
    exact ⟨_, _, us, rfl, ha, hl⟩
end
end Go.Proofs.Ytcigofjajphmjaa
