/- Rows of texts and of truth values that come in as arguments. -/
import Derived.Test.YtbdhfooeanbnlaaEa
import Derived.WalkKit
import Derived.ProofKit
import Derived.OpenShut
import Derived.ChangeOld
import Derived.ChangeArms
import Derived.Lib.SmallJoins
import Derived.Deep.Strs
import Derived.Deep.SlicePairs
import Derived.SizedLaws
import Derived.Test.YtbdhfooeanbnlaaProg
namespace Go.Proofs.Ytbdhfooeanbnlaa
open Go.ChangeShapes Go.WideShapes Go.ChangeAt Go.RowKit Go.Joins Go.Deep
set_option linter.unusedVariables false
set_option linter.unusedSimpArgs false
set_option maxRecDepth 100000
section
variable {H : Type} {P : Program}
/-- No weight of it goes beyond what can be reached. -/
def Sm (P : Program) (t : TypeId) (d : DataW H) : Prop := ∀ n ∈ d.weights P t, n ≤ 140737488351232
theorem sm_arg {ts : List TypeId} {ds : List (DataW H)} (h : (DataW.weightsEach P ts ds).all (· ≤ reachBytes) = true) {j : Nat} {t : TypeId} {d : DataW H} (ht : ts[j]? = some t) (hd : ds[j]? = some d) : Sm P t d := fun n hn => by
  have h2 : n ≤ reachBytes := of_decide_eq_true (List.all_eq_true.1 h _ (DataW.weights_mem_each ht hd n hn))
  unfold reachBytes at h2
  omega
theorem sm_agg {t : TypeId} {fs : Array Field} {ds : List (DataW H)} (hu : P.underlying t = some (.struct fs)) (h : Sm P t (.agg ds)) {j : Nat} {u : TypeId} {d : DataW H} (ht : (fs.toList.map (·.type))[j]? = some u) (hd : ds[j]? = some d) : Sm P u d := fun n hn => h n (by
  unfold DataW.weights
  rw [hu]
  exact DataW.weights_mem_each ht hd n hn)
theorem weights_all {e : TypeId} {d : DataW H} : ∀ {ds : List (DataW H)}, d ∈ ds → ∀ n ∈ d.weights P e, n ∈ DataW.weightsAll P e ds
  | c :: ds, h, n, hn => by
    unfold DataW.weightsAll
    rcases List.mem_cons.1 h with rfl | h
    · exact List.mem_append_left _ hn
    · exact List.mem_append_right _ (weights_all h n hn)
theorem sm_slice {t e : TypeId} {xs ys : List (DataW H)} (hu : P.underlying t = some (.slice e)) (h : Sm P t (.slice xs ys)) : (xs.length + ys.length) * P.bytesOf e ≤ 140737488351232 ∧ ∀ d ∈ xs, Sm P e d := by
  have hw : (DataW.slice xs ys).weights P t = (xs.length + ys.length) * P.bytesOf e :: (DataW.weightsAll P e xs ++ DataW.weightsAll P e ys) := by simp only [DataW.weights, hu]
  refine ⟨h _ (by rw [hw]; exact List.mem_cons_self), fun d hd n hn => h n ?_⟩
  rw [hw]
  exact List.mem_cons_of_mem _ (List.mem_append_left _ (weights_all hd n hn))
end

theorem row_of {w : World} {x : Addr} {len : Nat} {vs : List Value} (hl : vs.length = len) (hc : ∀ i, i < len → ∃ v, vs[i]? = some v ∧ w.cell? (x.add i) = some v) : Rc w (some x) vs := by
  intro hne
  have h0 : 0 < len := by
    rcases Nat.eq_zero_or_pos len with h | h
    · exact absurd (List.length_eq_zero_iff.1 (hl.trans h)) hne
    · exact h
  obtain ⟨b, off, spot⟩ := x
  have hspot : spot = none := by
    obtain ⟨v, _, h2⟩ := hc 0 h0
    simp only [World.cell?, Addr.add] at h2
    split at h2
    · cases spot with
      | none => rfl
      | some s => simp at h2
    · cases h2
  subst hspot
  refine ⟨b, off, rfl, fun p u hp => ?_⟩
  obtain ⟨v, h1, h2⟩ := hc p (by rw [← hl]; exact (List.getElem?_eq_some_iff.1 hp).1)
  rw [hp] at h1
  cases h1
  rw [Addr.add_lit] at h2
  exact h2
section
variable {H : Type} {enc : TypeId × Value → H} {W : World}
theorem open_bools {base : Nat} {v : Value} {d : DataW H} {p : List MemPlace} (hv : Value.okWide Try.prog W .any base 23 v) (h : DataW.Trod enc Try.prog W 0 (fun _ => true) true 23 v d p) :
    ∃ so cap l, v = .slice so (l : List Bool).length cap ∧ Rl W so l := by
  obtain ⟨a, n, c, rfl⟩ := okWide_slice Try.underlying23 hv
  obtain ⟨fuel, hf⟩ := h
  rcases DataW.trod_slice Try.underlying23 hf with ⟨hcs, _⟩ | ⟨x, len, cap, elems, rest, m, _, hcs, _, _, hl, hm, hlen, hel, _, _⟩
  · simp [Value.cells] at hcs
    obtain ⟨rfl, rfl, rfl⟩ := hcs
    exact ⟨none, 0, [], rfl, rl_nil⟩
  · simp [Value.cells] at hcs
    obtain ⟨rfl, rfl, rfl⟩ := hcs
    have each : ∀ i, ∃ b : Bool, i < n → W.cell? (x.add i) = some (.bool b) := by
      intro i
      by_cases hi : i < n
      · have hE := hel i hi
        rw [show Try.prog.cellsOf 4 = 1 by kernel_rfl, Nat.mul_one] at hE
        rw [List.getElem?_eq_getElem (by omega), Option.bind_eq_some_iff] at hE
        obtain ⟨c1, hc1, hy1⟩ := hE
        obtain ⟨b, rfl, _⟩ := DataW.trod_bool Try.underlying4 hy1
        exact ⟨b, fun _ => cell_of_cells?_one hc1⟩
      · exact ⟨false, fun k => absurd k hi⟩
    obtain ⟨F, hF⟩ := Classical.skolem.1 each
    refine ⟨some x, c, (List.range n).map F, by simp, row_of (len := n) (by simp [boolC]) fun i hi => ⟨.bool (F i), by simp [boolC, hi], hF i hi⟩⟩
theorem open_strs {base : Nat} {v : Value} {d : DataW H} {p : List MemPlace} (hv : Value.okWide Try.prog W .any base 22 v) (h : DataW.Trod enc Try.prog W 0 (fun _ => true) true 22 v d p) (hs : Sm Try.prog 22 d) :
    ∃ so cap l, v = .slice so (l : List ByteArray).length cap ∧ Rs W so l ∧ l.length ≤ 8796093021952 ∧ ∀ s ∈ l, s.size ≤ 281474976710656 := by
  obtain ⟨a, n, c, rfl⟩ := okWide_slice Try.underlying22 hv
  obtain ⟨fuel, hf⟩ := h
  rcases DataW.trod_slice Try.underlying22 hf with ⟨hcs, _⟩ | ⟨x, len, cap, elems, rest, m, _, hcs, hx, _, hl, hm, hlen, hel, _, _⟩
  · simp [Value.cells] at hcs
    obtain ⟨rfl, rfl, rfl⟩ := hcs
    exact ⟨none, 0, [], rfl, rs_nil, by show (0 : Nat) ≤ _; omega, fun s k => by cases k⟩
  · simp [Value.cells] at hcs
    obtain ⟨rfl, rfl, rfl⟩ := hcs
    simp only [Prod.mk.injEq] at hx
    obtain ⟨rfl, _⟩ := hx
    obtain ⟨s1, s2⟩ := sm_slice Try.underlying22 hs
    rw [show Try.prog.bytesOf 9 = 16 by kernel_rfl] at s1
    simp only [List.length_map] at s1
    have each : ∀ i, ∃ s : ByteArray, i < n → W.cell? (x.add i) = some (.string s) ∧ s.size ≤ 140737488351232 := by
      intro i
      by_cases hi : i < n
      · have hE := hel i hi
        rw [show Try.prog.cellsOf 9 = 1 by kernel_rfl, Nat.mul_one] at hE
        rw [List.getElem?_eq_getElem (by omega), Option.bind_eq_some_iff] at hE
        obtain ⟨c1, hc1, hy1⟩ := hE
        obtain ⟨s, rfl, hy2, _⟩ := DataW.trod_string Try.underlying9 hy1
        refine ⟨s, fun _ => ⟨cell_of_cells?_one hc1, ?_⟩⟩
        have hd := s2 (elems[i]'(by omega)).1 (List.mem_map.2 ⟨_, List.getElem_mem _, rfl⟩)
        rw [hy2] at hd
        have := hd s.data.toList.length (by simp [DataW.weights, Try.underlying9])
        simpa using this
      · exact ⟨ByteArray.empty, fun k => absurd k hi⟩
    obtain ⟨F, hF⟩ := Classical.skolem.1 each
    refine ⟨some x, c, (List.range n).map F, by simp, row_of (len := n) (by simp [strC]) fun i hi => ⟨.string (F i), by simp [strC, hi], (hF i hi).1⟩, by simp; omega, fun s hs => ?_⟩
    obtain ⟨i, hi, rfl⟩ := List.mem_map.1 hs
    have := (hF i (List.mem_range.1 hi)).2
    omega
end
end Go.Proofs.Ytbdhfooeanbnlaa
