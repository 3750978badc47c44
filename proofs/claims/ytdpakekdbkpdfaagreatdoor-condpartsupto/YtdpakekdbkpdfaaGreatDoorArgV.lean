/- Conditions that come in as arguments. -/
import Derived.Test.YtdpakekdbkpdfaaGreatDoorPcondpa9h
import Derived.Test.YtdpakekdbkpdfaaGreatDoorPcondpa9f
namespace Go.Proofs.YtdpakekdbkpdfaaGreatDoor.G
open Go.ChangeShapes Go.WideShapes Go.ChangeAt Go.RowKit Go.Joins Go.Deep
set_option linter.unusedVariables false
set_option linter.unusedSimpArgs false
set_option maxRecDepth 100000
section
variable {H : Type} {enc : TypeId × Value → H} {W : World}
theorem sum_range_le {xs : List (DataW H)} {n : Nat} (h : n ≤ xs.length) : ((List.range n).map fun i => (xs[i]?.map Rows.uptoBulk).getD 0).sum ≤ Rows.uptoBulkAll xs := by
  have key : ∀ m, m ≤ xs.length → ((List.range m).map fun i => (xs[i]?.map Rows.uptoBulk).getD 0).sum = Rows.uptoBulkAll (xs.take m) := by
    intro m
    induction m with
    | zero => intro _; simp [Rows.uptoBulkAll]
    | succ m ih =>
      intro hm
      have hu : ∀ (l : List (DataW H)) (d : DataW H), Rows.uptoBulkAll (l ++ [d]) = Rows.uptoBulkAll l + Rows.uptoBulk d := by
        intro l d
        induction l with
        | nil => simp [Rows.uptoBulkAll]
        | cons u l ih3 => simp only [List.cons_append, Rows.uptoBulkAll, ih3]; omega
      rw [List.range_succ, List.map_append, List.sum_append, ih (by omega), List.take_add_one, List.getElem?_eq_getElem (show m < xs.length by omega)]
      simp only [List.map_cons, List.map_nil, Option.map_some, Option.toList_some, List.sum_cons, List.sum_nil, Option.getD_some, Nat.add_zero]
      rw [hu, List.getElem?_eq_getElem (show m < xs.length by omega)]
      simp
  have hmono : ∀ (l : List (DataW H)) (m : Nat), Rows.uptoBulkAll (l.take m) ≤ Rows.uptoBulkAll l := by
    intro l
    induction l with
    | nil => intro m; simp
    | cons a l ih =>
      intro m
      cases m with
      | zero => simp [Rows.uptoBulkAll]
      | succ m => simp only [List.take_succ_cons, Rows.uptoBulkAll]; have := ih m; omega
  rw [key n h]
  exact hmono xs n
/-- A slice of structs, each opened by its own law. -/
theorem open_row {α : Type} {f : α → List Value} {m : Nat} (hf : ∀ x, (f x).length = m) (hm0 : 0 < m) {tS tE : TypeId} (hu : Tryz.prog.underlying tS = some (.slice tE)) (hc : Tryz.prog.cellsOf tE = m) {P : α → Nat → Prop} (dflt : α)
    (each0 : ∀ n cs x, DataW.trod enc Tryz.prog W 0 (fun _ => true) true n tE cs = some x → ∃ a : α, cs = f a ∧ P a (Rows.uptoBulk x.1)) {fuel : Nat} {v : Value} {y : DataW H × List MemPlace} (h : DataW.trod enc Tryz.prog W 0 (fun _ => true) true fuel tS [v] = some y) :
    ∃ so cap, ∃ l : List (α × Nat), v = .slice so l.length cap ∧ Rc W so (zp f (l.map Prod.fst)) ∧ (∀ q ∈ l, P q.1 q.2) ∧ (l.map Prod.snd).sum ≤ Rows.uptoBulk y.1 ∧ l.length ≤ Rows.uptoBulk y.1 := by
  rcases DataW.trod_slice hu h with ⟨hcs, _⟩ | ⟨x, len, cap, elems, rest, n, _, hcs, hx, _, hl, hm, hlen, hel, _, _⟩
  · simp at hcs
    subst hcs
    exact ⟨none, 0, [], rfl, fun k => absurd rfl k, (fun q k => by cases k), Nat.zero_le _, Nat.zero_le _⟩
  · simp at hcs
    subst hcs
    subst hx
    have each : ∀ i, ∃ a : α, i < len → (∀ (j : Nat) v, (f a)[j]? = some v → W.cell? (x.add (i * m + j)) = some v) ∧ P a (((elems.map (·.1))[i]?.map Rows.uptoBulk).getD 0) := by
      intro i
      by_cases hi : i < len
      · have hE := hel i hi
        rw [hc] at hE
        rw [List.getElem?_eq_getElem (by omega), Option.bind_eq_some_iff] at hE
        obtain ⟨c1, hc1, hy1⟩ := hE
        obtain ⟨o, e, hr⟩ := each0 _ _ _ hy1
        obtain ⟨_, h2, h3⟩ := World.cells?_some hc1
        refine ⟨o, fun _ => ⟨fun j v hj => ?_, ?_⟩⟩
        · have hlt := (List.getElem?_eq_some_iff.1 hj).1
          rw [← e, h2] at hlt
          have h4 := h3 j hlt
          rw [e, hj] at h4
          rw [← Addr.add_add]
          exact h4
        · rw [List.getElem?_map, List.getElem?_eq_getElem (show i < elems.length by omega)]
          exact hr
      · exact ⟨dflt, fun k => absurd k hi⟩
    obtain ⟨F, hF⟩ := Classical.skolem.1 each
    have e1 : ((List.range len).map fun i => (F i, (((elems.map (·.1))[i]?.map Rows.uptoBulk).getD 0))).map Prod.fst = (List.range len).map F := by rw [List.map_map]; rfl
    have hcat : ∀ (i : Nat) v, (zp f ((List.range len).map F))[i]? = some v → W.cell? (x.add i) = some v := by
      intro i v hi
      have hlt := (List.getElem?_eq_some_iff.1 hi).1
      rw [yn hf, List.length_map, List.length_range] at hlt
      have hj : i / m < len := (Nat.div_lt_iff_lt_mul hm0).2 hlt
      have h1 : ((List.range len).map F)[i / m]? = some (F (i / m)) := by simp [hj]
      have h2 := qia hf h1
      have hd : i / m * m + i % m = i := by rw [Nat.mul_comm]; exact Nat.div_add_mod i m
      have h3 : (f (F (i / m)))[i % m]? = some v := by
        rw [← h2, List.getElem?_take, if_pos (Nat.mod_lt _ hm0), List.getElem?_drop, hd]
        exact hi
      have h4 := (hF (i / m) hj).1 (i % m) v h3
      rwa [hd] at h4
    refine ⟨some x, cap, (List.range len).map fun i => (F i, (((elems.map (·.1))[i]?.map Rows.uptoBulk).getD 0)), by simp, ?_, fun q hq => ?_, ?_, ?_⟩
    · rw [e1]
      exact row_ofX hcat
    · obtain ⟨i, hi, rfl⟩ := List.mem_map.1 hq
      exact (hF i (List.mem_range.1 hi)).2
    · rw [List.map_map]
      have := sum_range_le (xs := elems.map (·.1)) (n := len) (by rw [List.length_map]; omega)
      simp only [Rows.uptoBulk]
      refine Nat.le_trans this ?_
      omega
    · refine Nat.le_trans ?_ (qmd _ _)
      simp only [List.length_map, List.length_range]
      omega
theorem trodU_part {fuel : Nat} {cs : List Value} {x : DataW H × List MemPlace} (h : DataW.trod enc Tryz.prog W 0 (fun _ => true) true fuel 41 cs = some x) : ∃ p : Sp, cs = p.c ∧ SpR W p ∧ Tr.bulks (p.vs.map Dt.tr) ≤ Rows.uptoBulk x.1 := by
  obtain ⟨xs, n, hfu, hx, hl, hxl, hf⟩ := DataW.trod_struct Tryz.underlying41 h
  rw [show Tryz.prog.cellsOf 41 = 2 from by kernel_rfl] at hl
  match cs, hl with
  | [v0, v1], _ =>
    match xs, hxl with
    | [x0, x1], _ =>
      have g0 := hf 0 _ rfl
      have g1 := hf 1 _ rfl
      have c1 : Tryz.prog.cellsOf 3 = 1 := by kernel_rfl
      have c3 : Tryz.prog.cellsOf 39 = 1 := by kernel_rfl
      simp only [c1, c3, List.drop_zero, List.take_succ_cons, List.take_zero, List.drop_succ_cons, List.getElem?_cons_zero, List.getElem?_cons_succ] at g0 g1
      obtain ⟨z0, e0, _, _⟩ := DataW.trod_int Tryz.underlying3 g0
      obtain ⟨lo, lc, ts, e5, hlc, hlm, hrt, hrd, b5⟩ := qme (fun n' _ => open_dt n') g1
      have hbx : Rows.uptoBulk x.1 = Rows.uptoBulk x0.1 + (Rows.uptoBulk x1.1 + 0) + 1 := by
        rw [hx, qdi]
        simp only [List.map_cons, List.map_nil, Rows.uptoBulkAll]
      refine ⟨⟨z0, lo, lc, ts⟩, ?_, ⟨hrt, hrd⟩, by show Tr.bulks (ts.map Dt.tr) ≤ _; omega⟩
      injection e0 with f0
      subst f0 e5
      rfl
theorem sum_mem {α : Type} {l : List (α × Nat)} {q : α × Nat} (h : q ∈ l) : q.2 ≤ (l.map Prod.snd).sum := by
  induction l with
  | nil => cases h
  | cons a l ih =>
    rw [List.map_cons, List.sum_cons]
    rcases List.mem_cons.1 h with rfl | h
    · omega
    · have := ih h
      omega
theorem trodU_parts {fuel : Nat} {v : Value} {y : DataW H × List MemPlace} (h : DataW.trod enc Tryz.prog W 0 (fun _ => true) true fuel 34 [v] = some y) :
    ∃ so cap, ∃ ps : List Sp, v = .slice so ps.length cap ∧ PR W so ps ∧ (∀ p ∈ ps, Tr.bulks (p.vs.map Dt.tr) ≤ Rows.uptoBulk y.1) ∧ ps.length ≤ Rows.uptoBulk y.1 := by
  obtain ⟨so, cap, l, e, h1, h2, h3, h4⟩ := open_row (f := Sp.c) qfa (by decide) Tryz.underlying34 (by kernel_rfl) (P := fun p b => SpR W p ∧ Tr.bulks (p.vs.map Dt.tr) ≤ b) zm (fun n cs x hx => trodU_part hx) h
  refine ⟨so, cap, l.map Prod.fst, by rw [List.length_map]; exact e, ⟨h1, fun p hp => ?_⟩, fun p hp => ?_, by rw [List.length_map]; exact h4⟩
  · obtain ⟨q, hq, rfl⟩ := List.mem_map.1 hp
    exact (h2 q hq).1
  · obtain ⟨q, hq, rfl⟩ := List.mem_map.1 hp
    exact Nat.le_trans (h2 q hq).2 (Nat.le_trans (sum_mem hq) h3)
theorem open_parts {base : Nat} {v : Value} {d : DataW H} {p : List MemPlace} (hv : Value.okWide Tryz.prog W .any base 34 v) (h : DataW.Trod enc Tryz.prog W 0 (fun _ => true) true 34 v d p) :
    ∃ so cap, ∃ ps : List Sp, v = .slice so ps.length cap ∧ PR W so ps ∧ (∀ p ∈ ps, Tr.bulks (p.vs.map Dt.tr) ≤ Rows.uptoBulk d) ∧ ps.length ≤ Rows.uptoBulk d := by
  obtain ⟨a, n, c, rfl⟩ := okWide_slice Tryz.underlying34 hv
  obtain ⟨fuel, hf⟩ := h
  exact trodU_parts (v := .slice a n c) hf
theorem allP_sum {l : List (Cn × Nat)} (h : ∀ q ∈ l, q.1.ps.length ≤ q.2) : (zu (l.map Prod.fst)).length ≤ (l.map Prod.snd).sum := by
  induction l with
  | nil => exact Nat.le_refl _
  | cons a l ih =>
    have h1 := ih fun q hq => h q (List.mem_cons_of_mem _ hq)
    have h2 := h a List.mem_cons_self
    unfold zu at h1 ⊢
    rw [List.map_cons, List.map_cons, List.flatMap_cons, List.length_append, List.sum_cons]
    omega
theorem open_partss {base : Nat} {v : Value} {d : DataW H} {p : List MemPlace} (hv : Value.okWide Tryz.prog W .any base 33 v) (h : DataW.Trod enc Tryz.prog W 0 (fun _ => true) true 33 v d p) :
    ∃ lo lc, ∃ ls : List Cn, v = .slice lo ls.length lc ∧ CR W lo ls ∧ (∀ p ∈ zu ls, Tr.bulks (p.vs.map Dt.tr) ≤ Rows.uptoBulk d) ∧ ls.length ≤ Rows.uptoBulk d ∧ (zu ls).length ≤ Rows.uptoBulk d := by
  obtain ⟨a, n, c, rfl⟩ := okWide_slice Tryz.underlying33 hv
  obtain ⟨fuel, hf⟩ := h
  obtain ⟨so, cap, l, e, h1, h2, h3, h4⟩ := open_row (v := .slice a n c) (f := Cn.c) cn_len (by decide) Tryz.underlying33 (by kernel_rfl) (P := fun c b => PR W c.so c.ps ∧ (∀ p ∈ c.ps, Tr.bulks (p.vs.map Dt.tr) ≤ b) ∧ c.ps.length ≤ b) ⟨none, 0, []⟩ (fun n cs x hx => by
    obtain ⟨v, rfl⟩ : ∃ v, cs = [v] := by rcases DataW.trod_slice Tryz.underlying34 hx with ⟨hcs, _⟩ | ⟨_, _, _, _, _, _, _, hcs, _⟩ <;> exact ⟨_, hcs⟩
    obtain ⟨so, cap, ps, e, g1, g2, g3⟩ := trodU_parts hx
    exact ⟨⟨so, cap, ps⟩, by rw [e]; rfl, g1, g2, g3⟩) hf
  refine ⟨so, cap, l.map Prod.fst, by rw [List.length_map]; exact e, ⟨h1, fun c hc => ?_⟩, fun p hp => ?_, by rw [List.length_map]; exact h4, Nat.le_trans (allP_sum fun q hq => (h2 q hq).2.2) h3⟩
  · obtain ⟨q, hq, rfl⟩ := List.mem_map.1 hc
    exact (h2 q hq).1
  · obtain ⟨c, hc, hp⟩ := uu hp
    obtain ⟨q, hq, rfl⟩ := List.mem_map.1 hc
    exact Nat.le_trans ((h2 q hq).2.1 p hp) (Nat.le_trans (sum_mem hq) h3)
end
end Go.Proofs.YtdpakekdbkpdfaaGreatDoor.G
