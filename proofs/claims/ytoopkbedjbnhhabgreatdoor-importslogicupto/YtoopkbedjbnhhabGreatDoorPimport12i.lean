/- ArgD ArgI -/
import Derived.Test.YtoopkbedjbnhhabGreatDoorPimport12h
import Derived.Test.YtoopkbedjbnhhabGreatDoorPimport12c
import Derived.Test.YtoopkbedjbnhhabGreatDoorPimport12f
import Derived.Deep.Slices
import Derived.DataElems
set_option linter.unusedVariables false
set_option linter.unusedSimpArgs false
set_option maxHeartbeats 1000000
namespace Go.Proofs.YtoopkbedjbnhhabGreatDoor.G
open Go.ChangeShapes Go.WideShapes Go.ChangeAt Go.RowKit Go.Joins Go.Deep
set_option maxRecDepth 100000

def Nu.cells (y : Nu) : List Value := [.bool y.q.b1, .slice y.o1 y.q.t1.length y.c1, .slice y.o2 y.q.q1.length y.c2, .bool y.q.b2, .slice y.o3 y.q.t2.length y.c3, .slice y.o4 y.q.q2.length y.c4]
theorem cellD_lt {w : World} {b o : Nat} {v : Value} (h : w.cell? ⟨b, o, none⟩ = some v) : b < w.heap.size := by
  apply Classical.byContradiction
  intro k
  simp [World.cell?, Array.getElem?_eq_none (Nat.le_of_not_lt k)] at h
section
variable {H : Type} {enc : TypeId × Value → H} {W : World}
theorem qke (l : List (DataW H)) : Rows.uptoBulk (.agg l) = Rows.uptoBulkAll l + 1 := by simp only [Rows.uptoBulk]
theorem trodU_bytes {fuel : Nat} {v : Value} {x : DataW H × List MemPlace} (h : DataW.trod enc Tryz.prog W 0 (fun _ => true) true fuel 28 [v] = some x) : ∃ so cap l, v = .slice so (l : List UInt8).length cap ∧ Rb W so l ∧ l.length ≤ cap ∧ cap ≤ 9223372036854775807 ∧ l.length ≤ Rows.uptoBulk x.1 := by
  rcases open_ints Tryz.underlying28 Tryz.underlying5 (by kernel_rfl) h with ⟨hcs, _⟩ | ⟨x, l, c, zs, hcs, _, hl, hm, hz, hx, hcell, hwz⟩
  · simp only [List.cons.injEq, and_true] at hcs
    subst hcs
    exact ⟨none, 0, [], rfl, ⟨fun k => absurd rfl k⟩, Nat.le_refl _, by decide, Nat.zero_le _⟩
  · simp only [List.cons.injEq, and_true] at hcs
    subst hcs
    obtain ⟨us, e, ha⟩ := bytes_row hl (by simpa using hz) hcell hwz
    subst e
    subst hx
    refine ⟨_, _, us, rfl, ha, hl, hm, ?_⟩
    simp only [if_true] at hz
    refine Nat.le_trans ?_ (qkd _ _)
    simp only [lits, List.length_map, List.length_take, List.length_drop]
    omega
theorem qfg {fuel : Nat} {v : Value} {x : DataW H × List MemPlace} (h : DataW.trod enc Tryz.prog W 0 (fun _ => true) true fuel 23 [v] = some x) : ∃ ao c l, v = .slice ao (l : List Nat).length c ∧ Arg W ao c l ∧ l.length ≤ Rows.uptoBulk x.1 := by
  rcases open_ints Tryz.underlying23 Tryz.underlying126 (by kernel_rfl) h with ⟨hcs, _⟩ | ⟨x, l, c, zs, hcs, _, hl, hm, hz, hx, hcell, hwz⟩
  · cases hcs
    exact ⟨none, 0, [], rfl, arg_nil W, Nat.zero_le _⟩
  · cases hcs
    obtain ⟨us, e, ha⟩ := arg_row hl hm (by simpa using hz) hcell hwz
    subst e
    subst hx
    refine ⟨_, _, us, rfl, ha, ?_⟩
    simp only [if_true] at hz
    refine Nat.le_trans ?_ (qkd _ _)
    simp only [lits, List.length_map, List.length_take, List.length_drop]
    omega
theorem trodU_rat {fuel : Nat} {v0 v1 v2 : Value} {x : DataW H × List MemPlace} (h : DataW.trod enc Tryz.prog W 0 (fun _ => true) true fuel 25 [v0, v1, v2] = some x) : ∃ b o1 c1 l1 o2 c2 l2, v0 = .bool b ∧ v1 = .slice o1 (l1 : List Nat).length c1 ∧ v2 = .slice o2 (l2 : List Nat).length c2 ∧ Arg W o1 c1 l1 ∧ Arg W o2 c2 l2 ∧ l1.length + l2.length ≤ Rows.uptoBulk x.1 := by
  obtain ⟨y0, y1, y2, n, hx, _, h0, h1, h2⟩ := trod_struct3 Tryz.underlying25 h
  have e0 : Tryz.prog.cellsOf 4 = 1 := by kernel_rfl
  have e1 : Tryz.prog.cellsOf 23 = 1 := by kernel_rfl
  simp only [e0, e1, List.drop_zero, List.take_succ_cons, List.take_zero, List.drop_succ_cons] at h0 h1 h2
  obtain ⟨b, rfl⟩ := trod_bool h0
  obtain ⟨o1, c1, l1, rfl, a1, k1⟩ := qfg h1
  obtain ⟨o2, c2, l2, rfl, a2, k2⟩ := qfg h2
  refine ⟨b, o1, c1, l1, o2, c2, l2, rfl, rfl, rfl, a1, a2, ?_⟩
  rw [hx, qke]
  simp only [Rows.uptoBulkAll]
  omega
theorem trodU_num {fuel : Nat} {cs : List Value} {x : DataW H × List MemPlace} (hl : cs.length = 6) (h : DataW.trod enc Tryz.prog W 0 (fun _ => true) true fuel 27 cs = some x) :
    ∃ y : Nu, cs = y.cells ∧ y.nm W ∧ LenQ y.q ∧ y.q.t1.length + y.q.q1.length + (y.q.t2.length + y.q.q2.length) ≤ Rows.uptoBulk x.1 := by
  match cs, hl with
  | [v0, v1, v2, v3, v4, v5], _ =>
    obtain ⟨y0, y1, n, hx, _, h0, h1⟩ := trod_struct2 Tryz.underlying27 h
    have e : Tryz.prog.cellsOf 25 = 3 := by kernel_rfl
    simp only [e, List.drop_zero, List.take_succ_cons, List.take_zero, List.drop_succ_cons] at h0 h1
    obtain ⟨b1, o1, c1, l1, o2, c2, l2, rfl, rfl, rfl, a1, a2, k1⟩ := trodU_rat h0
    obtain ⟨b2, o3, c3, l3, o4, c4, l4, rfl, rfl, rfl, a3, a4, k2⟩ := trodU_rat h1
    refine ⟨⟨⟨b1, l1, l2, b2, l3, l4⟩, o1, c1, o2, c2, o3, c3, o4, c4⟩, rfl, ⟨⟨a1.rd, a1.nil, a1.caps⟩, ⟨a2.rd, a2.nil, a2.caps⟩, ⟨a3.rd, a3.nil, a3.caps⟩, ⟨a4.rd, a4.nil, a4.caps⟩⟩, ⟨a1.len, a2.len, a3.len, a4.len⟩, ?_⟩
    rw [hx, qke]
    simp only [Rows.uptoBulkAll]
    omega
def OpenD (H : Type) (enc : TypeId × Value → H) (W : World) (fuel : Nat) : Prop := ∀ (cs : List Value) (x : DataW H × List MemPlace), DataW.trod enc Tryz.prog W 0 (fun _ => true) true fuel 31 cs = some x → ∃ t : Dt, cs = t.cells ∧ t.rd W ∧ t.tr.bulk ≤ Rows.uptoBulk x.1
theorem trodU_data {fuel : Nat} {v : Value} {x : DataW H × List MemPlace} (ih : ∀ n, n < fuel → OpenD H enc W n) (h : DataW.trod enc Tryz.prog W 0 (fun _ => true) true fuel 29 [v] = some x) :
    ∃ lo lc ts, v = .slice lo (ts : List Dt).length lc ∧ ts.length ≤ lc ∧ lc ≤ 9223372036854775807 ∧ Rt W lo ts ∧ (∀ t ∈ ts, t.rd W) ∧ Tr.bulks (ts.map Dt.tr) ≤ Rows.uptoBulk x.1 := by
  rcases DataW.trod_slice Tryz.underlying29 h with ⟨hcs, _⟩ | ⟨a, len, cap, elems, rest, n, hf, hcs, hx, _, hl, hm, hlen, hel, _, _⟩
  · simp only [List.cons.injEq, and_true] at hcs
    subst hcs
    exact ⟨none, 0, [], rfl, Nat.le_refl _, by decide, fun k => absurd rfl k, fun _ k => by simp at k, Nat.zero_le _⟩
  · simp only [List.cons.injEq, and_true] at hcs
    subst hcs
    rw [show Tryz.prog.cellsOf 31 = 11 from by kernel_rfl] at hel
    have each : ∀ i, ∃ t : Dt, i < len → t.rd W ∧ (∀ j v, t.cells[j]? = some v → W.cell? ((a.add (i * 11)).add j) = some v) ∧ ∃ y, elems[i]? = some y ∧ t.tr.bulk ≤ Rows.uptoBulk y.1 := by
      intro i
      by_cases hi : i < len
      · have h1 := hel i hi
        rw [List.getElem?_eq_getElem (by omega)] at h1
        obtain ⟨cs, h2, h3⟩ := Option.bind_eq_some_iff.1 h1
        obtain ⟨_, hlc, hcell⟩ := World.cells?_some h2
        obtain ⟨t, rfl, hr, hb⟩ := ih n (by omega) cs _ h3
        exact ⟨t, fun _ => ⟨hr, fun j v hj => by rw [hcell j (by have := (List.getElem?_eq_some_iff.1 hj).1; rw [hlc] at this; exact this)]; exact hj, _, List.getElem?_eq_getElem (by omega), hb⟩⟩
      · exact ⟨.mk ⟨0, 0, ⟨⟨false, [], [], false, [], []⟩, none, 0, none, 0, none, 0, none, 0⟩, ⟨#[]⟩, none, 0, [], none, 0⟩ [], fun k => absurd k hi⟩
    obtain ⟨F, hF⟩ := Classical.skolem.1 each
    have hget : ∀ (j : Nat) (q : Dt), ((List.range len).map F)[j]? = some q → j < len ∧ q = F j := by
      intro j q hq
      rw [List.getElem?_map] at hq
      obtain ⟨y, h1, h2⟩ := Option.map_eq_some_iff.1 hq
      obtain ⟨h3, h4⟩ := List.getElem?_eq_some_iff.1 h1
      rw [List.length_range] at h3
      rw [List.getElem_range] at h4
      subst h4
      exact ⟨h3, h2.symm⟩
    refine ⟨some a, cap, (List.range len).map F, by simp, by simpa using hl, hm, fun hne => ?_, fun t ht => ?_, ?_⟩
    · have hn : 0 < len := by
        apply Classical.byContradiction
        intro k
        exact hne (by rw [show len = 0 from by omega]; rfl)
      obtain ⟨b, off, spot⟩ := a
      have h0 := (hF 0 hn).2.1 0 _ rfl
      have hspot : spot = none := by simpa [Addr.add] using World.cell?_spot h0
      subst hspot
      refine ⟨b, off, rfl, fun i t hi => ?_⟩
      obtain ⟨hlt, rfl⟩ := hget i t hi
      have hat : ∀ j v, (F i).cells[j]? = some v → W.cell? ⟨b, off + i * 11 + j, none⟩ = some v := fun j v hj => by
        have := (hF i hlt).2.1 j v hj
        rwa [Addr.add_lit, Addr.add_lit] at this
      exact ⟨cellD_lt (hat 0 _ rfl), hat⟩
    · obtain ⟨j, hj⟩ := List.mem_iff_getElem?.1 ht
      obtain ⟨h1, rfl⟩ := hget j t hj
      exact (hF j h1).1
    · rw [hx]
      have key : ∀ m, m ≤ len → Tr.bulks (((List.range m).map F).map Dt.tr) ≤ Rows.uptoBulkAll ((elems.map (·.1)).take m) := by
        intro m
        induction m with
        | zero => intro _; simp [Tr.bulks]
        | succ m ih2 =>
          intro hm2
          have hs : ∀ (l : List Tr) (t : Tr), Tr.bulks (l ++ [t]) = Tr.bulks l + t.bulk := by
            intro l t
            induction l with
            | nil => simp [Tr.bulks]
            | cons u l ih3 => simp only [List.cons_append, Tr.bulks, ih3]; omega
          have hu : ∀ (l : List (DataW H)) (d : DataW H), Rows.uptoBulkAll (l ++ [d]) = Rows.uptoBulkAll l + Rows.uptoBulk d := by
            intro l d
            induction l with
            | nil => simp [Rows.uptoBulkAll]
            | cons u l ih3 => simp only [List.cons_append, Rows.uptoBulkAll, ih3]; omega
          obtain ⟨_, _, y, hy, hb⟩ := hF m (by omega)
          have := ih2 (by omega)
          rw [List.range_succ, List.map_append, List.map_append, List.take_add_one, List.getElem?_map, hy]
          simp only [List.map_cons, List.map_nil, Option.map_some, Option.toList_some]
          rw [hs, hu]
          omega
      have h1 := key len (Nat.le_refl _)
      rw [List.take_of_length_le (by rw [List.length_map]; omega)] at h1
      simp only [Rows.uptoBulk]
      omega
theorem open_dt : ∀ fuel, OpenD H enc W fuel := by
  intro fuel
  induction fuel using Nat.strongRecOn with
  | ind fuel ih =>
    intro cs x h
    obtain ⟨xs, n, hfu, hx, hl, hxl, hf⟩ := DataW.trod_struct Tryz.underlying31 h
    rw [show Tryz.prog.cellsOf 31 = 11 from by kernel_rfl] at hl
    match cs, hl with
    | [v0, v1, v2, v3, v4, v5, v6, v7, v8, v9, v10], _ =>
      match xs, hxl with
      | [x0, x1, x2, x3, x4, x5], _ =>
        have g0 := hf 0 _ rfl
        have g1 := hf 1 _ rfl
        have g2 := hf 2 _ rfl
        have g3 := hf 3 _ rfl
        have g4 := hf 4 _ rfl
        have g5 := hf 5 _ rfl
        have c1 : Tryz.prog.cellsOf 3 = 1 := by kernel_rfl
        have c2 : Tryz.prog.cellsOf 27 = 6 := by kernel_rfl
        have c3 : Tryz.prog.cellsOf 9 = 1 := by kernel_rfl
        have c4 : Tryz.prog.cellsOf 28 = 1 := by kernel_rfl
        have c5 : Tryz.prog.cellsOf 29 = 1 := by kernel_rfl
        simp only [c1, c2, c3, c4, c5, List.drop_zero, List.take_succ_cons, List.take_zero, List.drop_succ_cons, List.getElem?_cons_zero, List.getElem?_cons_succ] at g0 g1 g2 g3 g4 g5
        obtain ⟨k, e0, _, w0⟩ := DataW.trod_int Tryz.underlying3 g0
        obtain ⟨m, e1, _, w1⟩ := DataW.trod_int Tryz.underlying3 g1
        obtain ⟨y, e2, hy, hq, b2⟩ := trodU_num rfl g2
        obtain ⟨s, e3, hs, hsm⟩ := DataW.trod_string Tryz.underlying9 g3
        obtain ⟨ro, rc, rl, e4, hr, hrc, hrm, b4⟩ := trodU_bytes g4
        obtain ⟨lo, lc, ts, e5, hlc, hlm, hrt, hrd, b5⟩ := trodU_data (fun n' hn' => ih n' (by omega)) g5
        have bk := bounds_i64 w0
        have bm := bounds_i64 w1
        refine ⟨.mk ⟨k, m, y, s, ro, rc, rl, lo, lc⟩ ts, ?_, ?_, ?_⟩
        · injection e0 with f0
          injection e1 with f1
          injection e3 with f3
          injection e2 with e20 g
          injection g with e21 g
          injection g with e22 g
          injection g with e23 g
          injection g with e24 g
          injection g with e25 g
          subst f0 f1 f3 e4 e5 e20 e21 e22 e23 e24 e25
          rfl
        · rw [Dt.rd_iff]
          exact ⟨⟨hy, hq, hr, hrc, hrm, bk.1, bk.2, bm.1, bm.2, hsm⟩, hlc, hlm, hrt, hrd⟩
        · rw [Dt.tr_mk, yi, hx, qke]
          have h3 : Rows.uptoBulk x3.1 = s.size + 1 := by
            rw [hs]
            rw [show Rows.uptoBulk (DataW.lit (H := H) (.string s.data.toList)) = s.data.toList.length + 1 from by simp only [Rows.uptoBulk], Array.length_toList]
            rfl
          simp only [List.map_cons, List.map_nil, Rows.uptoBulkAll]
          have := bulk_pos x0.1
          omega
theorem qkf {base : Nat} {v : Value} {d : DataW H} {p : List MemPlace} (hv : Value.okWide Tryz.prog W .any base 31 v) (h : DataW.Trod enc Tryz.prog W 0 (fun _ => true) true 31 v d p) :
    ∃ t : Dt, v = .agg t.cells.toArray ∧ t.rd W ∧ t.tr.bulk ≤ Rows.uptoBulk d := by
  obtain ⟨cs, rfl, hsz⟩ := okWide_struct Tryz.underlying31 hv
  obtain ⟨fuel, hf⟩ := h
  obtain ⟨t, e, hr, hb⟩ := open_dt fuel _ _ hf
  refine ⟨t, ?_, hr, hb⟩
  rw [← e]
  rfl
end
end Go.Proofs.YtoopkbedjbnhhabGreatDoor.G
namespace Go.Proofs.YtoopkbedjbnhhabGreatDoor.G
open Go.ChangeShapes Go.WideShapes Go.ChangeAt Go.RowKit Go.Joins Go.Deep
set_option maxRecDepth 100000
theorem row_ofI {w : World} {x : Addr} {vs : List Value} (hc : ∀ (i : Nat) v, vs[i]? = some v → w.cell? (x.add i) = some v) : Rc w (some x) vs := by
  intro hne
  obtain ⟨v, h0⟩ : ∃ v, vs[0]? = some v := by
    cases vs with
    | nil => exact absurd rfl hne
    | cons v t => exact ⟨v, rfl⟩
  obtain ⟨b, off, spot⟩ := x
  have hspot : spot = none := by
    have h2 := hc 0 v h0
    simp only [World.cell?, Addr.add] at h2
    split at h2
    · cases spot with
      | none => rfl
      | some s => simp at h2
    · cases h2
  subst hspot
  refine ⟨b, off, rfl, fun p u hp => ?_⟩
  have h2 := hc p u hp
  rw [Addr.add_lit] at h2
  exact h2
section
variable {H : Type} {enc : TypeId × Value → H} {W : World}
theorem trodU_ints {fuel : Nat} {v : Value} {y : DataW H × List MemPlace} (hf : DataW.trod enc Tryz.prog W 0 (fun _ => true) true fuel 22 [v] = some y) :
    ∃ so cap l, v = .slice so (l : List Int).length cap ∧ Rc W so (G.izC l) ∧ l.length ≤ Rows.uptoBulk y.1 := by
  rcases DataW.trod_slice Tryz.underlying22 hf with ⟨hcs, _⟩ | ⟨x, len, cap, elems, rest, m, _, hcs, hx, _, hl, hm, hlen, hel, _, _⟩
  · simp at hcs
    subst hcs
    exact ⟨none, 0, [], rfl, fun h => absurd rfl h, Nat.zero_le _⟩
  · simp at hcs
    subst hcs
    subst hx
    have each : ∀ i, ∃ z : Int, i < len → W.cell? (x.add i) = some (.int .i64 z) := by
      intro i
      by_cases hi : i < len
      · have hE := hel i hi
        rw [show Tryz.prog.cellsOf 3 = 1 by kernel_rfl, Nat.mul_one] at hE
        rw [List.getElem?_eq_getElem (by omega), Option.bind_eq_some_iff] at hE
        obtain ⟨c1, hc1, hy1⟩ := hE
        obtain ⟨z, rfl, _⟩ := DataW.trod_int Tryz.underlying3 hy1
        exact ⟨z, fun _ => cell_of_cells?_one hc1⟩
      · exact ⟨0, fun k => absurd k hi⟩
    obtain ⟨F, hF⟩ := Classical.skolem.1 each
    refine ⟨some x, cap, (List.range len).map F, by simp, row_ofI fun i v hi => ?_, ?_⟩
    · have hlt := (List.getElem?_eq_some_iff.1 hi).1
      simp only [G.izC, List.length_map, List.length_range] at hlt
      simp only [G.izC, List.map_map, List.getElem?_map, List.getElem?_range hlt, Option.map_some, Function.comp, Option.some.injEq] at hi
      rw [← hi]
      exact hF i hlt
    · refine Nat.le_trans ?_ (qkd _ _)
      simp only [List.length_map, List.length_range]
      omega
theorem open_intsI {base : Nat} {v : Value} {d : DataW H} {p : List MemPlace} (hv : Value.okWide Tryz.prog W .any base 22 v) (h : DataW.Trod enc Tryz.prog W 0 (fun _ => true) true 22 v d p) :
    ∃ so cap l, v = .slice so (l : List Int).length cap ∧ Rc W so (G.izC l) ∧ l.length ≤ Rows.uptoBulk d := by
  obtain ⟨a, n, c, rfl⟩ := okWide_slice Tryz.underlying22 hv
  obtain ⟨fuel, hf⟩ := h
  obtain ⟨so, cap, l, e, hr, hb⟩ := trodU_ints hf
  exact ⟨so, cap, l, e, hr, hb⟩
end
end Go.Proofs.YtoopkbedjbnhhabGreatDoor.G
