/- Worlds, scripts and rows that come in as arguments. -/
import Derived.Test.YtcjgjbaadmohbaaWm
import Derived.WalkKit
import Derived.ProofKit
import Derived.OpenShut
import Derived.ChangeOld
import Derived.Lib.SmallJoins
import Derived.Deep.Strs
import Derived.Deep.SlicePairs
import Derived.SizedLaws
namespace Go.Proofs.Ytcjgjbaadmohbaa
open Go.RowKit
set_option linter.unusedVariables false
set_option linter.unusedSimpArgs false
set_option maxRecDepth 100000

open Go.ChangeShapes Go.WideShapes Go.ChangeAt Go.RowKit Go.Joins Go.Deep
section
variable {H : Type} {P : Program}
/-- No weight of it goes beyond what can be reached. -/
def Sm (P : Program) (t : TypeId) (d : DataW H) : Prop := ∀ n ∈ d.weights P t, n ≤ 140737488351232
theorem sm_arg {ts : List TypeId} {ds : List (DataW H)} (h : (DataW.weightsEach P ts ds).all (· ≤ reachBytes) = true) {j : Nat} {t : TypeId} {d : DataW H} (ht : ts[j]? = some t) (hd : ds[j]? = some d) : Sm P t d := fun n hn => by
  have h2 : n ≤ reachBytes := of_decide_eq_true (List.all_eq_true.1 h _ (DataW.weights_mem_each ht hd n hn))
  unfold reachBytes at h2
  omega
theorem sm_agg {t : TypeId} {fs : Array Field} {ds : List (DataW H)} (hu : P.underlying t = some (.struct fs)) (h : Sm P t (.agg ds)) {j : Nat} {u : TypeId} {d : DataW H} (ht : (fs.toList.map (·.type))[j]? = some u) (hd : ds[j]? = some d) : Sm P u d := fun n hn => h n (by
  unfold DataW.weights
  rw [hu]
  exact DataW.weights_mem_each ht hd n hn)
theorem weights_all {e : TypeId} {d : DataW H} : ∀ {ds : List (DataW H)}, d ∈ ds → ∀ n ∈ d.weights P e, n ∈ DataW.weightsAll P e ds
  | c :: ds, h, n, hn => by
    unfold DataW.weightsAll
    rcases List.mem_cons.1 h with rfl | h
    · exact List.mem_append_left _ hn
    · exact List.mem_append_right _ (weights_all h n hn)
theorem sm_slice {t e : TypeId} {xs ys : List (DataW H)} (hu : P.underlying t = some (.slice e)) (h : Sm P t (.slice xs ys)) : (xs.length + ys.length) * P.bytesOf e ≤ 140737488351232 ∧ ∀ d ∈ xs, Sm P e d := by
  have hw : (DataW.slice xs ys).weights P t = (xs.length + ys.length) * P.bytesOf e :: (DataW.weightsAll P e xs ++ DataW.weightsAll P e ys) := by simp only [DataW.weights, hu]
  refine ⟨h _ (by rw [hw]; exact List.mem_cons_self), fun d hd n hn => h n ?_⟩
  rw [hw]
  exact List.mem_cons_of_mem _ (List.mem_append_left _ (weights_all hd n hn))
end
theorem b8w {z : Int} (h0 : 0 ≤ z) (h1 : z < 256) : (((UInt8.ofNat z.toNat).toNat : Nat) : Int) = z := by
  rw [UInt8.toNat_ofNat', Nat.mod_eq_of_lt (by omega)]; omega
theorem cell_lt {w : World} {b o : Nat} {v : Value} (h : w.cell? ⟨b, o, none⟩ = some v) : b < w.heap.size := by
  apply Classical.byContradiction
  intro k
  simp [World.cell?, Array.getElem?_eq_none (Nat.le_of_not_lt k)] at h
theorem addr_none {w : World} {a : Addr} {k : Nat} {v : Value} (hk : k = 0) (h : w.cell? (a.add k) = some v) : ∃ b o, a = ⟨b, o, none⟩ := by
  subst hk
  obtain ⟨b, o, spot⟩ := a
  have hspot : spot = none := by simpa [Addr.add] using World.cell?_spot h
  subst hspot
  exact ⟨b, o, rfl⟩
theorem bytes_rowW {w : World} {x : Addr} {len cap : Nat} {zs : List Int} (hl : len ≤ cap) (hz : zs.length = cap)
    (hc : ∀ i, i < zs.length → w.cell? (x.add i) = some (.int .u8 (zs.getD i 0))) (hw : ∀ n ∈ zs, (Lit.int .u8 n).wf = true) :
    ∃ l : List UInt8, l.length = len ∧ Rb w (some x) l := by
  have hbd : ∀ n ∈ zs, 0 ≤ n ∧ n < 256 := by
    intro n hn
    have := bounds_u8 (hw n hn)
    omega
  refine ⟨(zs.take len).map fun z => UInt8.ofNat z.toNat, by rw [List.length_map, List.length_take]; omega, ⟨fun hne => ?_⟩⟩
  have hlen : ((zs.take len).map fun z => UInt8.ofNat z.toNat).length = len := by rw [List.length_map, List.length_take]; omega
  have h0 : 0 < len := by
    apply Classical.byContradiction
    intro h
    have : len = 0 := by omega
    subst this
    simp at hne
  obtain ⟨b, off, rfl⟩ := addr_none rfl (hc 0 (by omega))
  have hcj : ∀ j, j < len → w.cell? ⟨b, off + j, none⟩ = some (.int .u8 (((((zs.take len).map fun z => UInt8.ofNat z.toNat).getD j 0).toNat : Nat) : Int)) := by
    intro j hj
    have h1 := hc j (by omega)
    rw [Addr.add_lit] at h1
    rw [h1]
    have hjz : j < zs.length := by omega
    have h2 := hbd zs[j] (List.getElem_mem hjz)
    have e1 : zs.getD j 0 = zs[j] := by simp [hjz]
    have e2 : ((zs.take len).map fun z => UInt8.ofNat z.toNat).getD j 0 = UInt8.ofNat zs[j].toNat := by simp [List.getD_eq_getElem?_getD, hj, hjz]
    rw [e1, e2, b8w h2.1 h2.2]
  exact ⟨b, off, rfl, cell_lt (hcj 0 h0), fun j hj => hcj j (by omega)⟩
theorem bytesBW : Try.prog.bytesOf 5 = 1 := by kernel_rfl
theorem bytesFW : Try.prog.bytesOf 88 = 40 := by kernel_rfl
theorem bytesOW : 32 ≤ Try.prog.bytesOf 41 := by decide +kernel
theorem bytesSW : Try.prog.bytesOf 24 = 24 := by kernel_rfl
section
variable {H : Type} {enc : TypeId × Value → H} {W : World}
theorem open_bytesS {fuel : Nat} {v : Value} {x : DataW H × List MemPlace} (h : DataW.trod enc Try.prog W 0 (fun _ => true) true fuel 24 [v] = some x) (hs : Sm Try.prog 24 x.1) : ∃ so cap l, v = .slice so l.length cap ∧ Rb W so l ∧ l.length ≤ cap ∧ l.length ≤ 140737488351232 := by
  rcases open_ints Try.underlying24 Try.underlying5 (by kernel_rfl) h with ⟨hcs, _⟩ | ⟨x, l, c, zs, hcs, _, hl, hm, hz, rfl, hcell, hwz⟩
  · simp only [List.cons.injEq, and_true] at hcs
    subst hcs
    exact ⟨none, 0, [], rfl, rb_nil, Nat.le_refl _, by simp⟩
  · simp only [List.cons.injEq, and_true] at hcs
    subst hcs
    obtain ⟨us, e, ha⟩ := bytes_rowW hl (by simpa using hz) hcell hwz
    subst e
    have := (sm_slice Try.underlying24 hs).1
    rw [bytesBW] at this
    simp only [if_true] at hz
    simp only [lits, List.length_map, List.length_take, List.length_drop] at this
    exact ⟨_, _, us, rfl, ha, hl, by omega⟩
theorem open_files {fuel : Nat} {v : Value} {x : DataW H × List MemPlace} (h : DataW.trod enc Try.prog W 0 (fun _ => true) true fuel 35 [v] = some x) (hs : Sm Try.prog 35 x.1) : ∃ so cap fs, v = .slice so (fs : List Fl).length cap ∧ Rf W so fs ∧ fs.length * 40 ≤ 140737488351232 ∧ ∀ f ∈ fs, f.2.length ≤ 140737488351232 := by
  rcases open_slice_pairs Try.underlying35 Try.underlying88 (by kernel_rfl) (by kernel_rfl) (by kernel_rfl) (by kernel_rfl) (by kernel_rfl) h with ⟨hcs, _⟩ | ⟨a, len, cap, m, n, V0, V1, D0, D1, P0, P1, hcs, _, hl, hm, hmm, rfl, hc⟩
  · simp only [List.cons.injEq, and_true] at hcs
    subst hcs
    exact ⟨none, 0, [], rfl, Rf.nil _ _, by simp, by simp⟩
  · simp only [List.cons.injEq, and_true] at hcs
    subst hcs
    obtain ⟨s1, s2⟩ := sm_slice Try.underlying35 hs
    rw [bytesFW] at s1
    simp only [List.length_map, List.length_range] at s1
    simp only [if_true] at hmm
    have each : ∀ i, ∃ q : Fl × Option Addr × Nat, i < len → V0 i = .string q.1.1 ∧ V1 i = .slice q.2.1 q.1.2.length q.2.2 ∧ Rb W q.2.1 q.1.2 ∧ q.1.2.length ≤ q.2.2 ∧ q.1.2.length ≤ 140737488351232 := by
      intro i
      by_cases hi : i < len
      · obtain ⟨_, _, t0, t1⟩ := hc i (by omega)
        obtain ⟨s, e0, _⟩ := DataW.trod_string Try.underlying9 t0
        have hd := s2 _ (List.mem_map.2 ⟨i, List.mem_range.2 hi, rfl⟩)
        obtain ⟨so, ca, l, e1, r1, r2, r3⟩ := open_bytesS t1 (sm_agg Try.underlying88 hd (j := 1) rfl rfl)
        exact ⟨((s, l), so, ca), fun _ => ⟨by simpa using e0, e1, r1, r2, r3⟩⟩
      · exact ⟨((⟨#[]⟩, []), none, 0), fun k => absurd k hi⟩
    obtain ⟨F, hF⟩ := Classical.skolem.1 each
    have hget : ∀ (j : Nat) (q : Fl), ((List.range len).map fun i => (F i).1)[j]? = some q → j < len ∧ q = (F j).1 := by
      intro j q hq
      rw [List.getElem?_map] at hq
      obtain ⟨y, h1, h2⟩ := Option.map_eq_some_iff.1 hq
      obtain ⟨h3, h4⟩ := List.getElem?_eq_some_iff.1 h1
      rw [List.length_range] at h3
      rw [List.getElem_range] at h4
      subst h4
      exact ⟨h3, h2.symm⟩
    refine ⟨some a, cap, (List.range len).map fun i => (F i).1, by simp, ⟨fun j q hq => ?_⟩, by simp; omega, fun f hf => ?_⟩
    · obtain ⟨hj, rfl⟩ := hget j q hq
      obtain ⟨c0, c1, _, _⟩ := hc j (by omega)
      obtain ⟨f0, f1, f2, f3, f4⟩ := hF j hj
      obtain ⟨b, off, rfl⟩ := addr_none (by omega) (hc 0 (by omega)).1
      rw [Addr.add_lit] at c0 c1
      rw [f0] at c0
      rw [f1, ← Nat.add_assoc] at c1
      exact ⟨b, off, _, _, rfl, cell_lt c0, c0, c1, f2, f3⟩
    · obtain ⟨j, hj⟩ := List.mem_iff_getElem?.1 hf
      obtain ⟨hj2, rfl⟩ := hget j f hj
      exact (hF j hj2).2.2.2.2
theorem open_world {base : Nat} {v : Value} {d : DataW H} {p : List MemPlace} (hv : Value.okWide Try.prog W .any base 37 v) (h : DataW.Trod enc Try.prog W 0 (fun _ => true) true 37 v d p) (hs : Sm Try.prog 37 d) :
    ∃ sF cF sI cI sO cO fs il ol, v = .agg #[.slice sF (fs : List Fl).length cF, .slice sI (il : List UInt8).length cI, .slice sO (ol : List UInt8).length cO] ∧ Rf W sF fs ∧ Rb W sI il ∧ Rb W sO ol ∧ Bd fs il ol := by
  obtain ⟨v0, v1, v2, y0, y1, y2, n, rfl, rfl, rfl, t0, t1, t2⟩ := open_agg3 Try.underlying37 (by kernel_rfl) (by kernel_rfl) hv h
  obtain ⟨sF, cF, fs, rfl, hF, b0, b1⟩ := open_files t0 (sm_agg Try.underlying37 hs (j := 0) rfl rfl)
  obtain ⟨sI, cI, il, rfl, hI, _, b2⟩ := open_bytesS t1 (sm_agg Try.underlying37 hs (j := 1) rfl rfl)
  obtain ⟨sO, cO, ol, rfl, hO, _, b3⟩ := open_bytesS t2 (sm_agg Try.underlying37 hs (j := 2) rfl rfl)
  exact ⟨sF, cF, sI, cI, sO, cO, fs, il, ol, rfl, hF, hI, hO, b0, b2, b3, b1⟩
theorem open_ops {base : Nat} {v : Value} {d : DataW H} {p : List MemPlace} (hv : Value.okWide Try.prog W .any base 38 v) (h : DataW.Trod enc Try.prog W 0 (fun _ => true) true 38 v d p) (hs : Sm Try.prog 38 d) :
    ∃ so cap os, v = .slice so (os : List Op4).length cap ∧ Ro W so os ∧ os.length ≤ 4398046511104 := by
  obtain ⟨a0, len, cap, rfl⟩ := okWide_slice Try.underlying38 hv
  obtain ⟨fuel, hf⟩ := h
  rcases open_slice Try.underlying38 hf with ⟨hcs, _⟩ | ⟨a, len2, cap2, m, n, D, Pl, hcs, _, hl, hm, hmm, hx, hc⟩
  · simp only [Value.cells, List.cons.injEq, and_true] at hcs
    cases hcs
    exact ⟨none, 0, [], rfl, ⟨fun j q k => by simp at k⟩, by simp⟩
  · simp only [Value.cells, List.cons.injEq, and_true] at hcs
    cases hcs
    simp only [Prod.mk.injEq] at hx
    obtain ⟨rfl, rfl⟩ := hx
    obtain ⟨s1, s2⟩ := sm_slice Try.underlying38 hs
    have b32 := bytesOW
    simp only [List.length_map, List.length_range] at s1
    simp only [if_true] at hmm
    have hb : len * 32 ≤ 140737488351232 := Nat.le_trans (Nat.mul_le_mul (by omega) b32) s1
    rw [show Try.prog.cellsOf 41 = 4 from by kernel_rfl] at hc
    have each : ∀ i, ∃ q : Op4 × Option Addr × Nat, i < len → W.cell? (a.add (i * 4)) = some (.int .i64 q.1.1) ∧ W.cell? (a.add (i * 4 + 1)) = some (.int .i64 q.1.2.1) ∧ W.cell? (a.add (i * 4 + 2)) = some (.string q.1.2.2.1) ∧ W.cell? (a.add (i * 4 + 3)) = some (.slice q.2.1 q.1.2.2.2.length q.2.2) ∧ Rb W q.2.1 q.1.2.2.2 ∧ q.1.2.2.2.length ≤ 140737488351232 := by
      intro i
      by_cases hi : i < len
      · obtain ⟨cs', h1, h2⟩ := hc i (by omega)
        obtain ⟨_, hlen, hcell⟩ := World.cells?_some h1
        obtain ⟨y0, y1, y2, y3, k, hxy, _, t0, t1, t2, t3⟩ := trod_struct4 Try.underlying41 h2
        simp only [Prod.mk.injEq] at hxy
        match cs', hlen with
        | [v0, v1, v2, v3], _ =>
          have e0 := hcell 0 (by omega)
          have e1 := hcell 1 (by omega)
          have e2 := hcell 2 (by omega)
          have e3 := hcell 3 (by omega)
          rw [add_add] at e0 e1 e2 e3
          have ei : Try.prog.cellsOf 3 = 1 := by kernel_rfl
          have es : Try.prog.cellsOf 9 = 1 := by kernel_rfl
          have eb : Try.prog.cellsOf 24 = 1 := by kernel_rfl
          simp only [ei, es, eb, List.drop_zero, List.take_succ_cons, List.take_zero, List.drop_succ_cons] at t0 t1 t2 t3
          obtain ⟨z0, q0, _⟩ := DataW.trod_int Try.underlying3 t0
          obtain ⟨z1, q1, _⟩ := DataW.trod_int Try.underlying3 t1
          obtain ⟨s, q2, _⟩ := DataW.trod_string Try.underlying9 t2
          have hd := s2 _ (List.mem_map.2 ⟨i, List.mem_range.2 hi, rfl⟩)
          rw [hxy.1] at hd
          obtain ⟨so, ca, l, q3, r1, _, r3⟩ := open_bytesS t3 (sm_agg Try.underlying41 hd (j := 3) rfl rfl)
          simp only [List.cons.injEq, and_true] at q0 q1 q2
          subst q0 q1 q2 q3
          exact ⟨((z0, z1, s, l), so, ca), fun _ => ⟨by simpa using e0, by simpa using e1, by simpa using e2, by simpa using e3, r1, r3⟩⟩
      · exact ⟨((0, 0, ⟨#[]⟩, []), none, 0), fun k => absurd k hi⟩
    obtain ⟨F, hF⟩ := Classical.skolem.1 each
    refine ⟨some a, cap, (List.range len).map fun i => (F i).1, by simp, ⟨fun j q hq => ?_⟩, by simp; omega⟩
    rw [List.getElem?_map] at hq
    obtain ⟨y, h1, h2⟩ := Option.map_eq_some_iff.1 hq
    obtain ⟨hj, h4⟩ := List.getElem?_eq_some_iff.1 h1
    rw [List.length_range] at hj
    rw [List.getElem_range] at h4
    subst h4 h2
    obtain ⟨c0, c1, c2, c3, f2, f3⟩ := hF j hj
    obtain ⟨b, off, rfl⟩ := addr_none (by omega) (hF 0 (by omega)).1
    rw [Addr.add_lit] at c0 c1 c2 c3
    rw [← Nat.add_assoc] at c1 c2 c3
    exact ⟨b, off, _, _, rfl, cell_lt c0, c0, c1, c2, c3, f2, f3⟩
end
end Go.Proofs.Ytcjgjbaadmohbaa
