/- Rows with zeros appended, an element cut out, the end cleared. -/
import Derived.Test.YtjlpecapebhgjaaGreatDoorWa
namespace Go.Proofs.YtjlpecapebhgjaaGreatDoor.G
open Go.RowKit Go.Lib
set_option linter.unusedVariables false
set_option linter.unusedSimpArgs false
section
variable {P : Program} {w0 w : World} {L : List Ck} {l : List (Nat × Value)} {dst : Option Tmp} {ty : TypeId} {pos : String} {after : Array Edge} {guard : Option (Nat × Bool)}
theorem row_cells (hM : Mg w0 w L) (k : Nat) {e : TypeId} {sz g n cap : Nat} {xs : List Value} (hk : L[k]? = some (.row e sz (.slice (some ⟨g, 0, none⟩) n cap) n xs)) : ∀ j u, xs[j]? = some u → w.cell? ⟨g, j, none⟩ = some u := by
  intro j u hj
  have hr : w.ownsRow w0.heap.size e sz (.slice (some ⟨g, 0, none⟩) n cap) n xs := hM.has k hk
  have hlt := (List.getElem?_eq_some_iff.1 hj).1
  rw [World.ownsRow.cellAt hr j (by rw [← hr.1]; exact hlt)]
  exact hj
/-- Zeros behind the first elements of a row that has no room for them: a new row. -/
theorem m_zeros {t tn e : TypeId} {sz by_ : Nat} {z : Value} {x y : Operand} (ht : P.underlying t = some (.slice e)) (htn : P.underlying tn = some (.int .i64)) (hinfo : (P.info? e).map (fun i => (i.zero, i.size, i.bytes)) = some (some z, sz, by_)) (hzc : z.cells.size = sz) (hsz : Nat.ble 1 sz = true) (hM : Mg w0 w L) {so : Option Addr} {i cap m : Nat} {olds : List Value} (hx : ev l x = some (.slice so i cap)) (hol : olds.length = i * sz) (hold : i = 0 ∨ ∃ g, so = some ⟨g, 0, none⟩ ∧ ∀ j u, olds[j]? = some u → w.cell? ⟨g, j, none⟩ = some u) {zz : Int} (hy : ev l y = some (.int .i64 zz)) (hzz : zz = ((m : Nat) : Int)) (hm : 0 < m) (hroom : cap < i + m) (hbig : (i + m) * by_ ≤ 140737488355328) (hbig2 : i + m ≤ 1000000000000) (hnb : e ≠ BY ∨ jk L) :
    ∃ g' cap' w', Does P l ⟨dst, .call ⟨.builtin .append, #[x, y], #[t, tn]⟩, ty, pos, after, guard⟩ w (.slice (some ⟨g', 0, none⟩) (i + m) cap') w' ∧ i + m ≤ cap' ∧ ∃ zs : List Value, zs.length = m * sz ∧ Mg w0 w' (.row e sz (.slice (some ⟨g', 0, none⟩) (i + m) cap') (i + m) (olds ++ zs) :: L) := by
  subst hzz
  obtain ⟨inf, hi, hzq⟩ := Option.map_eq_some_iff.1 hinfo
  simp only [Prod.mk.injEq] at hzq
  obtain ⟨hz, hs, hb⟩ := hzq
  have hs1 : 0 < sz := Nat.le_of_ble_eq_true hsz
  have hmb : m * by_ ≤ (i + m) * by_ := Nat.mul_le_mul_right _ (by omega)
  have hf : (Builtin.firstCells inf.size i (.slice so i cap)).run P w.drew = .ok olds.toArray w.drew := by
    rcases hold with h0 | ⟨g, rfl, hc⟩
    · subst h0
      have : olds = [] := List.length_eq_zero_iff.1 (by omega)
      subst this
      cases so <;> simp [Builtin.firstCells, loadCells, loadCellsFrom]
    · have := run_loadCells_list (P := P) w.drew ⟨g, 0, none⟩ olds (fun j u hj => by rw [xa, Nat.zero_add]; exact hc j u hj)
      rw [hol, ← hs] at this
      exact this
  have hr := run_append_grow_zeros (P := P) w t tn ty e inf z .i64 .i64 ht htn hi hz so i cap olds hf m hm (by omega) hroom (by omega) (by rw [hb]; omega) (by rw [hb]; exact growslice_fits hroom hbig)
  have hge := grownCap_ge w (i + m) cap e
  have hle := grownCap_le_maxLen w (i + m) cap e (by unfold maxLen; omega)
  refine ⟨w.heap.size, grownCap w (i + m) cap e, w.drew.alloc (.cells (olds.toArray ++ Builtin.zeroCells z.cells m ++ Builtin.zeroCells z.cells (grownCap w (i + m) cap e - (i + m))) e), fun ρ h => ?_, hge, (Builtin.zeroCells z.cells m).toList, by rw [Array.length_toList, size_zeroCells, hzc], ?_⟩
  · simp [execOp, resolve, invoke, builtin, h x _ hx, h y _ hy, hr]
  · refine hM.add ((Below.refl _ w).drew.alloc (Nat.le_refl _) _) ?_ (fun k e => by simp [Ck.at_, Value.ownBlock] at e; omega) (.inr (.inl ⟨_, _, _, _, _, rfl, hnb⟩))
    refine ⟨by rw [List.length_append, hol, Array.length_toList, size_zeroCells, hzc, Nat.add_mul], .inr ⟨w.heap.size, _, _, rfl, hM.bel.size, heap_alloc_new w.drew _, hge, hle, ?_, ?_⟩⟩
    · rw [Array.size_append, Array.size_append, List.size_toArray, size_zeroCells, size_zeroCells, hol, hzc, ← Nat.add_mul, ← Nat.add_mul]
      congr 1
      omega
    · rw [Array.toList_append, Array.toList_append, List.toList_toArray, List.take_append_of_le_length (by rw [List.length_append, hol, Array.length_toList, size_zeroCells, hzc, ← Nat.add_mul]; exact Nat.le_refl _), List.take_of_length_le (by rw [List.length_append, hol, Array.length_toList, size_zeroCells, hzc, ← Nat.add_mul]; exact Nat.le_refl _)]
/-- A row's end appended to its begin: what stood between is gone. -/
theorem m_cut {t e : TypeId} {sz : Nat} {x y : Operand} (ht : P.underlying t = some (.slice e)) (he : (P.info? e).map (·.size) = some sz) (hsz : Nat.ble 1 sz = true) (hM : Mg w0 w L) (k : Nat) {g n i : Nat} {xs : List Value} (hk : L[k]? = some (.row e sz (.slice (some ⟨g, 0, none⟩) n n) n xs)) (hi : i < n) (hx : ev l x = some (.slice (some ⟨g, 0, none⟩) i n)) (hy : ev l y = some (.slice (if n = i + 1 then some ⟨g, 0, none⟩ else some ⟨g, (i + 1) * sz, none⟩) (n - (i + 1)) (n - (i + 1)))) (h1 : ∀ u ∈ xs, u.oneCell' = true) :
    ∃ w', Does P l ⟨dst, .call ⟨.builtin .append, #[x, y], #[t, t]⟩, ty, pos, after, guard⟩ w (.slice (some ⟨g, 0, none⟩) (n - 1) n) w' ∧ Mg w0 w' (L.set k (.row e sz (.slice (some ⟨g, 0, none⟩) (n - 1) n) (n - 1) (xs.take (i * sz) ++ xs.drop ((i + 1) * sz)))) := by
  obtain ⟨inf, hinf, hs⟩ := jx he
  have hs1 : 0 < sz := Nat.le_of_ble_eq_true hsz
  have hr : w.ownsRow w0.heap.size e sz (.slice (some ⟨g, 0, none⟩) n n) n xs := hM.has k hk
  have hxl : xs.length = n * sz := hr.1
  have hcut := hM.rowCut k hk (m := i) (by omega)
  have hk2 : (L.set k (.row e sz (.slice (some ⟨g, 0, none⟩) i n) i (xs.take (i * sz))))[k]? = some (.row e sz (.slice (some ⟨g, 0, none⟩) i n) i (xs.take (i * sz))) := List.getElem?_set_self (List.getElem?_eq_some_iff.1 hk).1
  have hown : w.ownsRow w0.heap.size e sz (.slice (some ⟨g, 0, none⟩) i n) i (xs.take (i * sz)) := hcut.has k hk2
  by_cases hn : n = i + 1
  · subst hn
    have h2 : (sizeOf e).run P w = .ok sz w := by simp [sizeOf, typeInfo, hinf, hs]
    refine ⟨w, fun ρ h => ?_, ?_⟩
    · rw [if_pos rfl, Nat.sub_self] at hy
      simp [execOp, resolve, invoke, builtin, h x _ hx, h y _ hy, Builtin.append_, run_underlying ht, h2, Builtin.lenOf, Builtin.firstCells, loadCells, loadCellsFrom, storeCells]
    · rw [List.drop_eq_nil_of_le (by omega), List.append_nil, Nat.add_sub_cancel]
      exact hcut
  · rw [if_neg hn] at hy
    have hm : (n - (i + 1)) * sz = n * sz - (i + 1) * sz := Nat.sub_mul _ _ _
    obtain ⟨w', hrun, hown2, hgr⟩ := run_append_fits (P := P) (w := w) w0.heap.size t ty e inf sz ht hinf hs g i n (xs.take (i * sz)) hown ⟨g, (i + 1) * sz, none⟩ (n - (i + 1)) (n - (i + 1)) (xs.drop ((i + 1) * sz)) (by rw [List.length_drop]; omega) (fun j u hj => by
      rw [xa]
      rw [List.getElem?_drop] at hj
      exact row_cells hM k hk _ _ hj) (fun u hu => h1 u (List.mem_of_mem_drop hu)) (by omega)
    refine ⟨w', fun ρ h => ?_, ?_⟩
    · rw [show i + (n - (i + 1)) = n - 1 from by omega] at hrun
      simp [execOp, resolve, invoke, builtin, h x _ hx, h y _ hy, hrun]
    · have h3 := hcut.turn k hk2 (c' := .row e sz (.slice (some ⟨g, 0, none⟩) (i + (n - (i + 1))) n) (i + (n - (i + 1))) (xs.take (i * sz) ++ xs.drop ((i + 1) * sz))) (by simp) hgr hown2 (fun d _ ha => by cases d <;> exact ha)
      rw [List.set_set, show i + (n - (i + 1)) = n - 1 from by omega] at h3
      exact h3
/-- What stands behind a row's elements is cleared. -/
theorem m_clear {t e : TypeId} {sz by_ : Nat} {z : Value} {x : Operand} (ht : P.underlying t = some (.slice e)) (hinfo : (P.info? e).map (fun i => (i.zero, i.size, i.bytes)) = some (some z, sz, by_)) (hzc : z.cells.size = sz) (hz1 : ∀ u ∈ (Builtin.zeroCells z.cells 1).toList, u.oneCell' = true) (hM : Mg w0 w L) (k : Nat) {g m cap : Nat} {xs : List Value} (hk : L[k]? = some (.row e sz (.slice (some ⟨g, 0, none⟩) m cap) m xs)) (hc : m + 1 ≤ cap) {c2 : Nat} (hx : ev l x = some (.slice (some ⟨g, m * sz, none⟩) 1 c2)) :
    ∃ w', Does P l ⟨dst, .call ⟨.builtin .clear, #[x], #[t]⟩, ty, pos, after, guard⟩ w (.tuple #[]) w' ∧ Mg w0 w' L := by
  obtain ⟨inf, hi, hzq⟩ := Option.map_eq_some_iff.1 hinfo
  simp only [Prod.mk.injEq] at hzq
  obtain ⟨hz, hs, hb⟩ := hzq
  have hr : w.ownsRow w0.heap.size e sz (.slice (some ⟨g, 0, none⟩) m cap) m xs := hM.has k hk
  have hzl : (Builtin.zeroCells z.cells 1).toList.length = sz := by rw [Array.length_toList, size_zeroCells, hzc, Nat.one_mul]
  have hcell : ∀ j, j < cap * sz → (w.cell? ⟨g, j, none⟩).isSome = true := by
    intro j hj
    rcases hr.2 with ⟨he, _⟩ | ⟨g', cap', cur, he, a, b, c, d, f, _⟩
    · cases he
    · cases he
      rw [cell_of_row w g j cur e (0, 0) b, Array.getElem?_eq_getElem (by omega)]
      rfl
  have hml : m * sz + sz ≤ cap * sz := by rw [← Nat.succ_mul]; exact Nat.mul_le_mul_right _ hc
  have h3 := run_storeCells_cells (P := P) g (m * sz) (Builtin.zeroCells z.cells 1).toList 0 w (fun j hj => hcell _ (by omega)) (fun j hj => World.ownsRow.frozenAt hr _) hz1
  rw [Nat.add_zero] at h3
  have hzv : ∀ w : World, (zeroValue e).run P w = .ok z w := fun w => by simp [zeroValue, typeInfo, hi, hz]
  refine ⟨w.setCells g (m * sz) (Builtin.zeroCells z.cells 1).toList, fun ρ h => ?_, ?_⟩
  · simp [execOp, resolve, invoke, builtin, h x _ hx, Builtin.clear_, run_underlying ht, hzv, h3]
  · have h4 := Mg.rowPuts (Builtin.zeroCells z.cells 1).toList w L xs (m * sz) hM k hk
    have e4 : ∀ (cs : List Value) (o : Nat), xs.length ≤ o → over xs o cs = xs := by
      intro cs
      induction cs with
      | nil => intro o _; rfl
      | cons c cs ih => intro o ho; show over (xs.set o c) (o + 1) cs = xs; rw [List.set_eq_of_length_le ho]; exact ih _ (by omega)
    rw [e4 _ _ (by rw [hr.1]; exact Nat.le_refl _), qlg hk] at h4
    exact h4
theorem does_s3 {t e : TypeId} {sz : Nat} (ht : P.underlying t = some (.slice e)) (he : (P.info? e).map (·.size) = some sz) {x y1 y2 y3 : Operand} {so : Option Addr} {n cap lo hi mx : Nat} {z1 z2 z3 : Int} (hx : ev l x = some (.slice so n cap)) (hy1 : ev l y1 = some (.int .i64 z1)) (hy2 : ev l y2 = some (.int .i64 z2)) (hy3 : ev l y3 = some (.int .i64 z3)) (hz1 : z1 = ((lo : Nat) : Int)) (hz2 : z2 = ((hi : Nat) : Int)) (hz3 : z3 = ((mx : Nat) : Int)) (h1 : lo ≤ hi) (h2 : hi ≤ mx) (h3 : mx ≤ cap) : Does P l ⟨dst, .slice t x (some y1) (some y2) (some y3), ty, pos, after, guard⟩ w (.slice (if mx = lo then so else so.map (·.add (lo * sz))) (hi - lo) (mx - lo)) w := fun ρ h => by
  subst hz1 hz2 hz3
  obtain ⟨i, hii, hs⟩ := jx he
  have k2 : (sizeOf e).run P w = .ok sz w := by simp [sizeOf, typeInfo, hii, hs]
  have g1 : (0 : Int) ≤ (lo : Nat) ∧ ((lo : Nat) : Int) ≤ (hi : Int) := ⟨by omega, by omega⟩
  have g2 : (0 : Int) ≤ (hi : Nat) ∧ ((hi : Nat) : Int) ≤ (mx : Int) := ⟨by omega, by omega⟩
  have g3 : (0 : Int) ≤ (mx : Nat) ∧ ((mx : Nat) : Int) ≤ (cap : Int) := ⟨by omega, by omega⟩
  simp only [execOp, h x _ hx, h y1 _ hy1, h y2 _ hy2, h y3 _ hy3, Option.map_some, Instr.sliceAt, Instr.slice, Instr.sliceBounds, Instr.sliceBound, asIntOf, run_underlying ht, Sem.run_bind, Sem.run_pure, Result.andThen_ok, g1, g2, g3, k2, and_self, if_true, Int.toNat_natCast]
theorem does_s2 {t e : TypeId} {sz : Nat} (ht : P.underlying t = some (.slice e)) (he : (P.info? e).map (·.size) = some sz) {x y1 y2 : Operand} {g n cap lo hi : Nat} {z1 z2 : Int} (hx : ev l x = some (.slice (some ⟨g, 0, none⟩) n cap)) (hy1 : ev l y1 = some (.int .i64 z1)) (hy2 : ev l y2 = some (.int .i64 z2)) (hz1 : z1 = ((lo : Nat) : Int)) (hz2 : z2 = ((hi : Nat) : Int)) (h1 : lo ≤ hi) (h2 : hi ≤ cap) (hne : cap ≠ lo) : Does P l ⟨dst, .slice t x (some y1) (some y2) none, ty, pos, after, guard⟩ w (.slice (some ⟨g, lo * sz, none⟩) (hi - lo) (cap - lo)) w := fun ρ h => by
  subst hz1 hz2
  obtain ⟨i, hii, hs⟩ := jx he
  have k2 : (sizeOf e).run P w = .ok sz w := by simp [sizeOf, typeInfo, hii, hs]
  have g1 : (0 : Int) ≤ (lo : Nat) ∧ ((lo : Nat) : Int) ≤ (hi : Int) := ⟨by omega, by omega⟩
  have g2 : (0 : Int) ≤ (hi : Nat) ∧ ((hi : Nat) : Int) ≤ (cap : Int) := ⟨by omega, by omega⟩
  simp only [execOp, h x _ hx, h y1 _ hy1, h y2 _ hy2, Option.map_some, Option.map_none, Instr.sliceAt, Instr.slice, Instr.sliceBounds, Instr.sliceBound, asIntOf, run_underlying ht, Sem.run_bind, Sem.run_pure, Result.andThen_ok, g1, g2, k2, and_self, if_true, Int.toNat_natCast, if_neg hne, xa, Nat.zero_add]
theorem does_cap {t e : TypeId} (hu : P.underlying t = some (.slice e)) {x : Operand} {so : Option Addr} {n c : Nat} (hx : ev l x = some (.slice so n c)) : Does P l ⟨dst, .call ⟨.builtin .cap, #[x], #[t]⟩, ty, pos, after, guard⟩ w (.int .i64 ((c : Nat) : Int)) w := fun ρ h => by
  have := h x _ hx
  simp [go_sem, this, Builtin.cap_, run_underlying hu, goInt]
end
section
variable {P : Program} {w0 w : World} {L : List Ck} {l : List (Nat × Value)} {ops : List Oper} {Q : Exit → Act → World → Prop} {a : Act} {n : Nat} {o : Oper} {rest : List Oper} {d : Nat} {S : World → Prop} {md : Region.Mode} {fuel : Nat} {listed : Array Bool}
theorem seq_doN (hA : Sl a n l) (hg : zm l ops o = true) (hdst : o.dst = none) {v : Value} {w' : World} (he : Does P l o w v w') (hk : wpList P ops.toArray Q rest a w') : wpList P ops.toArray Q (o :: rest) a w := by
  unfold wpList
  rw [if_pos (hA.wanted hg)]
  refine .inl ?_
  unfold Oper.wp
  rw [he a.eval (fun x u hx => hA.ev hx), Oper.upon_value, hdst]
  exact hk
theorem s_clear (hA : Sl a n l) (hg : zm l ops o = true) (hdst : o.dst = none) {v : Value} (he : ∃ w', Does P l o w v w' ∧ Mg w0 w' L) (hk : ∀ w', Mg w0 w' L → wpList P ops.toArray Q rest a w') : wpList P ops.toArray Q (o :: rest) a w := by
  obtain ⟨w', h1, h2⟩ := he
  exact seq_doN hA hg hdst h1 (hk w' h2)
theorem s_zeros (hA : Sl a n l) (hg : zm l ops o = true) (hdst : o.dst = some d) (hd : Nat.blt d n = true) {e : TypeId} {sz i m : Nat} {olds : List Value} (he : ∃ g' cap' w', Does P l o w (.slice (some ⟨g', 0, none⟩) (i + m) cap') w' ∧ i + m ≤ cap' ∧ ∃ zs : List Value, zs.length = m * sz ∧ Mg w0 w' (.row e sz (.slice (some ⟨g', 0, none⟩) (i + m) cap') (i + m) (olds ++ zs) :: L))
    (hk : ∀ g' cap' zs w', i + m ≤ cap' → zs.length = m * sz → Mg w0 w' (.row e sz (.slice (some ⟨g', 0, none⟩) (i + m) cap') (i + m) (olds ++ zs) :: L) → ∀ a', Sl a' n ((d, .slice (some ⟨g', 0, none⟩) (i + m) cap') :: l) → wpList P ops.toArray Q rest a' w') : wpList P ops.toArray Q (o :: rest) a w := by
  obtain ⟨g', cap', w', h1, h2, zs, h3, h4⟩ := he
  exact vl hA hg hdst hd h1 (hk g' cap' zs w' h2 h3 h4)
theorem g_cut (hA : Sl a n l) (i : Nat) (hi : ops[i]? = some o) (hg : zm l ops o = true) (hdst : o.dst = some d) (hd : Nat.blt d n = true) {v : Value} {L' : List Ck} (he : ∃ w', Does P l o w v w' ∧ Mg w0 w' L') (hk : ∀ w', Mg w0 w' L' → S w' ∧ ∀ a', Sl a' n ((d, v) :: l) → wpAnyH P md ops.toArray Q S fuel (listed.setIfInBounds i true) a' w') : wpOp P ops.toArray Q i (fun a' w' => S w' ∧ wpAnyH P md ops.toArray Q S fuel (listed.setIfInBounds i true) a' w') a w := by
  obtain ⟨w', h1, h2⟩ := he
  have h := hk w' h2
  exact xz hA i hi hg hdst hd h1 h.1 h.2
end
end Go.Proofs.YtjlpecapebhgjaaGreatDoor.G
