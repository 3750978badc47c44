/- slices.AppendSeq, Collect and Values over texts. -/
import Derived.Test.YtbdhfooeanbnlaaEc
namespace Go.Proofs.Ytbdhfooeanbnlaa
open Go.RowKit
set_option linter.unusedVariables false
set_option linter.unusedSimpArgs false
theorem values_any {w : World} {so : Option Addr} {k ca : Nat} : Calls Try.prog 45 #[.slice so k ca] w fun e w' => ∃ g, e = .returned (.func (.func 55) #[] #[.pointer (some ⟨g, 0, none⟩)]) ∧ Mg w w' [.obj g (.cells #[.slice so k ca] 22)] := by
  refine walk_of (l := [(0, .slice so k ca)]) Try.func45 rfl Try.ntmps45 rfl rfl ?_
  intro Q hret hnorm hP a hA
  have hM : Mg w w [] := Mg.start w
  refine wp_seq_k (fun K1 hK1 => ?_)
  refine wp_region_lit ?_
  refine s_new (vs := [.slice so k ca]) (t := 22) hA hM rfl rfl rfl (fun g => .pointer (some ⟨g, 0, none⟩)) (does_box rfl rfl) (by decide) ?_
  intro g w1 hM a hA
  refine seq_do hA rfl rfl rfl (does_assign rfl) fun a hA => ?_
  refine seq_end (hK1 _ _ (wp_seq_k (fun K2 hK2 => wp_region_lit ?_)))
  refine seq_do hA rfl rfl rfl (does_makeFunc rfl) fun a hA => ?_
  refine seq_do hA rfl rfl rfl (does_assign rfl) fun a hA => ?_
  refine seq_end (hK2 _ _ (wp_ret (hret _ _ ?_)))
  exact ends (rs := [.tmp 2]) hA rfl (.cons (res_tmp rfl) .nil) rfl ⟨g, rfl, hM⟩
/-- One more onto a row of the call's own, and what that keeps. -/
theorem m_appY {P : Program} {w0 w : World} {L : List Ck} {l : List (Nat × Value)} {dst : Option Tmp} {ty : TypeId} {pos : String} {after : Array Edge} {guard : Option (Nat × Bool)} {v : Value} {e t : TypeId} {sz by_ : Nat} {z : Value} {x y : Operand} (ht : P.underlying t = some (.slice e)) (hinfo : (P.info? e).map (fun i => (i.zero, i.size, i.bytes)) = some (some z, sz, by_)) (hzc : z.cells.size = sz) (hsz : Nat.ble 1 sz = true) (hby : Nat.ble 1 by_ = true) (hM : Mg w0 w L) (k : Nat) {q : Nat} {xs : List Value} (hk : L[k]? = some (.row e sz v q xs)) (hx : ev l x = some v) {b m c2 : Nat} {news : List Value} (hy : ev l y = some (.slice (some ⟨b, 0, none⟩) m c2)) (hnl : news.length = m * sz) (hcell : ∀ p u, news[p]? = some u → w.cell? ⟨b, 0 + p, none⟩ = some u) (h1 : ∀ u ∈ news, u.oneCell' = true) (hm : 0 < m) (hlen : (q + m) * by_ ≤ 140737488355328) :
    ∃ v' w', Does P l ⟨dst, .call ⟨.builtin .append, #[x, y], #[t, t]⟩, ty, pos, after, guard⟩ w v' w' ∧ Mg w0 w' (L.set k (.row e sz v' (q + m) (xs ++ news))) ∧ Below w0.heap.size w w' ∧ KeepsOthers w w' := by
  obtain ⟨i, hi, hzz⟩ := Option.map_eq_some_iff.1 hinfo
  simp only [Prod.mk.injEq] at hzz
  obtain ⟨hz, hs, hb⟩ := hzz
  have hrow : w.ownsRow w0.heap.size e sz v q xs := hM.has k hk
  have hq : q + m ≤ (q + m) * by_ := Nat.le_mul_of_pos_right _ (Nat.le_of_ble_eq_true hby)
  obtain ⟨g, cap, w', hr, hown, hgr, hat, hlt⟩ := run_append_lies (P := P) w t ty w0.heap.size e i z sz by_ ht hi hz hs hb hzc (Nat.le_of_ble_eq_true hsz) v q xs hrow ⟨b, 0, none⟩ m c2 news hnl (fun p u hp => by
      rw [addr_add]
      exact hcell p u hp) h1 hm (by unfold maxLen; omega) hlen hM.bel.size w.heap.size rfl
  have hown2 : ∀ j, v.ownBlock = some j → w0.heap.size ≤ j ∧ ∃ cur, w.heap[j]? = some (.cells cur e) := by
    intro j hj
    rcases hrow.2 with ⟨e1, _⟩ | ⟨g1, cap1, cur, e1, hB, hc2, _⟩
    · subst e1; cases hj
    · subst e1; cases hj; exact ⟨hB, cur, hc2⟩
  refine ⟨.slice (some ⟨g, 0, none⟩) (q + m) cap, w', fun ρ h => ?_, hM.turn k hk (by simp) hgr hown (fun d hd ha => ?_), (Below.refl _ w).grown hgr hM.bel.size (fun j e => (hown2 j e).1), KeepsOthers.of_grownBy hgr (fun j o e ho => ?_)⟩
  · simp [execOp, resolve, invoke, builtin, h x _ hx, h y _ hy, hr]
  · have hl := Ck.lt (hM.all d hd)
    have key : ∀ z, d.at_ = some z → v.ownBlock ≠ some z → g ≠ z := fun z hz hne e => by
      subst e
      rcases hat with h | h
      · exact hne h
      · have := (hl g hz).2; omega
    cases d with
    | obj g' o' => exact fun e => key g' rfl ha (by simpa [Value.ownBlock] using e)
    | row e' sz' v' n' xs' =>
      right
      intro e
      have e2 : v'.ownBlock = some g := e.symm
      rcases ha with ha | ha
      · exact key g e2 (by rw [ha]; simp) rfl
      · exact key g e2 (fun h => ha (h.trans e2.symm)) rfl
    | bld b' bs' => exact ⟨ha.1, fun e => key b' rfl ha.2 (by simpa [Value.ownBlock] using e)⟩
  · obtain ⟨_, cur, h2⟩ := hown2 j e
    rw [ho] at h2
    cases h2
    rfl
/-- What was collected so far. -/
def CollI (w : World) (g : Nat) (pre : List ByteArray) (W : World) : Prop := ∃ v, Mg w W [.obj g (.cells #[v] 22), .row 9 1 v pre.length (strC pre)]
theorem coll_shape {g : Nat} {v : Value} {n : Nat} {xs : List Value} : ∀ c ∈ [Ck.obj g (.cells #[v] 22), .row 9 1 v n xs], (∃ g vs t, c = .obj g (.cells vs t)) ∨ ∃ e sz v n xs, c = .row e sz v n xs := by
  intro c hc
  simp only [List.mem_cons, List.not_mem_nil, or_false] at hc
  rcases hc with rfl | rfl
  · exact .inl ⟨_, _, _, rfl⟩
  · exact .inr ⟨_, _, _, _, _, rfl⟩
theorem collI_own (w : World) (g : Nat) (B : Nat) (hB : w.heap.size ≤ B) : OwnFrom B (CollI w g) := by
  rintro pre W W' row ⟨v, hM⟩ hg hrow
  exact ⟨v, hM.calmR hg (fun r e => ⟨Nat.le_trans hB (hrow r e).1, (hrow r e).2⟩) coll_shape⟩
set_option maxRecDepth 100000 in
set_option maxHeartbeats 1000000 in
theorem appendSeq_any {w : World} {Bs : Nat} {so : Option Addr} {ca : Nat} {ts : List ByteArray} (hR : Rs w so ts) (hBs : w.cell? ⟨Bs, 0, none⟩ = some (.slice so ts.length ca)) (hl : ts.length ≤ 8796093021952) : Calls Try.prog 57 #[.slice none 0 0, .func (.func 55) #[] #[.pointer (some ⟨Bs, 0, none⟩)]] w fun e w' => ∃ v, e = .returned v ∧ Mg w w' [.row 9 1 v ts.length (strC ts)] := by
  refine (callsIn_wide (n := 5)).1 ?_
  have hF : ∀ f, Fence.wide.fn f := fun _ => trivial
  refine i_walkM (l := [(0, .slice none 0 0), (1, .func (.func 55) #[] #[.pointer (some ⟨Bs, 0, none⟩)])]) Try.func57 rfl trivial rfl rfl rfl rfl ?_
  intro Q hret a hA hdf
  have hM : Mg w w [] := Mg.start w
  refine i_seq fun K1 hK1 => wpIn_region_lit ?_
  refine i_new (vs := [.slice none 0 0]) (t := 22) hF hA hM rfl rfl rfl (by intro c h; cases h) (fun g => .pointer (some ⟨g, 0, none⟩)) (does_box rfl rfl) (by decide) ?_
  intro g W1 hM hg hg' hB1 _ a hA h2
  refine i_do (v := .slice none 0 0) hF hA rfl rfl rfl (by intro c h; cases h) (does_assign rfl) fun a hA h3 => ?_
  refine wpListIn_nil (hK1 _ _ (i_seq fun K2 hK2 => i_seq fun K3 hK3 => wpIn_region_lit ?_))
  refine i_do (v := .func (.func 55) #[] #[.pointer (some ⟨Bs, 0, none⟩)]) hF hA rfl rfl rfl (by intro c h; cases h) (does_move rfl) fun a hA h4 => ?_
  refine wpListIn_nil (hK3 _ _ (wpIn_block ?_))
  have hs1 := hM.bel.size
  have hI0 : CollI w g [] W1 := by
    refine ⟨.slice none 0 0, ?_⟩
    have := hM.nilRow (noBld_cons (by simp) (noBld_quiet quietL_nil)) 9 1
    exact this.bring 1 rfl rfl
  refine wpIn_rangeFunc_ownH (F := Fence.wide) rfl (by decide) (gf := 55) (lb := #[.pointer (some ⟨Bs, 0, none⟩)]) (hA.ev rfl) trivial (fun us w => by kernel_rfl)
    (values_stops hR hM.bel hBs hl _) Below.trans ?hkb (Below.refl _ _) (fun _ => rfl)
    (CollI w g) (fun _ _ _ => False) (collI_own w g _ (by omega)) (fun _ _ _ _ _ hs _ _ => hs)
    hI0
    (fun x a' W => Sd a' 13 [(2, .pointer (some ⟨g, 0, none⟩)), (5, .string x)])
    (fun x a' _ X Y row hs hg hr => hs)
    ?assign ?body ?done ?stop
  case hkb =>
    intro W l o o' hl1 hl2 hl3 _
    refine ⟨rfl, rfl, rfl, (grownBy_putObj' W l o').size, fun k hk => ?_⟩
    by_cases hk2 : k < W.heap.size
    · exact (grownBy_putObj' W l o').block k hk2 (fun e => by cases e; omega)
    · have := (Array.getElem?_eq_some_iff.1 hl2).1; omega
  case assign =>
    rintro l pre x W K ⟨v, hMz⟩ hK
    have hA1 : Sd { tmps := a.tmps.setIfInBounds 7 (.string x), defers := [] } 13 _ := Sl.put hA (d := 7) rfl (.string x)
    have hF2 : ∀ f, (Fence.wide.inRound l).fn f := fun _ => trivial
    simp only [encS, List.zip_toArray, List.zip_cons_cons, List.zip_nil_left, List.zip_nil_right, List.foldl_toArray', List.foldl_toArray, List.foldl_cons, List.foldl_nil]
    refine wpIn_region_lit ?_
    refine i_do (a := { tmps := a.tmps.setIfInBounds 7 (.string x), defers := [] }) (v := .string x) hF2 hA1 rfl rfl rfl (by intro c h; cases h) (does_assign rfl) fun a hA h6 => ?_
    exact wpListIn_nil (hK _ _ ((KeepsOthers.refl _).from _) (Below.refl _ _) ⟨v, hMz⟩ (hA.keep _ ⟨rfl, rfl, trivial⟩))
  case body =>
    rintro l pre x a' W hl1 _ ⟨v, hMz⟩ hA hlen
    have hF2 : ∀ f, (Fence.wide.inRound l).fn f := fun _ => trivial
    refine wpIn_block (wpIn_region_lit ?_)
    refine i_do (v := v) hF2 hA rfl rfl rfl (by intro c h; cases h) (m_load1 hMz f_is1_strs rfl 0 rfl rfl) fun a hA h6 => ?_
    refine i_do (v := .string x) hF2 hA rfl rfl rfl (by intro c h; cases h) (does_move rfl) fun a hA h7 => ?_
    have hMl : Mg w (W.alloc (.cells #[.string x] 9)) [.obj g (.cells #[v] 22), .row 9 1 v pre.length (strC pre)] := hMz.call ((Below.refl _ W).alloc (Nat.le_refl _) _)
    have hnew := heap_alloc_new W (.cells #[.string x] 9)
    refine i_do (v := .slice (some ⟨W.heap.size, 0, none⟩) 1 1) (w' := W.alloc (.cells #[.string x] 9)) hF2 hA rfl rfl rfl (by intro c h; cases h) (does_buildSlice rfl (by kernel_rfl)) fun a hA h8 => ?_
    have hK4 : KeepsOthers W (W.alloc (.cells #[.string x] 9)) := KeepsOthers.alloc _ _
    have hB4 : Below w.heap.size W (W.alloc (.cells #[.string x] 9)) := (Below.refl _ W).alloc hMz.bel.size _
    have hcell : ∀ p u, [Value.string x][p]? = some u → (W.alloc (.cells #[.string x] 9)).cell? ⟨W.heap.size, 0 + p, none⟩ = some u := fun p u hp => by
      rw [cell_of_row _ _ _ _ _ _ hnew]
      simpa using hp
    revert hMl hK4 hB4 hcell
    generalize W.alloc (.cells #[.string x] 9) = W4
    intro hMl hK4 hB4 hcell
    obtain ⟨v', W5, hdo, hM5, hB5, hK5⟩ := m_appY (P := Try.prog) (dst := some 11) (ty := 22) (pos := "iter.go:52") (after := #[{ on := 0, ground := Ground.data }, { on := 2, ground := Ground.data }]) (guard := none) (x := .tmp 8) (y := .tmp 10) (l := [(10, .slice (some ⟨W.heap.size, 0, none⟩) 1 1), (9, .string x), (8, v), (2, .pointer (some ⟨g, 0, none⟩)), (5, .string x)]) (z := .string ⟨#[]⟩) (sz := 1) (by_ := 16) Try.underlying22 (by kernel_rfl) rfl rfl rfl hMl 1 rfl rfl (m := 1) rfl rfl hcell (by intro u hu; simp at hu; subst hu; rfl) (by decide) (by omega)
    obtain ⟨so9, ca9, rfl⟩ := owns_any (hM5.has 1 rfl)
    refine i_do (v := .slice so9 (pre.length + 1) ca9) (w' := W5) hF2 hA rfl rfl rfl (by intro c h; cases h) hdo fun a hA h9 => ?_
    refine i_set (w' := W5.setCells g 0 [.slice so9 (pre.length + 1) ca9]) hF2 hA rfl rfl (by intro c h; cases h) (m_store rfl rfl rfl (by kernel_rfl) hM5 0 rfl rfl rfl) ?_
    have hM6 : Mg w (W5.setCells g 0 [(.slice so9 (pre.length + 1) ca9)]) [.obj g (.cells #[.slice so9 (pre.length + 1) ca9] 22), .row 9 1 (.slice so9 (pre.length + 1) ca9) (pre.length + 1) (strC pre ++ [.string x])] := Mg.puts [(.slice so9 (pre.length + 1) ca9)] W5 _ [v] 0 hM5 0 rfl
    have hks := (hK4.trans hK5).trans (keeps_sets g [(.slice so9 (pre.length + 1) ca9)] W5 0)
    have hgw : w.heap.size ≤ g := (Ck.lt (hMz.has 0 rfl) g rfl).1
    have hbs := (hB4.trans hB5).trans (below_sets (B := w.heap.size) g hgw [(.slice so9 (pre.length + 1) ca9)] W5 0)
    refine wpListIn_nil ⟨hks.from _, hbs, .slice so9 (pre.length + 1) ca9, ?_⟩
    have e1 : (pre ++ [x]).length = pre.length + 1 := by simp
    have e2 : strC (pre ++ [x]) = strC pre ++ [.string x] := by simp [strC]
    rw [e1, e2]
    exact hM6
  case done =>
    rintro D xs W hD1 hS ⟨v, hMz⟩ hDf
    subst hS
    have hA2 : Sd { a with defers := { target := .collected D, args := #[] } :: a.defers } 13 _ := hA
    revert hA2
    generalize hae : ({ a with defers := { target := .collected D, args := #[] } :: a.defers } : Act) = a2
    intro hA2
    have had : a2.defers = [{ target := .collected D, args := #[] }] := by rw [← hae]; show _ :: a.defers = _; rw [h4, h3, h2, hdf]
    refine hK2 _ _ (i_seq fun K6 hK6 => wpIn_region_lit ?_)
    refine i_do (v := v) hF hA2 rfl rfl rfl (by intro c h; cases h) (m_load1 hMz f_is1_strs rfl 0 rfl rfl) fun a3 hA3 h6 => ?_
    refine i_do (v := v) hF hA3 rfl rfl rfl (by intro c h; cases h) (does_assign rfl) fun a4 hA4 h7 => ?_
    have hgr := grownBy_putObj' W D (.deferred none)
    have hM6 := hMz.calmR hgr (fun r e => by cases e; exact ⟨by omega, _, hDf, rfl⟩) coll_shape
    refine wpListIn_nil (hK6 _ _ (wpIn_ret (hret _ _ ?_)))
    show LeavesInM _ _ _ _ _ _ a4.defers .returning _
    rw [h7, h6, had]
    refine ⟨by simp, .inl ⟨D, _, rfl, run_takeDeferred hDf, ?_⟩⟩
    have hfin : (fun (e : Ending) (w' : World) => ∃ v, e = .returned v ∧ Mg w w' [.row 9 1 v xs.length (strC xs)]) (.returned v) (W.putObj D (.deferred none)) := ⟨v, rfl, hM6.sub (.cons _ (.refl _))⟩
    exact (ends (P := Try.prog) (fn := Try.f57) (Z := (fun (e : Ending) (w' : World) => ∃ v, e = .returned v ∧ Mg w w' [.row 9 1 v xs.length (strC xs)])) (v := v) (rs := [.tmp 4]) (vs := [v]) hA4 rfl (.cons (res_tmp rfl) .nil) rfl hfin).2
  case stop =>
    rintro D c pre W _ _ h _
    exact h.elim
end Go.Proofs.Ytbdhfooeanbnlaa
