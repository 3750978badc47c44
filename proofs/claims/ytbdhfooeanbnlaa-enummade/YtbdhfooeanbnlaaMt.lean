/- Rows of any elements (characters, structs of some cells): written out, appended, read. -/
import Derived.Test.YtbdhfooeanbnlaaMs
namespace Go.Proofs.Ytbdhfooeanbnlaa
open Go.RowKit Go.Lib
set_option linter.unusedVariables false
set_option linter.unusedSimpArgs false
section
variable {P : Program} {w0 w : World} {L : List Ck} {l : List (Nat × Value)} {ops : List Oper} {Q : Exit → Act → World → Prop} {a : Act} {n : Nat} {o : Oper} {rest : List Oper} {d : Nat}
theorem s_litE (hA : Sl a n l) (hM : Mg w0 w L) (hg : passes l ops o = true) (hdst : o.dst = some d) (hd : Nat.blt d n = true) {e : TypeId} {sz : Nat} {vs : List Value} {m : Nat} (he : Does P l o w (.slice (some ⟨w.heap.size, 0, none⟩) m m) (w.alloc (.cells vs.toArray e))) (hm : vs.length = m * sz) (hle : Nat.ble m 1000 = true) (hnb : e ≠ BY ∨ noBld L)
    (hk : ∀ g w', Mg w0 w' (.row e sz (.slice (some ⟨g, 0, none⟩) m m) m vs :: L) → ∀ a', Sl a' n ((d, .slice (some ⟨g, 0, none⟩) m m) :: l) → wpList P ops.toArray Q rest a' w') : wpList P ops.toArray Q (o :: rest) a w := by
  refine seq_do hA hg hdst hd he (hk _ _ (hM.add ((Below.refl _ w).alloc (Nat.le_refl _) _) ?_ (fun k e => ?_) (.inr (.inl ⟨_, _, _, _, _, rfl, hnb⟩))))
  · have := World.ownsRow_lit (base := w0.heap.size) (e := e) (size := sz) w vs.toArray m hM.bel.size (by unfold maxLen; have := Nat.le_of_ble_eq_true hle; omega) (by simp [hm])
    simpa [Ck.holds] using this
  · simp [Ck.at_, Value.ownBlock] at e
    omega
theorem m_appendE {e t ty : TypeId} {sz by_ : Nat} {z : Value} {x y : Operand} {dst : Option Tmp} {pos : String} {after : Array Edge} {guard : Option (Nat × Bool)} (ht : P.underlying t = some (.slice e)) (hinfo : (P.info? e).map (fun i => (i.zero, i.size, i.bytes)) = some (some z, sz, by_)) (hzc : z.cells.size = sz) (hsz : Nat.ble 1 sz = true) (hby : Nat.ble by_ 1000 = true) (hM : Mg w0 w L) (k : Nat) {v : Value} {q : Nat} {xs : List Value} (hk : L[k]? = some (.row e sz v q xs)) (hx : ev l x = some v) (j : Nat) {b m c2 : Nat} {news : List Value} (hj : L[j]? = some (.row e sz (.slice (some ⟨b, 0, none⟩) m c2) m news)) (hy : ev l y = some (.slice (some ⟨b, 0, none⟩) m c2)) (h1 : news.all Value.oneCell' = true) (hm : Nat.ble 1 m = true) (hlen : q + m ≤ 1000000000) :
    ∃ v' w', Does P l ⟨dst, .call ⟨.builtin .append, #[x, y], #[t, t]⟩, ty, pos, after, guard⟩ w v' w' ∧ Mg w0 w' (L.set k (.row e sz v' (q + m) (xs ++ news))) := by
  obtain ⟨i, hi, hzz⟩ := Option.map_eq_some_iff.1 hinfo
  simp only [Prod.mk.injEq] at hzz
  obtain ⟨hz, hs, hb⟩ := hzz
  have hrow := hM.has k hk
  have hnew := hM.has j hj
  have hnl : news.length = m * sz := hnew.1
  have hbig : (q + m) * by_ ≤ 140737488355328 := Nat.le_trans (Nat.mul_le_mul hlen (Nat.le_of_ble_eq_true hby)) (by decide)
  obtain ⟨g, cap, w', hr, hown, hgr, hat, hlt⟩ := run_append_lies (P := P) w t ty w0.heap.size e i z sz by_ ht hi hz hs hb hzc (Nat.le_of_ble_eq_true hsz) v q xs hrow ⟨b, 0, none⟩ m c2 news hnl (fun p u hp => by
      have hlt : p < news.length := (List.getElem?_eq_some_iff.1 hp).1
      rw [addr_add, Nat.zero_add, World.ownsRow.cellAt hnew p (by omega)]
      exact hp) (fun u hu => List.all_eq_true.1 h1 u hu) (Nat.le_of_ble_eq_true hm) (by unfold maxLen; omega) hbig hM.bel.size w.heap.size rfl
  refine ⟨.slice (some ⟨g, 0, none⟩) (q + m) cap, w', fun ρ h => ?_, hM.turn k hk (by simp) hgr hown (fun d hd ha => ?_)⟩
  · simp [execOp, resolve, invoke, builtin, h x _ hx, h y _ hy, hr]
  · have hl := Ck.lt (hM.all d hd)
    have key : ∀ z, d.at_ = some z → v.ownBlock ≠ some z → g ≠ z := fun z hz hne e => by
      subst e
      rcases hat with h | h
      · exact hne h
      · have := (hl g hz).2; omega
    cases d with
    | obj g' o' => exact fun e => key g' rfl ha (by simpa [Value.ownBlock] using e)
    | row e' sz' v' n' xs' =>
      right
      intro e
      have e2 : v'.ownBlock = some g := e.symm
      rcases ha with ha | ha
      · exact key g e2 (by rw [ha]; simp) rfl
      · exact key g e2 (fun h => ha (h.trans e2.symm)) rfl
    | bld b' bs' => exact ⟨ha.1, fun e => key b' rfl ha.2 (by simpa [Value.ownBlock] using e)⟩
theorem s_appendE (hA : Sl a n l) (hg : passes l ops o = true) (hdst : o.dst = some d) (hd : Nat.blt d n = true) {e : TypeId} {sz k q m : Nat} {xs news : List Value} (he : ∃ v' w', Does P l o w v' w' ∧ Mg w0 w' (L.set k (.row e sz v' (q + m) (xs ++ news)))) {L' : Value → List Ck} (hL : ∀ v', L.set k (.row e sz v' (q + m) (xs ++ news)) = L' v')
    (hk : ∀ v' w', Mg w0 w' (L' v') → ∀ a', Sl a' n ((d, v') :: l) → wpList P ops.toArray Q rest a' w') : wpList P ops.toArray Q (o :: rest) a w := by
  obtain ⟨v', w', h1, h2⟩ := he
  exact seq_do hA hg hdst hd h1 (hk v' w' (hL v' ▸ h2))
end
/-- A slice of characters reads as these. -/
structure Rr (w : World) (so : Option Addr) (l : List Int) : Prop where
  pos : l ≠ [] → ∃ b off, so = some ⟨b, off, none⟩ ∧ b < w.heap.size ∧ ∀ j, j < l.length → w.cell? ⟨b, off + j, none⟩ = some (.int .i32 (l.getD j 0))
theorem rr_open {w : World} {so : Option Addr} {l : List Int} {i : Nat} (h : Rr w so l) (hi : i < l.length) : ∃ b off, so = some ⟨b, off, none⟩ ∧ b < w.heap.size ∧ ∀ j, j < l.length → w.cell? ⟨b, off + j, none⟩ = some (.int .i32 (l.getD j 0)) :=
  h.pos (fun k => by rw [k] at hi; exact absurd hi (Nat.not_lt_zero _))
section
variable {P : Program} {w0 w : World} {L : List Ck} {l : List (Nat × Value)} {dst : Option Tmp} {ty : TypeId} {pos : String} {after : Array Edge} {guard : Option (Nat × Bool)} {v : Value}
theorem run_indexE {t e : TypeId} {sz : Nat} (hu : P.underlying t = some (.slice e)) (he : (P.info? e).map (·.size) = some sz) {g o n c k : Nat} (hk : k < n) : ∀ w, (Instr.indexAt t (.slice (some ⟨g, o, none⟩) n c) (.int .i64 (k : Nat))).run P w = .ok (.pointer (some ⟨g, o + k * sz, none⟩)) w := fun w => by
  obtain ⟨i, hi, hs⟩ := info_size he
  have h2 : (sizeOf e).run P w = .ok sz w := by simp [sizeOf, typeInfo, hi, hs]
  have h3 : (0 : Int) ≤ (k : Nat) ∧ ((k : Nat) : Int) < (n : Nat) := ⟨by omega, by omega⟩
  simp [Instr.indexAt, asIntOf, run_underlying hu, h2, h3, addr_add]
  intro h
  omega
/-- The place of an element of a row of the call's own. -/
theorem does_indexE {t e : TypeId} {sz : Nat} (hu : P.underlying t = some (.slice e)) (he : (P.info? e).map (·.size) = some sz) {x i : Operand} {g n c k : Nat} {z : Int} (hx : ev l x = some (.slice (some ⟨g, 0, none⟩) n c)) (hi : ev l i = some (.int .i64 z)) (hz : z = (k : Nat)) (hk : k < n) :
    Does P l ⟨dst, .indexAddr t x i, ty, pos, after, guard⟩ w (.pointer (some ⟨g, k * sz, none⟩)) w := by
  subst hz
  have := does_indexI (l := l) (dst := dst) (ty := ty) (pos := pos) (after := after) (guard := guard) (w := w) hx hi (run_indexE hu he (o := 0) hk)
  rwa [Nat.zero_add] at this
/-- .. and what stands there: one cell, or a struct's. -/
theorem m_loadE (hM : Mg w0 w L) (k : Nat) {e : TypeId} {sz g n c j : Nat} {xs : List Value} (hk : L[k]? = some (.row e sz (.slice (some ⟨g, 0, none⟩) n c) n xs)) (hj : xs[j]? = some v) {t : TypeId} (ht : Is1 P t) {x : Operand} (hx : ev l x = some (.pointer (some ⟨g, j, none⟩))) : Does P l ⟨dst, .load t x, ty, pos, after, guard⟩ w v w := by
  have h := hM.has k hk
  have hl : xs.length = n * sz := h.1
  have hlt : j < xs.length := (List.getElem?_eq_some_iff.1 hj).1
  exact does_load hx (run_load1 ht ((World.ownsRow.cellAt h j (by omega)).trans hj))
theorem m_loadES (hM : Mg w0 w L) (k : Nat) {e : TypeId} {sz g n c o m : Nat} {xs cs : List Value} (hk : L[k]? = some (.row e sz (.slice (some ⟨g, 0, none⟩) n c) n xs)) {t : TypeId} (ht : IsS P t m) (hcs : (xs.drop o).take m = cs) (hl : cs.length = m) {x : Operand} (hx : ev l x = some (.pointer (some ⟨g, o, none⟩))) : Does P l ⟨dst, .load t x, ty, pos, after, guard⟩ w (.agg cs.toArray) w := by
  have h := hM.has k hk
  have hxl : xs.length = n * sz := h.1
  refine does_load hx (run_loadS ht cs hl (fun j v hj => ?_))
  have hjn : j < m := by rw [← hl]; exact (List.getElem?_eq_some_iff.1 hj).1
  rw [← hcs, List.getElem?_take, if_pos hjn, List.getElem?_drop] at hj
  have hlt : o + j < xs.length := (List.getElem?_eq_some_iff.1 hj).1
  exact (World.ownsRow.cellAt h (o + j) (by omega)).trans hj
end
end Go.Proofs.Ytbdhfooeanbnlaa
