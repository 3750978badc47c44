/- Bytes that came in appended to a row of the call's own; steps of a region that draws. -/
import Derived.Test.YtbdhfooeanbnlaaMt
namespace Go.Proofs.Ytbdhfooeanbnlaa
open Go.RowKit Go.Lib
set_option linter.unusedVariables false
set_option linter.unusedSimpArgs false
section
variable {P : Program} {w0 w : World} {L : List Ck} {l : List (Nat × Value)}
theorem m_appendA {t ty : TypeId} {x y : Operand} {dst : Option Tmp} {pos : String} {after : Array Edge} {guard : Option (Nat × Bool)} (ht : P.underlying t = some (.slice BY)) (hinfo : (P.info? BY).map (fun i => (i.zero, i.size, i.bytes)) = some (some (.int .u8 0), 1, 1)) (hM : Mg w0 w L) (k : Nat) {v : Value} {q : Nat} {xs : List Value} (hk : L[k]? = some (.row BY 1 v q xs)) (hx : ev l x = some v) {so : Option Addr} {c2 : Nat} {bs : List UInt8} (hb : Rb w so bs) (hy : ev l y = some (.slice so bs.length c2)) (hlen : q + bs.length ≤ 140737488355328) :
    ∃ v' w', Does P l ⟨dst, .call ⟨.builtin .append, #[x, y], #[t, t]⟩, ty, pos, after, guard⟩ w v' w' ∧ Mg w0 w' (L.set k (.row BY 1 v' (q + bs.length) (xs ++ byteCells bs))) := by
  by_cases hne : bs = []
  · subst hne
    refine ⟨v, w, m_append0 ht hinfo hM k hk hx hy, ?_⟩
    rw [show L.set k (.row BY 1 v (q + ([] : List UInt8).length) (xs ++ byteCells [])) = L from by rw [show xs ++ byteCells [] = xs from List.append_nil xs]; exact set_same hk]
    exact hM
  · obtain ⟨b, off, rfl, hlt, hc⟩ := hb.pos hne
    have h0 : 0 < bs.length := List.length_pos_iff.2 hne
    obtain ⟨i, hi, hzz⟩ := Option.map_eq_some_iff.1 hinfo
    simp only [Prod.mk.injEq] at hzz
    obtain ⟨hz, hs, hbb⟩ := hzz
    have hrow := hM.has k hk
    obtain ⟨g, cap, w', hr, hown, hgr, hat, hlt2⟩ := run_append_lies (P := P) w t ty w0.heap.size BY i (.int .u8 0) 1 1 ht hi hz hs hbb rfl (by decide) v q xs hrow ⟨b, off, none⟩ bs.length c2 (byteCells bs) (by rw [byteCells_length]; omega) (fun p u hp => by
        have hl : p < bs.length := by have := (List.getElem?_eq_some_iff.1 hp).1; rwa [byteCells_length] at this
        rw [addr_add, hc p hl, ← hp]
        simp [byteCells, List.getD_eq_getElem?_getD, hl]) (fun u hu => by
        simp only [byteCells, List.mem_map] at hu
        obtain ⟨b, _, rfl⟩ := hu
        rfl) h0 (by unfold maxLen; omega) (by omega) hM.bel.size w.heap.size rfl
    refine ⟨.slice (some ⟨g, 0, none⟩) (q + bs.length) cap, w', fun ρ h => ?_, hM.turn k hk (by simp) hgr hown (fun d hd ha => ?_)⟩
    · simp [execOp, resolve, invoke, builtin, h x _ hx, h y _ hy, hr]
    · have hl := Ck.lt (hM.all d hd)
      have key : ∀ z, d.at_ = some z → v.ownBlock ≠ some z → g ≠ z := fun z hz hne e => by
        subst e
        rcases hat with h | h
        · exact hne h
        · have := (hl g hz).2; omega
      cases d with
      | obj g' o' => exact fun e => key g' rfl ha (by simpa [Value.ownBlock] using e)
      | row e' sz' v' n' xs' =>
        right
        intro e
        have e2 : v'.ownBlock = some g := e.symm
        rcases ha with ha | ha
        · exact key g e2 (by rw [ha]; simp) rfl
        · exact key g e2 (fun h => ha (h.trans e2.symm)) rfl
      | bld b' bs' => exact ⟨ha.1, fun e => key b' rfl ha.2 (by simpa [Value.ownBlock] using e)⟩
end
section
variable {P : Program} {w0 w : World} {L : List Ck} {l : List (Nat × Value)} {ops : List Oper} {Q : Exit → Act → World → Prop} {a : Act} {n : Nat} {o : Oper} {d : Nat} {S : World → Prop} {md : Region.Mode} {fuel : Nat} {listed : Array Bool}
theorem g_lit (hA : Sl a n l) (hM : Mg w0 w L) (i : Nat) (hi : ops[i]? = some o) (hg : passes l ops o = true) (hdst : o.dst = some d) (hd : Nat.blt d n = true) {e : TypeId} {sz : Nat} {vs : List Value} {m : Nat} (he : Does P l o w (.slice (some ⟨w.heap.size, 0, none⟩) m m) (w.alloc (.cells vs.toArray e))) (hm : vs.length = m * sz) (hle : Nat.ble m 1000 = true) (hnb : e ≠ BY ∨ noBld L)
    (hk : ∀ g w', Mg w0 w' (.row e sz (.slice (some ⟨g, 0, none⟩) m m) m vs :: L) → S w' ∧ ∀ a', Sl a' n ((d, .slice (some ⟨g, 0, none⟩) m m) :: l) → wpAnyH P md ops.toArray Q S fuel (listed.setIfInBounds i true) a' w') : wpOp P ops.toArray Q i (fun a' w' => S w' ∧ wpAnyH P md ops.toArray Q S fuel (listed.setIfInBounds i true) a' w') a w := by
  have h := hk w.heap.size (w.alloc (.cells vs.toArray e)) (hM.add ((Below.refl _ w).alloc (Nat.le_refl _) _) (by
    have := World.ownsRow_lit (base := w0.heap.size) (e := e) (size := sz) w vs.toArray m hM.bel.size (by unfold maxLen; have := Nat.le_of_ble_eq_true hle; omega) (by simp [hm])
    simpa [Ck.holds] using this) (fun k e => by simp [Ck.at_, Value.ownBlock] at e; omega) (.inr (.inl ⟨_, _, _, _, _, rfl, hnb⟩)))
  exact op_do hA i hi hg hdst hd he h.1 h.2
theorem g_append (hA : Sl a n l) (i : Nat) (hi : ops[i]? = some o) (hg : passes l ops o = true) (hdst : o.dst = some d) (hd : Nat.blt d n = true) {e : TypeId} {sz k q m : Nat} {xs news : List Value} (he : ∃ v' w', Does P l o w v' w' ∧ Mg w0 w' (L.set k (.row e sz v' (q + m) (xs ++ news)))) {L' : Value → List Ck} (hL : ∀ v', L.set k (.row e sz v' (q + m) (xs ++ news)) = L' v')
    (hk : ∀ v' w', Mg w0 w' (L' v') → S w' ∧ ∀ a', Sl a' n ((d, v') :: l) → wpAnyH P md ops.toArray Q S fuel (listed.setIfInBounds i true) a' w') : wpOp P ops.toArray Q i (fun a' w' => S w' ∧ wpAnyH P md ops.toArray Q S fuel (listed.setIfInBounds i true) a' w') a w := by
  obtain ⟨v', w', h1, h2⟩ := he
  have h := hk v' w' (hL v' ▸ h2)
  exact op_do hA i hi hg hdst hd h1 h.1 h.2
end
end Go.Proofs.Ytbdhfooeanbnlaa
