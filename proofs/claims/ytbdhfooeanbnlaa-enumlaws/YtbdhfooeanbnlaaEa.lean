/- Rows of texts and of truth values. -/
import Derived.Test.YtbdhfooeanbnlaaMw
import Derived.Lib.SlicesS
namespace Go.Proofs.Ytbdhfooeanbnlaa
open Go.RowKit
set_option linter.unusedVariables false
set_option linter.unusedSimpArgs false
theorem cell_ltE {w : World} {b o : Nat} {v : Value} (h : w.cell? ⟨b, o, none⟩ = some v) : b < w.heap.size := by
  apply Classical.byContradiction
  intro k
  simp [World.cell?, Array.getElem?_eq_none (Nat.le_of_not_lt k)] at h
theorem bring_perm {α : Type} : ∀ (L : List α) (k : Nat) (c : α), L[k]? = some c → L.Perm (c :: L.eraseIdx k)
  | [], _, _, h => by simp at h
  | a :: t, 0, c, h => by cases h; exact .refl _
  | a :: t, k + 1, c, h => ((bring_perm t k c (by simpa using h)).cons a).trans (.swap c a _)
/-- A piece is put first. -/
theorem Mg.bring {w0 w : World} {L L' : List Ck} (h : Mg w0 w L) (k : Nat) {c : Ck} (hk : L[k]? = some c) (hL : c :: L.eraseIdx k = L') : Mg w0 w L' := by
  subst hL
  exact h.perm (bring_perm L k c hk)
section
variable {P : Program} {w0 w : World} {L : List Ck} {l : List (Nat × Value)} {dst : Option Tmp} {ty : TypeId} {pos : String} {after : Array Edge} {guard : Option (Nat × Bool)} {v : Value}
/-- A slice reads as these cells, so many elements. -/
def Rc (w : World) (so : Option Addr) (cs : List Value) : Prop := cs ≠ [] → ∃ b off, so = some ⟨b, off, none⟩ ∧ ∀ p u, cs[p]? = some u → w.cell? ⟨b, off + p, none⟩ = some u
theorem Rc.below {w w' : World} {so : Option Addr} {cs : List Value} (h : Rc w so cs) (hb : Below w.heap.size w w') : Rc w' so cs := fun hne => by
  obtain ⟨b, off, e, h2⟩ := h hne
  exact ⟨b, off, e, fun p u hp => (hb.cell (cell_ltE (h2 p u hp))).trans (h2 p u hp)⟩
theorem rc_own {w : World} {B : Nat} {e : TypeId} {sz n cap : Nat} {so : Option Addr} {xs : List Value} (h : w.ownsRow B e sz (.slice so n cap) n xs) : Rc w so xs := fun hne => by
  rcases h.2 with ⟨e1, e2⟩ | ⟨g, cap', cur, e1, hg, hc, h1, h2, h3, h4⟩
  · subst e2; exact absurd (List.length_eq_zero_iff.1 (by rw [h.1]; simp)) hne
  · cases e1
    exact ⟨g, 0, rfl, fun p u hp => by rw [Nat.zero_add, World.ownsRow.cellAt h p (by have := (List.getElem?_eq_some_iff.1 hp).1; rw [h.1] at this; exact this)]; exact hp⟩
theorem m_appX {e t : TypeId} {sz by_ : Nat} {z : Value} {x y : Operand} (ht : P.underlying t = some (.slice e)) (hinfo : (P.info? e).map (fun i => (i.zero, i.size, i.bytes)) = some (some z, sz, by_)) (hzc : z.cells.size = sz) (hsz : Nat.ble 1 sz = true) (hby : Nat.ble 1 by_ = true) (hM : Mg w0 w L) (k : Nat) {q : Nat} {xs : List Value} (hk : L[k]? = some (.row e sz v q xs)) (hx : ev l x = some v) {so : Option Addr} {m c2 : Nat} {news : List Value} (hy : ev l y = some (.slice so m c2)) (hnl : news.length = m * sz) (hr : Rc w so news) (h1 : ∀ u ∈ news, u.oneCell' = true) (hlen : (q + m) * by_ ≤ 140737488355328) :
    ∃ v' w', Does P l ⟨dst, .call ⟨.builtin .append, #[x, y], #[t, t]⟩, ty, pos, after, guard⟩ w v' w' ∧ Mg w0 w' (L.set k (.row e sz v' (q + m) (xs ++ news))) := by
  obtain ⟨i, hi, hzz⟩ := Option.map_eq_some_iff.1 hinfo
  simp only [Prod.mk.injEq] at hzz
  obtain ⟨hz, hs, hb⟩ := hzz
  have hrow := hM.has k hk
  by_cases hm : m = 0
  · subst hm
    have h0 : news = [] := List.length_eq_zero_iff.1 (by rw [hnl]; simp)
    subst h0
    obtain ⟨so1, cap, hle, rfl⟩ : ∃ so1 cap, q ≤ cap ∧ v = .slice so1 q cap := by
      rcases hrow.2 with ⟨rfl, rfl⟩ | ⟨g, cap, cur, rfl, _, _, h, _⟩
      · exact ⟨none, 0, Nat.le_refl _, rfl⟩
      · exact ⟨_, cap, h, rfl⟩
    have h2 : (sizeOf e).run P w = .ok sz w := by simp [sizeOf, typeInfo, hi, hs]
    refine ⟨.slice so1 q cap, w, ?_, ?_⟩
    · intro ρ h
      cases so <;> cases so1 <;> simp [execOp, resolve, invoke, builtin, h x _ hx, h y _ hy, Builtin.append_, run_underlying ht, h2, Builtin.lenOf, Builtin.firstCells, loadCells, loadCellsFrom, storeCells, hle]
    · rw [show L.set k (.row e sz (.slice so1 q cap) (q + 0) (xs ++ [])) = L from by rw [List.append_nil]; exact set_same hk]
      exact hM
  · have hne : news ≠ [] := fun e0 => by
      rw [e0] at hnl
      have h5 := Nat.le_of_ble_eq_true hsz
      have : 0 < m * sz := Nat.mul_pos (by omega) h5
      simp at hnl; omega
    obtain ⟨b, off, rfl, hcell⟩ := hr hne
    have hq : q + m ≤ (q + m) * by_ := Nat.le_mul_of_pos_right _ (Nat.le_of_ble_eq_true hby)
    obtain ⟨g, cap, w', hr, hown, hgr, hat, hlt⟩ := run_append_lies (P := P) w t ty w0.heap.size e i z sz by_ ht hi hz hs hb hzc (Nat.le_of_ble_eq_true hsz) v q xs hrow ⟨b, off, none⟩ m c2 news hnl (fun p u hp => by
        rw [addr_add]
        exact hcell p u hp) h1 (by omega) (by unfold maxLen; omega) hlen hM.bel.size w.heap.size rfl
    refine ⟨.slice (some ⟨g, 0, none⟩) (q + m) cap, w', fun ρ h => ?_, hM.turn k hk (by simp) hgr hown (fun d hd ha => ?_)⟩
    · simp [execOp, resolve, invoke, builtin, h x _ hx, h y _ hy, hr]
    · have hl := Ck.lt (hM.all d hd)
      have key : ∀ z, d.at_ = some z → v.ownBlock ≠ some z → g ≠ z := fun z hz hne e => by
        subst e
        rcases hat with h | h
        · exact hne h
        · have := (hl g hz).2; omega
      cases d with
      | obj g' o' => exact fun e => key g' rfl ha (by simpa [Value.ownBlock] using e)
      | row e' sz' v' n' xs' =>
        right
        intro e
        have e2 : v'.ownBlock = some g := e.symm
        rcases ha with ha | ha
        · exact key g e2 (by rw [ha]; simp) rfl
        · exact key g e2 (fun h => ha (h.trans e2.symm)) rfl
      | bld b' bs' => exact ⟨ha.1, fun e => key b' rfl ha.2 (by simpa [Value.ownBlock] using e)⟩
/-- A row of nothing. -/
theorem Mg.nilRow (h : Mg w0 w L) (hb : noBld L) (e : TypeId) (sz : Nat) : Mg w0 w (.row e sz (.slice none 0 0) 0 [] :: L) := by
  refine h.add (Below.refl _ _) ⟨by simp, .inl ⟨rfl, rfl⟩⟩ (fun k hk => by cases hk) (.inr (.inl ⟨_, _, _, _, _, rfl, .inr hb⟩))

/-- What stands in a row that was there. -/
theorem m_loadX (hM : Mg w0 w L) {b o : Nat} (hc : w0.cell? ⟨b, o, none⟩ = some v) {t : TypeId} (ht : Is1 P t) {x : Operand} (hx : ev l x = some (.pointer (some ⟨b, o, none⟩))) : Does P l ⟨dst, .load t x, ty, pos, after, guard⟩ w v w :=
  does_load hx (run_load1 ht ((hM.bel.cell (cell_ltE hc)).trans hc))
/-- .. of a struct of two cells. -/
theorem m_loadX2 (hM : Mg w0 w L) {b o : Nat} {u v : Value} (h0 : w0.cell? ⟨b, o, none⟩ = some u) (h1 : w0.cell? ⟨b, o + 1, none⟩ = some v) {t : TypeId} (ht : IsS P t 2) {x : Operand} (hx : ev l x = some (.pointer (some ⟨b, o, none⟩))) : Does P l ⟨dst, .load t x, ty, pos, after, guard⟩ w (.agg #[u, v]) w := m_loadR2 hM (cell_ltE h0) h0 h1 ht hx
end
/-- Texts and truth values as cells. -/
def strC (l : List ByteArray) : List Value := l.map Value.string
def boolC (l : List Bool) : List Value := l.map Value.bool
theorem strC_n (l : List ByteArray) : (strC l).length = l.length * 1 := by simp [strC]
theorem boolC_n (l : List Bool) : (boolC l).length = l.length * 1 := by simp [boolC]
theorem strC_one (l : List ByteArray) : ∀ u ∈ strC l, u.oneCell' = true := by
  intro u hu
  obtain ⟨x, _, rfl⟩ := List.mem_map.1 hu
  rfl
theorem boolC_one (l : List Bool) : ∀ u ∈ boolC l, u.oneCell' = true := by
  intro u hu
  obtain ⟨x, _, rfl⟩ := List.mem_map.1 hu
  rfl
theorem strC_app (a b : List ByteArray) : strC a ++ strC b = strC (a ++ b) := by simp [strC]
theorem boolC_app (a b : List Bool) : boolC a ++ boolC b = boolC (a ++ b) := by simp [boolC]
abbrev Rs (w : World) (so : Option Addr) (l : List ByteArray) : Prop := Rc w so (strC l)
abbrev Rl (w : World) (so : Option Addr) (l : List Bool) : Prop := Rc w so (boolC l)
theorem Rs.at_ {w : World} {so : Option Addr} {l : List ByteArray} {i : Nat} (h : Rs w so l) (hi : i < l.length) : ∃ b off s, so = some ⟨b, off, none⟩ ∧ w.cell? ⟨b, off + i, none⟩ = some (.string s) ∧ l[i]? = some s := by
  obtain ⟨b, off, e, h2⟩ := h (fun k => by have := congrArg List.length k; simp [strC] at this; rw [this] at hi; exact absurd hi (Nat.not_lt_zero _))
  exact ⟨b, off, l[i], e, h2 i _ (by simp [strC, hi]), by simp [hi]⟩
theorem Rl.at_ {w : World} {so : Option Addr} {l : List Bool} {i : Nat} (h : Rl w so l) (hi : i < l.length) : ∃ b off s, so = some ⟨b, off, none⟩ ∧ w.cell? ⟨b, off + i, none⟩ = some (.bool s) ∧ l[i]? = some s := by
  obtain ⟨b, off, e, h2⟩ := h (fun k => by have := congrArg List.length k; simp [boolC] at this; rw [this] at hi; exact absurd hi (Nat.not_lt_zero _))
  exact ⟨b, off, l[i], e, h2 i _ (by simp [boolC, hi]), by simp [hi]⟩
theorem rs_nil {w : World} {so : Option Addr} : Rs w so [] := fun k => absurd rfl k
theorem rl_nil {w : World} {so : Option Addr} : Rl w so [] := fun k => absurd rfl k
/-- As the library's contracts say it. -/
theorem Rs.cells {w : World} {so : Option Addr} {l : List ByteArray} (h : Rs w so l) (hne : l ≠ []) : ∃ b off, so = some ⟨b, off, none⟩ ∧ ∀ j, j < l.length → w.cell? ⟨b, off + j, none⟩ = some (.string (l.getD j ByteArray.empty)) := by
  obtain ⟨b, off, e, h2⟩ := h (fun k => hne (by cases l with | nil => rfl | cons a t => cases k))
  exact ⟨b, off, e, fun j hj => h2 j _ (by simp [strC, hj])⟩
theorem owns_any {w : World} {B : Nat} {e : TypeId} {sz n : Nat} {v : Value} {xs : List Value} (h : w.ownsRow B e sz v n xs) : ∃ so ca, v = .slice so n ca := by
  rcases h.2 with ⟨rfl, rfl⟩ | ⟨g, cap, cur, rfl, _⟩
  · exact ⟨none, 0, rfl⟩
  · exact ⟨_, cap, rfl⟩
theorem row_open {w : World} {B : Nat} {e : TypeId} {sz n : Nat} {v : Value} {xs : List Value} (h : w.ownsRow B e sz v n xs) (hn : n ≠ 0) : ∃ g ca, v = .slice (some ⟨g, 0, none⟩) n ca := by
  rcases h.2 with ⟨rfl, rfl⟩ | ⟨g, cap, cur, rfl, _⟩
  · exact absurd rfl hn
  · exact ⟨g, cap, rfl⟩
theorem over_one {xs : List Value} {i : Nat} {v : Value} (h : i < xs.length) : over xs i [v] = xs.set i v := by simp [over]
/-- A question that is asked of texts. -/
structure AskS (P : Program) (f : FuncId) (cs : List Value) (w0 : World) (p : ByteArray → Bool) : Prop where
  inv : ∀ (us : Array Value) (w : World), (callFunc f us).run P w = .ok (.enter f us) w
  run : ∀ (s : ByteArray) (w : World), Below w0.heap.size w0 w → Calls P f ([Value.string s] ++ cs).toArray w fun e w' => e = .returned (.bool (p s)) ∧ Below w.heap.size w w'
theorem AskS.below {P : Program} {f : FuncId} {cs : List Value} {w0 w1 : World} {p : ByteArray → Bool} (h : AskS P f cs w0 p) (hb : Below w0.heap.size w0 w1) : AskS P f cs w1 p := ⟨h.inv, fun s w k => h.run s w (hb.trans (k.mono hb.size))⟩
end Go.Proofs.Ytbdhfooeanbnlaa
