/- A walk's memory: pieces of the call's own, each apart from the others; what each kind of step does to them. -/
import Derived.Test.YtbdhfooeanbnlaaDo
import Derived.Lib.OthersKept
import Derived.Laws.OwnMore
namespace Go.Proofs.Ytbdhfooeanbnlaa
open Go.RowKit
set_option linter.unusedVariables false
set_option linter.unusedSimpArgs false

/-- The types of bytes and of strings.Builder. -/
def BY : TypeId := 5
def BT : TypeId := 0
/-- A piece of memory: a block and what it holds; a row that grows; a builder. -/
inductive Ck where
  | obj (g : Nat) (o : Obj)
  | row (e : TypeId) (sz : Nat) (v : Value) (n : Nat) (xs : List Value)
  | bld (b : Nat) (bs : List Value)
def Ck.holds (B : Nat) (w : World) : Ck → Prop
  | .obj g o => B ≤ g ∧ w.heap[g]? = some o
  | .row e sz v n xs => w.ownsRow B e sz v n xs
  | .bld b bs => Lib.IsBuilderF BT BY B b bs w
/-- No row of bytes. -/
def quiet (o : Obj) : Prop := ∀ c fz, o ≠ .cells c BY fz
theorem quiet_cells {c : Array Value} {t : TypeId} {fz : Nat × Nat} (h : t ≠ BY) : quiet (.cells c t fz) := fun c' fz' e => by cases e; exact h rfl
theorem quiet_iter (s : ByteArray) (p : Nat) : quiet (.stringIter s p) := fun c fz e => by cases e
/-- Two pieces have nothing in common. -/
def Ap : Ck → Ck → Prop
  | .obj g _, .obj g' _ => g ≠ g'
  | .obj g _, .row _ _ v _ _ => v.ownBlock ≠ some g
  | .row _ _ v _ _, .obj g _ => v.ownBlock ≠ some g
  | .row _ _ v _ _, .row _ _ v' _ _ => v.ownBlock = none ∨ v.ownBlock ≠ v'.ownBlock
  | .obj g o, .bld b _ => g ≠ b ∧ quiet o
  | .bld b _, .obj g o => g ≠ b ∧ quiet o
  | .row e _ v _ _, .bld b _ => e ≠ BY ∧ v.ownBlock ≠ some b
  | .bld b _, .row e _ v _ _ => e ≠ BY ∧ v.ownBlock ≠ some b
  | .bld _ _, .bld _ _ => False
theorem Ap.symm {c d : Ck} (h : Ap c d) : Ap d c := by
  cases c with
  | obj g o => cases d with
    | obj g' o' => exact fun e => h e.symm
    | row e sz v n xs => exact h
    | bld b bs => exact h
  | row e sz v n xs => cases d with
    | obj g' o' => exact h
    | row e' sz' v' n' xs' =>
      rcases h with h | h
      · by_cases k : v'.ownBlock = none
        · exact .inl k
        · exact .inr (fun e => k (e.trans h))
      · exact .inr (fun e => h e.symm)
    | bld b bs => exact h
  | bld b bs => cases d <;> exact h
section
variable {B : Nat} {w w' : World}
theorem heap_keep {k : Nat} {o : Obj} (hk : w.heap[k]? = some o) (hb : Below w.heap.size w w') : w'.heap[k]? = some o := (hb.block k (Array.getElem?_eq_some_iff.1 hk).1).trans hk
theorem builderAt_keep {T e : TypeId} {b : Nat} {p : Value} {bs : List Value} (h : Lib.BuilderAtF T e B b p bs w) (hk : ∀ k o, w.heap[k]? = some o → (k = b ∨ ∃ c fz, o = .cells c e fz) → w'.heap[k]? = some o) : Lib.BuilderAtF T e B b p bs w' := by
  obtain ⟨hB, v, hbk, ⟨h1, h2⟩, hne⟩ := h
  refine ⟨hB, v, hk _ _ hbk (.inl rfl), ⟨h1, ?_⟩, hne⟩
  rcases h2 with h2 | ⟨g, cap, cur, fz, a, b', c, d⟩
  · exact .inl h2
  · exact .inr ⟨g, cap, cur, fz, a, b', hk _ _ c (.inr ⟨_, _, rfl⟩), d⟩
theorem builder_keep {T e : TypeId} {b : Nat} {bs : List Value} (h : Lib.IsBuilderF T e B b bs w) (hk : ∀ k o, w.heap[k]? = some o → (k = b ∨ ∃ c fz, o = .cells c e fz) → w'.heap[k]? = some o) : Lib.IsBuilderF T e B b bs w' :=
  h.elim (fun x => .inl (builderAt_keep x hk)) (fun x => .inr (builderAt_keep x hk))
theorem owns_keep {e : TypeId} {size : Nat} {v : Value} {n : Nat} {xs : List Value} (h : w.ownsRow B e size v n xs) (hk : ∀ g cur, v.ownBlock = some g → w.heap[g]? = some (.cells cur e (0, 0)) → w'.heap[g]? = some (.cells cur e (0, 0))) : w'.ownsRow B e size v n xs := by
  obtain ⟨h1, h2⟩ := h
  refine ⟨h1, ?_⟩
  rcases h2 with h2 | ⟨g, cap, cur, a, b, c, d⟩
  · exact .inl h2
  · exact .inr ⟨g, cap, cur, a, b, hk g cur (by rw [a]; rfl) c, d⟩
/-- What only adds to memory keeps every piece. -/
theorem Ck.below {c : Ck} (h : c.holds B w) (hb : Below w.heap.size w w') : c.holds B w' := by
  cases c with
  | obj g o => exact ⟨h.1, heap_keep h.2 hb⟩
  | row e sz v n xs => exact owns_keep h (fun g cur _ hg => heap_keep hg hb)
  | bld b bs => exact builder_keep h (fun k o hk _ => heap_keep hk hb)
def Ck.at_ : Ck → Option Nat
  | .obj g _ => some g
  | .row _ _ v _ _ => v.ownBlock
  | .bld b _ => some b
/-- What changes a block, or a row, keeps what is apart from it. -/
theorem Ck.grown {c d : Ck} (hc : c.holds B w) (hd : d.holds B w) (hnb : ∀ b bs, d ≠ .bld b bs) (hap : Ap d c) (hg : w.grownBy w' d.at_) : c.holds B w' := by
  have lt : ∀ {k : Nat} {o : Obj}, w.heap[k]? = some o → k < w.heap.size := fun h => (Array.getElem?_eq_some_iff.1 h).1
  cases c with
  | obj g o =>
    refine ⟨hc.1, (hg.block g (lt hc.2) ?_).trans hc.2⟩
    cases d with
    | obj g' o' => intro e; exact hap (Option.some.inj e).symm
    | row e sz v n xs => exact fun e => hap e.symm
    | bld b bs => exact absurd rfl (hnb b bs)
  | row e sz v n xs =>
    refine owns_keep hc (fun g cur hv hcur => (hg.block g (lt hcur) ?_).trans hcur)
    cases d with
    | obj g' o' => intro e; exact hap (hv.trans e)
    | row e' sz' v' n' xs' =>
      intro e
      rcases hap with k | k
      · rw [show (Ck.row e' sz' v' n' xs').at_ = v'.ownBlock from rfl, k] at e; cases e
      · exact k (e.symm.trans hv.symm)
    | bld b bs => exact absurd rfl (hnb b bs)
  | bld b bs =>
    refine builder_keep hc (fun k o hk hor => (hg.block k (lt hk) ?_).trans hk)
    cases d with
    | obj g' o' =>
      intro e
      have e' : k = g' := Option.some.inj e
      subst e'
      rcases hor with rfl | ⟨c, fz, rfl⟩
      · exact hap.1 rfl
      · have := hd.2
        rw [hk] at this
        exact hap.2 c fz (Option.some.inj this).symm
    | row e' sz' v' n' xs' =>
      intro e
      rcases hor with rfl | ⟨c, fz, rfl⟩
      · exact hap.2 e.symm
      · rcases hd.2 with ⟨rfl, _⟩ | ⟨g, cap, cur, rfl, _, hgg, _⟩
        · cases e
        · cases e
          rw [hk] at hgg
          cases hgg
          exact hap.1 rfl
    | bld b' bs' => exact absurd rfl (hnb b' bs')
/-- What writes on a builder keeps what is apart from it. -/
theorem Ck.others {c : Ck} {b : Nat} {bs : List Value} (hc : c.holds B w) (hap : Ap (.bld b bs) c) (hk : Lib.OthersKept BY (some b) w w') : c.holds B w' := by
  cases c with
  | obj g o => exact ⟨hc.1, hk g o hc.2 (fun e => hap.1 (Option.some.inj e)) hap.2⟩
  | row e sz v n xs => exact owns_keep hc (fun g cur hv hcur => hk g _ hcur (fun e => hap.2 (hv.trans e)) (quiet_cells hap.1))
  | bld b' bs' => exact hap.elim
theorem Ck.lt {c : Ck} (h : c.holds B w) : ∀ k, c.at_ = some k → B ≤ k ∧ k < w.heap.size := by
  cases c with
  | obj g o => intro k e; cases e; exact ⟨h.1, (Array.getElem?_eq_some_iff.1 h.2).1⟩
  | row e sz v n xs => exact h.lt
  | bld b bs =>
    intro k e
    cases e
    rcases h with ⟨hB, v, hb, _⟩ | ⟨hB, v, hb, _⟩ <;> exact ⟨hB, (Array.getElem?_eq_some_iff.1 hb).1⟩
end
/-- Memory: as it was at w0, but for these pieces of the call's own. -/
structure Mg (w0 w : World) (L : List Ck) : Prop where
  bel : Below w0.heap.size w0 w
  all : ∀ c ∈ L, c.holds w0.heap.size w
  dis : L.Pairwise Ap
def noBld (L : List Ck) : Prop := ∀ c ∈ L, ∀ b bs, c ≠ .bld b bs
section
variable {w0 w w' : World} {L : List Ck}
theorem Mg.start (w : World) : Mg w w [] := ⟨Below.refl _ _, by simp, .nil⟩
theorem Mg.call (h : Mg w0 w L) (hb : Below w.heap.size w w') : Mg w0 w' L := ⟨h.bel.trans (hb.mono h.bel.size), fun c hc => Ck.below (h.all c hc) hb, h.dis⟩
theorem Mg.drew (h : Mg w0 w L) : Mg w0 w.drew L := h.call (Below.refl _ w).drew
theorem Mg.sub (h : Mg w0 w L) {L' : List Ck} (hs : L'.Sublist L) : Mg w0 w L' := ⟨h.bel, fun c hc => h.all c (hs.subset hc), h.dis.sublist hs⟩
theorem Mg.perm (h : Mg w0 w L) {L' : List Ck} (hp : L.Perm L') : Mg w0 w L' := ⟨h.bel, fun c hc => h.all c (hp.mem_iff.2 hc), (hp.pairwise_iff (fun h => Ap.symm h)).1 h.dis⟩
theorem Mg.has (h : Mg w0 w L) (k : Nat) {c : Ck} (hk : L[k]? = some c) : c.holds w0.heap.size w := h.all _ (List.mem_of_getElem? hk)
theorem Mg.obj (h : Mg w0 w L) (k : Nat) {g : Nat} {o : Obj} (hk : L[k]? = some (.obj g o)) : w.heap[g]? = some o := (h.has k hk).2
theorem dis_set {c c' : Ck} {k : Nat} (hd : L.Pairwise Ap) (hk : L[k]? = some c) (hap : ∀ d ∈ L, Ap c d → Ap c' d) : (L.set k c').Pairwise Ap := by
  rw [List.pairwise_iff_getElem] at hd ⊢
  obtain ⟨hk1, hk2⟩ := List.getElem?_eq_some_iff.1 hk
  intro i j hi hj hij
  rw [List.length_set] at hi hj
  rw [List.getElem_set, List.getElem_set]
  by_cases e : k = i
  · subst e
    rw [if_pos rfl, if_neg (by omega)]
    have := hd k j hi hj hij
    rw [hk2] at this
    exact hap _ (List.getElem_mem hj) this
  · rw [if_neg e]
    by_cases e' : k = j
    · subst e'
      rw [if_pos rfl]
      have := hd i k hi hj hij
      rw [hk2] at this
      exact (hap _ (List.getElem_mem hi) this.symm).symm
    · rw [if_neg e']
      exact hd i j hi hj hij
theorem mem_set {c c' d : Ck} {k : Nat} (hd : L.Pairwise Ap) (hk : L[k]? = some c) (h : d ∈ L.set k c') : d = c' ∨ (d ∈ L ∧ Ap c d) := by
  obtain ⟨i, hi⟩ := List.mem_iff_getElem?.1 h
  by_cases e : k = i
  · subst e
    rw [List.getElem?_set_self (List.getElem?_eq_some_iff.1 hk).1] at hi
    exact .inl (Option.some.inj hi).symm
  · rw [List.getElem?_set_ne e] at hi
    refine .inr ⟨List.mem_of_getElem? hi, ?_⟩
    rw [List.pairwise_iff_getElem] at hd
    obtain ⟨hk1, hk2⟩ := List.getElem?_eq_some_iff.1 hk
    obtain ⟨hi1, hi2⟩ := List.getElem?_eq_some_iff.1 hi
    rcases Nat.lt_or_gt_of_ne e with hlt | hlt
    · have := hd k i hk1 hi1 hlt
      rwa [hk2, hi2] at this
    · have := hd i k hi1 hk1 hlt
      rw [hk2, hi2] at this
      exact this.symm
/-- A block, or a row, is changed. -/
theorem Mg.turn (h : Mg w0 w L) (k : Nat) {c c' : Ck} (hk : L[k]? = some c) (hnb : ∀ b bs, c ≠ .bld b bs) (hg : w.grownBy w' c.at_) (hc : c'.holds w0.heap.size w') (hap : ∀ d ∈ L, Ap c d → Ap c' d) : Mg w0 w' (L.set k c') := by
  have hh := h.has k hk
  refine ⟨h.bel.grown hg h.bel.size (fun j hj => (Ck.lt hh j hj).1), fun d hd => ?_, dis_set h.dis hk hap⟩
  rcases mem_set h.dis hk hd with rfl | ⟨hd, ha⟩
  · exact hc
  · exact Ck.grown (h.all d hd) hh hnb ha hg
/-- .. a builder. -/
theorem Mg.wrote (h : Mg w0 w L) (k : Nat) {b : Nat} {bs bs' : List Value} (hk : L[k]? = some (.bld b bs)) (hb : Below w0.heap.size w w') (ho : Lib.OthersKept BY (some b) w w') (hc : Lib.IsBuilderF BT BY w0.heap.size b bs' w') : Mg w0 w' (L.set k (.bld b bs')) := by
  refine ⟨h.bel.trans hb, fun d hd => ?_, dis_set h.dis hk (fun d _ ha => by cases d <;> exact ha)⟩
  rcases mem_set h.dis hk hd with rfl | ⟨hd, ha⟩
  · exact hc
  · exact Ck.others (h.all d hd) ha ho
/-- A new piece. -/
theorem Mg.add (h : Mg w0 w L) (hb : Below w.heap.size w w') {c : Ck} (hc : c.holds w0.heap.size w') (hf : ∀ k, c.at_ = some k → w.heap.size ≤ k) (hq : (∃ g o, c = .obj g o ∧ quiet o) ∨ (∃ e sz v n xs, c = .row e sz v n xs ∧ (e ≠ BY ∨ noBld L)) ∨ (∃ b bs, c = .bld b bs ∧ ∀ d ∈ L, (∃ g o, d = .obj g o ∧ quiet o) ∨ ∃ e sz v n xs, d = .row e sz v n xs ∧ e ≠ BY)) : Mg w0 w' (c :: L) := by
  have h2 := h.call hb
  refine ⟨h2.bel, fun d hd => ?_, List.pairwise_cons.2 ⟨fun d hd => ?_, h2.dis⟩⟩
  · rcases List.mem_cons.1 hd with rfl | hd
    · exact hc
    · exact h2.all d hd
  · have hl := Ck.lt (h.all d hd)
    rcases hq with ⟨g, o, rfl, hq⟩ | ⟨e, sz, v, n, xs, rfl, hq⟩ | ⟨b, bs, rfl, hq⟩
    · have hg := hf g rfl
      cases d with
      | obj g' o' => intro e; subst e; have := (hl g rfl).2; omega
      | row e' sz' v' n' xs' => intro e; have := (hl g e).2; omega
      | bld b' bs' => exact ⟨fun e => by subst e; have := (hl g rfl).2; omega, hq⟩
    · cases d with
      | obj g' o' => intro e; have := hf g' e; have := (hl g' rfl).2; omega
      | row e' sz' v' n' xs' =>
        by_cases k : v.ownBlock = none
        · exact .inl k
        · right
          intro e
          obtain ⟨g, hg⟩ := Option.ne_none_iff_exists'.1 k
          have := hf g hg
          have := (hl g (e.symm.trans hg)).2
          omega
      | bld b' bs' =>
        refine ⟨?_, fun e => ?_⟩
        · rcases hq with hq | hq
          · exact hq
          · exact absurd rfl (hq _ hd b' bs')
        · have := hf b' e; have := (hl b' rfl).2; omega
    · have hg := hf b rfl
      rcases hq d hd with ⟨g', o', rfl, hq⟩ | ⟨e', sz', v', n', xs', rfl, hq⟩
      · exact ⟨fun e => by subst e; have := (hl g' rfl).2; omega, hq⟩
      · exact ⟨hq, fun e => by have := (hl b e).2; omega⟩
theorem Mg.addObj (h : Mg w0 w L) (o : Obj) (hq : quiet o) : Mg w0 (w.alloc o) (.obj w.heap.size o :: L) :=
  h.add ((Below.refl _ w).alloc (Nat.le_refl _) _) ⟨h.bel.size, heap_alloc_new w o⟩ (fun k e => by cases e; exact Nat.le_refl _) (.inl ⟨_, _, rfl, hq⟩)
theorem Mg.cell (h : Mg w0 w L) (k : Nat) {g : Nat} {vs : List Value} {t : TypeId} (hk : L[k]? = some (.obj g (.cells vs.toArray t))) (i : Nat) {v : Value} (hi : vs[i]? = some v) : w.cell? ⟨g, i, none⟩ = some v := by
  rw [cell_of_row w g i vs.toArray t (0, 0) (h.obj k hk)]
  simpa using hi
theorem Mg.froz (h : Mg w0 w L) (k : Nat) {g : Nat} {vs : List Value} {t : TypeId} (hk : L[k]? = some (.obj g (.cells vs.toArray t))) (i : Nat) : w.frozen? ⟨g, i, none⟩ = false := frozen_of_row w g i vs.toArray t (h.obj k hk)
theorem Mg.put (h : Mg w0 w L) (k : Nat) {g : Nat} {vs : List Value} {t : TypeId} (hk : L[k]? = some (.obj g (.cells vs.toArray t))) (i : Nat) (v : Value) : Mg w0 (w.setCell ⟨g, i, none⟩ v) (L.set k (.obj g (.cells (vs.set i v).toArray t))) := by
  refine h.turn k hk (by simp) ⟨rfl, rfl, rfl, by simp, fun j hj hne => Below.heap_setCell w ⟨g, i, none⟩ v j (fun e => hne (by rw [e]; rfl))⟩ ⟨(h.has k hk).1, ?_⟩ (fun d _ ha => ?_)
  · have := heap_setCell_same w g i vs.toArray t v (h.obj k hk)
    simpa using this
  · cases d with
    | obj g' o' => exact ha
    | row e' sz' v' n' xs' => exact ha
    | bld b' bs' => exact ⟨ha.1, fun c fz e => by cases e; exact ha.2 _ _ rfl⟩
theorem Mg.puts {g : Nat} {t : TypeId} : ∀ (cs : List Value) (w : World) (L : List Ck) (vs : List Value) (o : Nat), Mg w0 w L → ∀ k, L[k]? = some (.obj g (.cells vs.toArray t)) → Mg w0 (w.setCells g o cs) (L.set k (.obj g (.cells (over vs o cs).toArray t)))
  | [], w, L, vs, o, h, k, hk => by
    have : L.set k (.obj g (.cells (over vs o []).toArray t)) = L := by
      apply List.ext_getElem?
      intro i
      by_cases hi : k = i
      · subst hi
        rw [List.getElem?_set_self (List.getElem?_eq_some_iff.1 hk).1, hk]
        rfl
      · rw [List.getElem?_set_ne hi]
    rw [this]
    exact h
  | c :: cs, w, L, vs, o, h, k, hk => by
    have h1 := h.put k hk o c
    have hk1 : (L.set k (.obj g (.cells (vs.set o c).toArray t)))[k]? = some (.obj g (.cells (vs.set o c).toArray t)) := List.getElem?_set_self (List.getElem?_eq_some_iff.1 hk).1
    have h2 := Mg.puts cs _ _ (vs.set o c) (o + 1) h1 k hk1
    rw [List.set_set] at h2
    exact h2
end
end Go.Proofs.Ytbdhfooeanbnlaa
