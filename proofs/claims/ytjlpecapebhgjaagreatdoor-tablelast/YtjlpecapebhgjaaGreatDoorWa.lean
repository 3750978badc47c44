/- Worlds: what their memory reads as, and what the calls make of them. -/
import Derived.Test.YtjlpecapebhgjaaGreatDoorPtablel9e
namespace Go.Proofs.YtjlpecapebhgjaaGreatDoor.G
open Go.RowKit Go.Lib
set_option linter.unusedVariables false
set_option linter.unusedSimpArgs false
/-- A file: its name and its bytes. -/
abbrev Fl := ByteArray × List UInt8
/-- A slice of files reads as these. -/
structure Rf (w : World) (so : Option Addr) (fs : List Fl) : Prop where
  pos : ∀ j q, fs[j]? = some q → ∃ b off sj cj, so = some ⟨b, off, none⟩ ∧ b < w.heap.size ∧ w.cell? ⟨b, off + j * 2, none⟩ = some (.string q.1) ∧ w.cell? ⟨b, off + j * 2 + 1, none⟩ = some (.slice sj q.2.length cj) ∧ Rb w sj q.2 ∧ q.2.length ≤ cj
theorem Rf.below {w w' : World} {so : Option Addr} {fs : List Fl} (h : Rf w so fs) (hb : Below w.heap.size w w') : Rf w' so fs := by
  refine ⟨fun j q hq => ?_⟩
  obtain ⟨b, off, sj, cj, h1, h2, h3, h4, h5, h6⟩ := h.pos j q hq
  exact ⟨b, off, sj, cj, h1, Nat.lt_of_lt_of_le h2 hb.size, (hb.cell h2).trans h3, (hb.cell h2).trans h4, h5.below hb, h6⟩
theorem Rf.nil (w : World) (so : Option Addr) : Rf w so [] := ⟨fun j q h => by simp at h⟩
/-- What a row of files holds: names, slices, and what they read as. -/
abbrev Gf := ByteArray × Value × List UInt8
def cellsF (gs : List Gf) : List Value := gs.flatMap fun q => [.string q.1, q.2.1]
def readF (gs : List Gf) : List Fl := gs.map fun q => (q.1, q.2.2)
/-- The bytes of each are pieces of the call's own. -/
def GsD (gs : List Gf) (D : List Ck) : Prop := ∀ q ∈ gs, Ck.row BY 1 q.2.1 q.2.2.length (Lib.byteCells q.2.2) ∈ D
theorem cellsF_len (gs : List Gf) : (cellsF gs).length = gs.length * 2 := by
  unfold cellsF
  induction gs with
  | nil => rfl
  | cons q t ih => rw [List.flatMap_cons, List.length_append, ih, List.length_cons]; simp only [List.length_cons, List.length_nil]; omega
theorem cellsF_cons (q : Gf) (gs : List Gf) : cellsF (q :: gs) = .string q.1 :: q.2.1 :: cellsF gs := rfl
theorem cellsF_append (a b : List Gf) : cellsF (a ++ b) = cellsF a ++ cellsF b := List.flatMap_append
theorem cellsF_take : ∀ (gs : List Gf) (i : Nat), (cellsF gs).take (i * 2) = cellsF (gs.take i)
  | [], i => by simp [cellsF]
  | q :: gs, 0 => by simp [cellsF]
  | q :: gs, i + 1 => by
    rw [cellsF_cons, show (i + 1) * 2 = i * 2 + 1 + 1 from by omega, List.take_succ_cons, List.take_succ_cons, cellsF_take gs i, List.take_succ_cons, cellsF_cons]
theorem cellsF_drop : ∀ (gs : List Gf) (i : Nat), (cellsF gs).drop (i * 2) = cellsF (gs.drop i)
  | [], i => by simp [cellsF]
  | q :: gs, 0 => by simp [cellsF]
  | q :: gs, i + 1 => by
    rw [cellsF_cons, show (i + 1) * 2 = i * 2 + 1 + 1 from by omega, List.drop_succ_cons, List.drop_succ_cons, cellsF_drop gs i, List.drop_succ_cons]
theorem cellsF_at : ∀ (gs : List Gf) (i : Nat) (q : Gf), gs[i]? = some q → (cellsF gs)[i * 2]? = some (.string q.1) ∧ (cellsF gs)[i * 2 + 1]? = some q.2.1
  | [], i, q, h => by simp at h
  | p :: gs, 0, q, h => by
    simp only [List.getElem?_cons_zero, Option.some.injEq] at h
    subst h
    exact ⟨rfl, rfl⟩
  | p :: gs, i + 1, q, h => by
    rw [List.getElem?_cons_succ] at h
    have := cellsF_at gs i q h
    rw [cellsF_cons, show (i + 1) * 2 = i * 2 + 1 + 1 from by omega]
    exact ⟨this.1, this.2⟩
theorem readF_len (gs : List Gf) : (readF gs).length = gs.length := List.length_map _
theorem cellsF_one (gs : List Gf) (h : ∀ q ∈ gs, q.2.1.oneCell' = true) : (cellsF gs).all Value.oneCell' = true := by
  rw [List.all_eq_true]
  intro v hv
  unfold cellsF at hv
  rw [List.mem_flatMap] at hv
  obtain ⟨q, hq, hv⟩ := hv
  simp only [List.mem_cons, List.not_mem_nil, or_false] at hv
  rcases hv with rfl | rfl
  · rfl
  · exact h q hq
section
variable {w0 w : World} {L : List Ck}
/-- A piece of bytes reads as its bytes. -/
theorem rb_mem (hM : Mg w0 w L) {v : Value} {bs : List UInt8} (h : Ck.row BY 1 v bs.length (Lib.byteCells bs) ∈ L) : ∃ so cap, v = .slice so bs.length cap ∧ Rb w so bs ∧ bs.length ≤ cap := by
  obtain ⟨k, hk⟩ := List.mem_iff_getElem?.1 h
  obtain ⟨so, cap, rfl⟩ := qde (hM.has k hk)
  refine ⟨so, cap, rfl, (zjh hM k hk).1, ?_⟩
  rcases (hM.has k hk).2 with ⟨he, h0⟩ | ⟨g, c, cur, he, _, _, h3, _⟩
  · simp only [Value.slice.injEq] at he; omega
  · cases he; exact h3
/-- Files of the call's own read as they are. -/
theorem rf_own (hM : Mg w0 w L) (k : Nat) {e : TypeId} {so : Option Addr} {n cap : Nat} {gs : List Gf} (hk : L[k]? = some (.row e 2 (.slice so n cap) n (cellsF gs))) (hD : GsD gs L) : Rf w so (readF gs) := by
  refine ⟨fun j q hq => ?_⟩
  unfold readF at hq
  rw [List.getElem?_map, Option.map_eq_some_iff] at hq
  obtain ⟨p, hp, rfl⟩ := hq
  have hr : w.ownsRow w0.heap.size e 2 (.slice so n cap) n (cellsF gs) := hM.has k hk
  have hj : j < gs.length := (List.getElem?_eq_some_iff.1 hp).1
  have hn : gs.length * 2 = n * 2 := by rw [← cellsF_len]; exact hr.1
  obtain ⟨sj, cj, h1, h2, h3⟩ := rb_mem hM (hD p (List.mem_of_getElem? hp))
  rcases hr.2 with ⟨_, h0⟩ | ⟨g, cap', cur, he, hB, hc, hx⟩
  · omega
  · cases he
    have hc2 := cellsF_at gs j p hp
    refine ⟨g, 0, sj, cj, rfl, (Array.getElem?_eq_some_iff.1 hc).1, ?_, ?_, h2, h3⟩
    · rw [Nat.zero_add, World.ownsRow.cellAt hr (j * 2) (by omega)]; exact hc2.1
    · rw [Nat.zero_add, World.ownsRow.cellAt hr (j * 2 + 1) (by omega), hc2.2, h1]
end
/-! ### What the calls make of worlds -/
def namedB (n : ByteArray) : Bool := decide (1 ≤ n.size ∧ n.size ≤ 255)
def okF (f : Fl) : Bool := namedB f.1 && decide (f.2.length ≤ 65536)
/-- Names that rise from one on. -/
def risesF : ByteArray → List Fl → Bool
  | _, [] => true
  | a, f :: fs => (okF f && ltN a f.1) && risesF f.1 fs
def soundS (fs : List Fl) (il ol : List UInt8) : Bool := decide (fs.length ≤ 64 ∧ il.length ≤ 65536 ∧ ol.length ≤ 65536) && risesF ⟨#[]⟩ fs
theorem empty_iff {n : ByteArray} : n = ⟨#[]⟩ ↔ n.size = 0 := by
  constructor
  · intro h; subst h; rfl
  · intro h
    apply qfc
    have : n.data.toList.length = 0 := by rw [vd]; exact h
    rw [List.length_eq_zero_iff.1 this]
theorem lt_empty {n : ByteArray} (h : 1 ≤ n.size) : ltN ⟨#[]⟩ n = true := by
  unfold ltN
  have : n.data.toList ≠ [] := fun k => by have h2 : n.size = 0 := by { rw [← vd, k]; rfl }; omega
  cases hl : n.data.toList with
  | nil => exact absurd hl this
  | cons a t => rfl
theorem rises_step {fs : List Fl} {a : ByteArray} {i : Nat} {f : Fl} (h : fs[i]? = some f) : risesF a (fs.drop i) = ((okF f && ltN a f.1) && risesF f.1 (fs.drop (i + 1))) := by
  obtain ⟨h1, h2⟩ := List.getElem?_eq_some_iff.1 h
  rw [List.drop_eq_getElem_cons h1, h2]
  rfl
theorem rises_over {fs : List Fl} {a : ByteArray} {i : Nat} (h : ¬ i < fs.length) : risesF a (fs.drop i) = true := by
  rw [List.drop_eq_nil_of_le (by omega)]
  rfl
theorem file_get {fs : List Fl} {i : Nat} (h : i < fs.length) : ∃ fn fd, fs[i]? = some (fn, fd) := ⟨_, _, List.getElem?_eq_getElem h⟩
/-- Every name of a rising list is above what it rises from, and its files are allowed. -/
theorem rises_all : ∀ (fs : List Fl) (a : ByteArray), risesF a fs = true → (∀ f ∈ fs, ltN a f.1 = true ∧ okF f = true) ∧ fs.Pairwise (fun f g => ltN f.1 g.1 = true)
  | [], a, _ => ⟨by simp, .nil⟩
  | f :: fs, a, h => by
    have h' : ((okF f && ltN a f.1) && risesF f.1 fs) = true := h
    simp only [Bool.and_eq_true] at h'
    obtain ⟨⟨h1, h2⟩, h3⟩ := h'
    obtain ⟨k1, k2⟩ := rises_all fs f.1 h3
    refine ⟨fun g hg => ?_, List.pairwise_cons.2 ⟨fun g hg => (k1 g hg).1, k2⟩⟩
    rcases List.mem_cons.1 hg with rfl | hg
    · exact ⟨h2, h1⟩
    · exact ⟨qhd h2 (k1 g hg).1, (k1 g hg).2⟩
theorem rises_of : ∀ (fs : List Fl) (a : ByteArray), (∀ f ∈ fs, ltN a f.1 = true ∧ okF f = true) → fs.Pairwise (fun f g => ltN f.1 g.1 = true) → risesF a fs = true
  | [], a, _, _ => rfl
  | f :: fs, a, h, hp => by
    obtain ⟨p1, p2⟩ := List.pairwise_cons.1 hp
    show ((okF f && ltN a f.1) && risesF f.1 fs) = true
    rw [(h f List.mem_cons_self).1, (h f List.mem_cons_self).2, rises_of fs f.1 (fun g hg => ⟨p1 g hg, (h g (List.mem_cons_of_mem _ hg)).2⟩) p2]
    rfl
/-! Binary search -/
def bsF (c : Nat → Int) : Nat → Nat → Nat → Nat
  | 0, i, _ => i
  | f + 1, i, j => if i < j then (if 0 < c ((i + j) / 2) then bsF c f ((i + j) / 2 + 1) j else bsF c f i ((i + j) / 2)) else i
theorem bsF_more (c : Nat → Int) : ∀ (f g i j : Nat), j - i ≤ f → j - i ≤ g → bsF c f i j = bsF c g i j
  | 0, 0, _, _, _, _ => rfl
  | 0, g + 1, i, j, h, _ => by
    show i = if i < j then _ else i
    rw [if_neg (by omega)]
  | f + 1, 0, i, j, _, h => by
    show (if i < j then _ else i) = i
    rw [if_neg (by omega)]
  | f + 1, g + 1, i, j, h1, h2 => by
    show (if i < j then _ else i) = (if i < j then _ else i)
    by_cases h : i < j
    · rw [if_pos h, if_pos h, bsF_more c f g _ _ (by omega) (by omega), bsF_more c f g i _ (by omega) (by omega)]
    · rw [if_neg h, if_neg h]
def bsS (c : Nat → Int) (n : Nat) : Nat := bsF c n 0 n
theorem bs_up {c : Nat → Int} {i j : Nat} (h : i < j) (hc : 0 < c ((i + j) / 2)) : bsF c (j - i) i j = bsF c (j - ((i + j) / 2 + 1)) ((i + j) / 2 + 1) j := by
  obtain ⟨m, hm⟩ : ∃ m, j - i = m + 1 := ⟨j - i - 1, by omega⟩
  rw [hm]
  show (if i < j then (if 0 < c ((i + j) / 2) then _ else _) else i) = _
  rw [if_pos h, if_pos hc]
  exact bsF_more c _ _ _ _ (by omega) (by omega)
theorem bs_down {c : Nat → Int} {i j : Nat} (h : i < j) (hc : ¬ 0 < c ((i + j) / 2)) : bsF c (j - i) i j = bsF c ((i + j) / 2 - i) i ((i + j) / 2) := by
  obtain ⟨m, hm⟩ : ∃ m, j - i = m + 1 := ⟨j - i - 1, by omega⟩
  rw [hm]
  show (if i < j then (if 0 < c ((i + j) / 2) then _ else _) else i) = _
  rw [if_pos h, if_neg hc]
  exact bsF_more c _ _ _ _ (by omega) (by omega)
theorem bs_end {c : Nat → Int} {i j : Nat} (h : ¬ i < j) : bsF c (j - i) i j = i := by
  rw [show j - i = 0 from by omega]
  rfl
theorem bs_spec (c : Nat → Int) (n : Nat) (hm : ∀ i j, i < j → j < n → 0 < c j → 0 < c i) : bsS c n ≤ n ∧ (∀ j, j < bsS c n → 0 < c j) ∧ ∀ j, bsS c n ≤ j → j < n → ¬ 0 < c j := by
  have key : ∀ f i j, j - i ≤ f → i ≤ j → j ≤ n → (∀ k, k < i → 0 < c k) → (∀ k, j ≤ k → k < n → ¬ 0 < c k) → bsF c f i j ≤ n ∧ (∀ k, k < bsF c f i j → 0 < c k) ∧ ∀ k, bsF c f i j ≤ k → k < n → ¬ 0 < c k := by
    intro f
    induction f with
    | zero =>
      intro i j h1 h2 h3 h4 h5
      have : i = j := by omega
      subst this
      exact ⟨h3, h4, h5⟩
    | succ f ih =>
      intro i j h1 h2 h3 h4 h5
      show (if i < j then (if 0 < c ((i + j) / 2) then bsF c f ((i + j) / 2 + 1) j else bsF c f i ((i + j) / 2)) else i) ≤ n ∧ (∀ k, k < (if i < j then (if 0 < c ((i + j) / 2) then bsF c f ((i + j) / 2 + 1) j else bsF c f i ((i + j) / 2)) else i) → 0 < c k) ∧ ∀ k, (if i < j then (if 0 < c ((i + j) / 2) then bsF c f ((i + j) / 2 + 1) j else bsF c f i ((i + j) / 2)) else i) ≤ k → k < n → ¬ 0 < c k
      by_cases h : i < j
      · rw [if_pos h]
        by_cases hc : 0 < c ((i + j) / 2)
        · rw [if_pos hc]
          refine ih _ _ (by omega) (by omega) h3 (fun k hk => ?_) h5
          by_cases e : k = (i + j) / 2
          · subst e; exact hc
          · exact hm k _ (by omega) (by omega) hc
        · rw [if_neg hc]
          refine ih _ _ (by omega) (by omega) (by omega) h4 (fun k hk hkn hck => ?_)
          by_cases e : k = (i + j) / 2
          · subst e; exact hc hck
          · exact hc (hm _ k (by omega) hkn hck)
      · rw [if_neg h]
        have : i = j := by omega
        subst this
        exact ⟨h3, h4, h5⟩
  exact key n 0 n (by omega) (Nat.zero_le _) (Nat.le_refl _) (fun k hk => absurd hk (Nat.not_lt_zero _)) (fun k hk hkn => absurd hkn (by omega))
/-- How a name compares with the file at a place. -/
def cF (n : ByteArray) (fs : List Fl) (i : Nat) : Int := match fs[i]? with | some f => cmpN n f.1 | none => 0
theorem cF_at {n : ByteArray} {fs : List Fl} {i : Nat} {f : Fl} (h : fs[i]? = some f) : cF n fs i = cmpN n f.1 := by unfold cF; rw [h]
def plI (n : ByteArray) (fs : List Fl) : Nat := bsS (cF n fs) fs.length
def plB (n : ByteArray) (fs : List Fl) : Bool := decide (plI n fs < fs.length) && decide (cF n fs (plI n fs) = 0)
theorem cmpN_pos {a b : ByteArray} : 0 < cmpN a b ↔ ltN b a = true := by
  rw [zcc]
  by_cases h1 : ltN a b = true
  · rw [if_pos h1, zfd h1]; simp
  · rw [if_neg h1]
    by_cases h2 : a = b
    · subst h2; rw [if_pos rfl, uw]; simp
    · rw [if_neg h2, zfc (by simpa using h1) h2]; simp
theorem cmpN_zero {a b : ByteArray} : cmpN a b = 0 ↔ a = b := by
  rw [zcc]
  by_cases h1 : ltN a b = true
  · rw [if_pos h1]
    constructor
    · intro h; cases h
    · intro h; exact absurd h (qzc h1)
  · rw [if_neg h1]
    by_cases h2 : a = b
    · rw [if_pos h2]; simp [h2]
    · rw [if_neg h2]
      constructor
      · intro h; cases h
      · intro h; exact absurd h h2
/-! The file of a name: put, taken away, looked up -/
def putF (n : ByteArray) (d : List UInt8) : List Fl → List Fl
  | [] => [(n, d)]
  | f :: fs => if ltN f.1 n = true then f :: putF n d fs else if f.1 = n then (n, d) :: fs else (n, d) :: f :: fs
def delF (n : ByteArray) (fs : List Fl) : List Fl := fs.filter fun f => !(decide (f.1 = n))
def lookF (n : ByteArray) : List Fl → Option (List UInt8)
  | [] => none
  | f :: fs => if f.1 = n then some f.2 else lookF n fs
/-- What stands ahead of a name, and the rest. -/
theorem split_at {n : ByteArray} {fs : List Fl} {a : ByteArray} (hr : risesF a fs = true) : ∃ xs ys, fs = xs ++ ys ∧ xs.length = plI n fs ∧ (∀ f ∈ xs, ltN f.1 n = true) ∧ (∀ f ∈ ys, ltN f.1 n = false) := by
  have hp := (rises_all fs a hr).2
  obtain ⟨h1, h2, h3⟩ := bs_spec (cF n fs) fs.length (fun i j hij hj hc => by
    have hi : i < fs.length := by omega
    rw [cF_at (List.getElem?_eq_getElem hj), cmpN_pos] at hc
    rw [cF_at (List.getElem?_eq_getElem hi), cmpN_pos]
    exact qhd ((List.pairwise_iff_getElem.1 hp) i j hi hj hij) hc)
  refine ⟨fs.take (plI n fs), fs.drop (plI n fs), (List.take_append_drop _ _).symm, by rw [List.length_take]; exact Nat.min_eq_left h1, fun f hf => ?_, fun f hf => ?_⟩
  · obtain ⟨j, hj⟩ := List.mem_iff_getElem?.1 hf
    have hj1 := (List.getElem?_eq_some_iff.1 hj).1
    rw [List.length_take] at hj1
    rw [List.getElem?_take_of_lt (by omega)] at hj
    have := h2 j (by show j < plI n fs; omega)
    rwa [cF_at hj, cmpN_pos] at this
  · obtain ⟨j, hj⟩ := List.mem_iff_getElem?.1 hf
    rw [List.getElem?_drop] at hj
    have hj1 := (List.getElem?_eq_some_iff.1 hj).1
    have := h3 (plI n fs + j) (by show plI n fs ≤ _; omega) hj1
    rw [cF_at hj, cmpN_pos] at this
    simpa using this
theorem putF_ahead {n : ByteArray} {d : List UInt8} : ∀ (xs ys : List Fl), (∀ f ∈ xs, ltN f.1 n = true) → putF n d (xs ++ ys) = xs ++ putF n d ys
  | [], ys, _ => rfl
  | f :: xs, ys, h => by
    show (if ltN f.1 n = true then f :: putF n d (xs ++ ys) else _) = _
    rw [if_pos (h f List.mem_cons_self), putF_ahead xs ys (fun g hg => h g (List.mem_cons_of_mem _ hg))]
    rfl
theorem lookF_ahead {n : ByteArray} : ∀ (xs ys : List Fl), (∀ f ∈ xs, f.1 ≠ n) → lookF n (xs ++ ys) = lookF n ys
  | [], ys, _ => rfl
  | f :: xs, ys, h => by
    show (if f.1 = n then some f.2 else lookF n (xs ++ ys)) = _
    rw [if_neg (h f List.mem_cons_self), lookF_ahead xs ys (fun g hg => h g (List.mem_cons_of_mem _ hg))]
theorem delF_ahead {n : ByteArray} {xs ys : List Fl} (h : ∀ f ∈ xs, f.1 ≠ n) : delF n (xs ++ ys) = xs ++ delF n ys := by
  unfold delF
  rw [List.filter_append, List.filter_eq_self.2 (fun f hf => by simp [h f hf])]
theorem delF_none {n : ByteArray} {xs : List Fl} (h : ∀ f ∈ xs, f.1 ≠ n) : delF n xs = xs := by
  unfold delF
  exact List.filter_eq_self.2 (fun f hf => by simp [h f hf])
/-- In a rising list: the place of a name, and what put, delete and xu-up come to there. -/
theorem place_facts {n : ByteArray} {fs : List Fl} (hr : risesF ⟨#[]⟩ fs = true) : plI n fs ≤ fs.length ∧
    (plB n fs = true → ∃ d0, fs[plI n fs]? = some (n, d0) ∧ lookF n fs = some d0 ∧ (∀ d, putF n d fs = fs.take (plI n fs) ++ (n, d) :: fs.drop (plI n fs + 1)) ∧ delF n fs = fs.take (plI n fs) ++ fs.drop (plI n fs + 1)) ∧
    (plB n fs = false → lookF n fs = none ∧ (∀ d, putF n d fs = fs.take (plI n fs) ++ (n, d) :: fs.drop (plI n fs)) ∧ delF n fs = fs) := by
  have hp := (rises_all fs _ hr).2
  obtain ⟨xs, ys, he, hl, hx, hy⟩ := split_at (n := n) hr
  have hle : plI n fs ≤ fs.length := by rw [he, List.length_append, ← he, hl]; omega
  have htk : fs.take (plI n fs) = xs := by rw [← hl]; conv => lhs; rw [he]; 
                                           exact List.take_left
  have hdr : fs.drop (plI n fs) = ys := by rw [← hl]; conv => lhs; rw [he]; 
                                           exact List.drop_left
  have hxn : ∀ f ∈ xs, f.1 ≠ n := fun f hf => qzc (hx f hf)
  refine ⟨hle, fun hb => ?_, fun hb => ?_⟩
  · unfold plB at hb
    simp only [Bool.and_eq_true, decide_eq_true_eq] at hb
    obtain ⟨h1, h2⟩ := hb
    obtain ⟨fn, fd, hf⟩ := file_get h1
    rw [cF_at hf, cmpN_zero] at h2
    have h2 : n = fn := h2
    subst h2
    have hys : ys = (n, fd) :: fs.drop (plI n fs + 1) := by
      rw [← hdr]
      obtain ⟨k1, k2⟩ := List.getElem?_eq_some_iff.1 hf
      rw [List.drop_eq_getElem_cons k1, k2]
    have hrest : ∀ f ∈ fs.drop (plI n fs + 1), f.1 ≠ n := by
      intro f hf2
      rw [he, hys] at hp
      have := (List.pairwise_cons.1 (List.pairwise_append.1 hp).2.1).1 f hf2
      exact (qzc this).symm
    refine ⟨fd, hf, ?_, fun d => ?_, ?_⟩
    · conv => lhs; rw [he, hys]
      rw [lookF_ahead xs _ hxn]
      exact if_pos rfl
    · rw [htk]
      conv => lhs; rw [he, hys]
      rw [putF_ahead xs _ hx]
      congr 1
      show (if ltN n n = true then _ else if n = n then _ else _) = _
      rw [if_neg (by rw [uw]; decide), if_pos rfl]
    · rw [htk]
      conv => lhs; rw [he, hys]
      rw [delF_ahead hxn]
      congr 1
      show List.filter _ ((n, fd) :: _) = _
      rw [List.filter_cons_of_neg (by simp)]
      exact delF_none hrest
  · have hyn : ∀ f ∈ ys, f.1 ≠ n := by
      intro f hf e
      have hp2 := hp
      rw [he] at hp2
      have hpy := (List.pairwise_append.1 hp2).2.1
      cases ys with
      | nil => cases hf
      | cons g t =>
        have hg : fs[plI n fs]? = some g := by
          rw [← Nat.add_zero (plI n fs), ← List.getElem?_drop, hdr]; rfl
        have hlt := (List.getElem?_eq_some_iff.1 hg).1
        have hgn : g.1 ≠ n := fun k => by
          unfold plB at hb
          rw [decide_eq_true hlt, decide_eq_true (show cF n fs (plI n fs) = 0 by rw [cF_at hg, cmpN_zero]; exact k.symm)] at hb
          cases hb
        rcases List.mem_cons.1 hf with rfl | hf
        · exact hgn e
        · have h1 := (List.pairwise_cons.1 hpy).1 f hf
          rw [e] at h1
          have h2 := hy g List.mem_cons_self
          rw [h1] at h2
          cases h2
    refine ⟨?_, fun d => ?_, ?_⟩
    · conv => lhs; rw [he]
      rw [lookF_ahead xs _ hxn]
      have : ∀ zs : List Fl, (∀ f ∈ zs, f.1 ≠ n) → lookF n zs = none := by
        intro zs
        induction zs with
        | nil => intro _; rfl
        | cons g t ih =>
          intro h
          show (if g.1 = n then _ else lookF n t) = none
          rw [if_neg (h g List.mem_cons_self)]
          exact ih (fun f hf => h f (List.mem_cons_of_mem _ hf))
      exact this ys hyn
    · rw [htk, hdr]
      conv => lhs; rw [he]
      rw [putF_ahead xs _ hx]
      congr 1
      cases ys with
      | nil => rfl
      | cons g t =>
        show (if ltN g.1 n = true then _ else if g.1 = n then _ else _) = _
        rw [if_neg (by rw [hy g List.mem_cons_self]; decide), if_neg (hyn g List.mem_cons_self)]
    · refine delF_none (fun f hf => ?_)
      rw [he] at hf
      rcases List.mem_append.1 hf with hf | hf
      · exact hxn f hf
      · exact hyn f hf
end Go.Proofs.YtjlpecapebhgjaaGreatDoor.G
