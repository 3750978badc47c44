/- Whole numbers by their last digits. -/
import Derived.Test.YtjlpecapebhgjaaGreatDoorPtablek10h
import Derived.Test.YtjlpecapebhgjaaGreatDoorPtablek10c
namespace Go.Proofs.YtjlpecapebhgjaaGreatDoor.G
open Go.RowKit
open Classical
set_option linter.unusedVariables false
set_option linter.unusedSimpArgs false

theorem int_rat (n : Int) : Q6.rat (mkRat n 1) 0 = qs n := by
  rw [zgb]; unfold qs rb; rfl
theorem word_fit {n : Int} (h : n.natAbs ≤ 18446744073709551616) : (words n.natAbs).length ≤ 512 := Nat.le_trans (words_mono h) (by decide +kernel)
theorem int_fit {n : Int} (h : n.natAbs ≤ 18446744073709551616) : jx (mkRat n 1) := by
  rw [Rat.mkRat_one]
  exact ⟨word_fit h, by show (words 1).length ≤ 512; decide +kernel⟩
theorem fit_0 : jx 0 := by
  have := int_fit (n := 0) (by decide)
  rwa [Rat.zero_mkRat] at this
/-- The rest by 10. -/
theorem dm_parts {m : Int} (h : m.natAbs ≤ 4611686018427387904) : zkc (mkRat (zvd (mkRat m 1) (mkRat 10 1)) 1) 0 = (qs (m / 10), 0) ∧ zkc (zfj (mkRat m 1) (mkRat 10 1)) 0 = (qs (m % 10), 0) := by
  have hne : (mkRat 10 1 : Rat) ≠ 0 := by rw [Rat.mkRat_one]; decide
  have e1 := zrg (u := mkRat m 1) hne
  have e2 := zve (u := mkRat m 1) (x := mkRat 10 1)
  have e3 := zvf (u := mkRat m 1) hne
  generalize hq : zvd (mkRat m 1) (mkRat 10 1) = k at e1
  generalize hr : zfj (mkRat m 1) (mkRat 10 1) = r at e1 e2 e3
  have e4 : r = ((m - k * 10 : Int) : Rat) := by
    rw [Rat.mkRat_one, Rat.mkRat_one, Rat.mkRat_one] at e1
    rw [Rat.intCast_sub, Rat.intCast_mul, ← e1]
    rw [Rat.add_comm, Rat.sub_eq_add_neg, Rat.add_assoc, Rat.add_neg_cancel, Rat.add_zero]
  have e5 : (0 : Int) ≤ m - k * 10 := by
    rw [e4] at e2
    exact Rat.intCast_nonneg.1 e2
  have e6 : m - k * 10 < 10 := by
    rcases e3 with e3 | e3
    · rw [e4, Rat.mkRat_one] at e3
      exact Rat.intCast_lt_intCast.1 e3
    · rw [e4, Rat.mkRat_one, ← Rat.intCast_neg] at e3
      have := Rat.intCast_lt_intCast.1 e3
      omega
  have e7 : k = m / 10 := by omega
  have e8 : m - k * 10 = m % 10 := by omega
  have e9 : r = mkRat (m % 10) 1 := by rw [e4, e8, Rat.mkRat_one]
  rw [e9, e7]
  have f1 := int_fit (n := m / 10) (by omega)
  have f2 := int_fit (n := m % 10) (by omega)
  unfold zkc
  rw [if_pos ⟨f1, fit_0⟩, if_pos ⟨f2, fit_0⟩, int_rat, int_rat]
  exact ⟨rfl, rfl⟩
def intT (n : Int) : Tr := .mk 3 0 (qs n) ⟨#[]⟩ [] []
theorem intQ_inj {a b : Int} (h : qs a = qs b) : a = b := by
  rw [← int_rat, ← int_rat] at h
  have := congrArg reQ h
  rw [kr, kr, Rat.mkRat_one, Rat.mkRat_one] at this
  exact Rat.intCast_inj.1 this
theorem intT_inj {a b : Int} (h : intT a = intT b) : a = b := by unfold intT at h; injection h with _ _ h; exact intQ_inj h
theorem int_sound {n : Int} (h : n.natAbs ≤ 18446744073709551616) : zx zq (intT n) = true := by
  have h1 : xn (qs n) = true := by
    unfold qs
    refine qgb (word_fit h) ?_
    by_cases k : n < 0
    · rw [decide_eq_true k]; show 1 ≤ _; omega
    · rw [decide_eq_false k]; exact Nat.zero_le _
  unfold zx intT
  simp [xe, qaj, qba, qhj, zq, jt, vt, qbg, h1]
theorem int_good {n : Int} (h : n.natAbs ≤ 18446744073709551616) : (intT n).good := by
  have h1 := qra (int_sound h)
  unfold intT at h1 ⊢
  rw [qba, Bool.and_eq_true] at h1
  exact qgh.2 ⟨qeg (k := 3) (n := 0) (q := qs n) (s := ⟨#[]⟩) (mr := 0) (ml := 0) h1.1, fun _ => ⟨mkRat n 1, 0, (int_rat n).symm, int_fit h, fit_0⟩, (fun t ht => by cases ht)⟩
def isInt (t : Tr) : Prop := ∃ m : Int, m.natAbs ≤ 4611686018427387904 ∧ t = intT m
noncomputable def ok3 (t : Tr) : Bool := decide (isInt t)
noncomputable def mk3 (t : Tr) : Tr := if h : isInt t then intT (Classical.choose h % 10) else t
theorem ok3_is {t : Tr} (h : ok3 t = true) : isInt t := of_decide_eq_true h
theorem ok3_int {m : Int} (h : m.natAbs ≤ 4611686018427387904) : ok3 (intT m) = true := decide_eq_true ⟨m, h, rfl⟩
theorem mk3_int {m : Int} (h : m.natAbs ≤ 4611686018427387904) : mk3 (intT m) = intT (m % 10) := by
  have k : isInt (intT m) := ⟨m, h, rfl⟩
  unfold mk3
  rw [dif_pos k]
  have := intT_inj (Classical.choose_spec k).2
  rw [← this]
theorem len_int {n : Int} (h : n.natAbs ≤ 18446744073709551616) : LenQ (qs n) := by
  rw [← int_rat]; exact un (int_fit h) fit_0
/-! ### All that is there, as pieces -/
/-- What is no block of these pieces. -/
noncomputable def others (w0 w : World) (L : List Ck) : List Ck := (froz w w0.heap.size (w.heap.size - w0.heap.size)).filter fun c => decide (∀ d ∈ L, ∀ b, c.at_ = some b → d.at_ ≠ some b)
theorem others_nob {w0 w : World} {L : List Ck} : xl (others w0 w L) := fun c hc => qxb c (List.mem_filter.1 hc).1
theorem Mg.fill {w0 w : World} {L : List Ck} (hM : Mg w0 w L) (hnb : xl L) : Mg w0 w (others w0 w L ++ L) := by
  refine ⟨hM.bel, fun c hc => ?_, List.pairwise_append.2 ⟨(qdb _ _).filter _, hM.dis, fun c hc d hd => ?_⟩⟩
  · rcases List.mem_append.1 hc with h | h
    · obtain ⟨b, o, rfl, h3, h4⟩ := kz (List.mem_filter.1 h).1
      exact ⟨h3, h4⟩
    · exact hM.all c h
  · have h5 := of_decide_eq_true (List.mem_filter.1 hc).2
    obtain ⟨b, o, rfl, h3, h4⟩ := kz (List.mem_filter.1 hc).1
    have h6 := h5 d hd b rfl
    cases d with
    | obj g' o' => exact fun e => h6 (by rw [e]; rfl)
    | row e' sz' v' n' xs' => exact h6
    | bld b' bs' => exact absurd rfl (hnb _ hd b' bs')
/-- A datum that lies in no block of these pieces stands by the others. -/
theorem others_live {w0 w : World} {L : List Ck} (hM : Mg w0 w L) {t : Dt} (ht : t.rd w) (ha : t.at_ fun b => ∀ d ∈ L, d.at_ ≠ some b) : ∀ w9, Mg w0 w9 (others w0 w L) → t.rd w9 := fun w9 h9 => by
  refine Dt.seen (p := fun b => ∀ d ∈ L, d.at_ ≠ some b) (fun b i v hb hc => ?_) t ht ha
  have hlt := cell_lt hc
  by_cases h0 : b < w0.heap.size
  · have e : w9.heap[b]? = w.heap[b]? := (h9.bel.block b h0).trans (hM.bel.block b h0).symm
    unfold World.cell? at hc ⊢
    simp only at hc ⊢
    rw [e]; exact hc
  · have h2 : w.heap[b]? = some (w.heap[b]'hlt) := Array.getElem?_eq_getElem hlt
    have h3 : Ck.obj b (w.heap[b]'hlt) ∈ others w0 w L := List.mem_filter.2 ⟨qnb (by omega) (by simp only at *; omega) h2, decide_eq_true fun d hd b' e => by cases e; exact hb d hd⟩
    have h4 := (h9.all _ h3).2
    unfold World.cell? at hc ⊢
    simp only at hc ⊢
    rw [h4, ← h2]; exact hc
/-- No words lie there. -/
def wordless (w : World) (c : Ck) : Prop := ∀ b, c.at_ = some b → ∀ i z, w.cell? ⟨b, i, none⟩ ≠ some (.int .u32 z)
theorem wordless_cells {w0 w : World} {L : List Ck} (hM : Mg w0 w L) (k : Nat) {g : Nat} {vs : List Value} {t : TypeId} (hk : L[k]? = some (.obj g (.cells vs.toArray t))) (hw : vs.all qxf = true) : wordless w (.obj g (.cells vs.toArray t)) := fun b e i z hc => by
  cases e
  rw [cell_of_row w g _ vs.toArray t (0, 0) (hM.obj k hk)] at hc
  have h5 : Value.int .u32 z ∈ vs := List.mem_of_getElem? (i := i) (by simpa using hc)
  have := List.all_eq_true.1 hw _ h5
  cases this
theorem wordless_map {w0 w : World} {L : List Ck} (hM : Mg w0 w L) (k : Nat) {g : Nat} {es : List En} {ck : Nat} (hk : L[k]? = some (.obj g (xw es ck))) : wordless w (.obj g (xw es ck)) := fun b e i z hc => by
  cases e
  have := hM.obj k hk
  unfold World.cell? at hc
  simp only at hc
  rw [this] at hc
  cases hc
theorem num_apart {w : World} {L : List Ck} (h : ∀ d ∈ L, wordless w d) {t : Dt} (ht : t.rd w) (h1 : t.d.rl = []) (h2 : t.ts = []) : t.at_ fun b => ∀ d ∈ L, d.at_ ≠ some b := by
  have key : ∀ {so : Option Addr} {l : List Nat}, Rd w so l → In (fun b => ∀ d ∈ L, d.at_ ≠ some b) so l := fun hr hne b o e d hd hb => by
    obtain ⟨b', off, k1, k2, k3⟩ := hr.pos hne
    rw [k1] at e; cases e
    exact h d hd _ hb _ _ (k3 0 (List.length_pos_iff.2 hne))
  cases t with
  | mk d ts =>
    simp only [Dt.d, Dt.ts] at h1 h2
    subst h2
    rw [Dt.rd_iff] at ht
    rw [Dt.at_iff]
    exact ⟨⟨key ht.1.num.s1.rd, key ht.1.num.s2.rd, key ht.1.num.s3.rd, key ht.1.num.s4.rd, fun hne => absurd h1 hne⟩, fun hne => absurd rfl hne, fun t ht => by cases ht⟩
end Go.Proofs.YtjlpecapebhgjaaGreatDoor.G
