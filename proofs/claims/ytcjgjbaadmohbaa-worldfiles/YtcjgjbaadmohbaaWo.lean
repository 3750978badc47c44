/- Eight files by their numbers: what the calls make of them. -/
import Derived.Test.YtcjgjbaadmohbaaWm
namespace Go.Proofs.Ytcjgjbaadmohbaa
open Go.RowKit
set_option linter.unusedVariables false
set_option linter.unusedSimpArgs false
set_option maxRecDepth 100000

/-- The name of a number. -/
def nmK (k : Nat) : ByteArray := ⟨#[102, UInt8.ofNat (48 + k)]⟩
abbrev Pr := List UInt8 × Bool
/-- The files that are there, from a number on. -/
def FM : Nat → List Pr → List Fl
  | _, [] => []
  | k, p :: r => if p.2 = true then (nmK k, p.1) :: FM (k + 1) r else FM (k + 1) r
theorem u8K {a : Nat} (ha : a < 100) : (UInt8.ofNat (48 + a)).toNat = 48 + a := by
  rw [UInt8.toNat_ofNat', Nat.mod_eq_of_lt (by omega)]
theorem neK {a b : Nat} (ha : a < 100) (hb : b < 100) : nmK a = nmK b ↔ a = b := by
  constructor
  · intro h
    unfold nmK at h
    simp only [ByteArray.mk.injEq, Array.mk.injEq, List.cons.injEq, and_true, true_and] at h
    have := congrArg UInt8.toNat h
    rw [u8K ha, u8K hb] at this
    omega
  · intro h; rw [h]
theorem ltK {a b : Nat} (ha : a < 100) (hb : b < 100) : ltN (nmK a) (nmK b) = decide (a < b) := by
  show (decide ((102 : UInt8) < 102) || ((102 : UInt8) == 102 && (decide (UInt8.ofNat (48 + a) < UInt8.ofNat (48 + b)) || (UInt8.ofNat (48 + a) == UInt8.ofNat (48 + b) && false)))) = _
  have h1 : UInt8.ofNat (48 + a) < UInt8.ofNat (48 + b) ↔ a < b := by
    rw [UInt8.lt_iff_toNat_lt, u8K ha, u8K hb]; omega
  rw [Bool.and_false, Bool.or_false]
  simp only [h1]
  simp
theorem FM_mem {f : Fl} : ∀ {ps : List Pr} {k : Nat}, f ∈ FM k ps → ∃ j, k ≤ j ∧ j < k + ps.length ∧ f.1 = nmK j ∧ (f.2, true) ∈ ps
  | [], k, h => by cases h
  | (d, t) :: r, k, h => by
    have hr : f ∈ FM (k + 1) r → ∃ j, k ≤ j ∧ j < k + ((d, t) :: r).length ∧ f.1 = nmK j ∧ (f.2, true) ∈ (d, t) :: r := by
      intro h
      obtain ⟨j, h1, h2, h3, h4⟩ := FM_mem h
      exact ⟨j, by omega, by simp only [List.length_cons]; omega, h3, List.mem_cons_of_mem _ h4⟩
    cases t with
    | false => exact hr h
    | true =>
      rcases List.mem_cons.1 (show f ∈ (nmK k, d) :: FM (k + 1) r from h) with rfl | h
      · exact ⟨k, Nat.le_refl _, by simp only [List.length_cons]; omega, rfl, List.mem_cons_self⟩
      · exact hr h
theorem putF_first {n : ByteArray} {d : List UInt8} {fs : List Fl} (h : ∀ f ∈ fs, ltN f.1 n = false ∧ f.1 ≠ n) : putF n d fs = (n, d) :: fs := by
  cases fs with
  | nil => rfl
  | cons f fs =>
    have := h f List.mem_cons_self
    unfold putF
    rw [if_neg (by rw [this.1]; decide), if_neg this.2]
theorem FM_put {d : List UInt8} : ∀ (ps : List Pr) (k j : Nat), k ≤ j → j < k + ps.length → k + ps.length ≤ 100 → putF (nmK j) d (FM k ps) = FM k (ps.set (j - k) (d, true))
  | [], k, j, h1, h2, h3 => by simp at h2; omega
  | (h, t) :: r, k, j, h1, h2, h3 => by
    simp only [List.length_cons] at h2 h3
    by_cases hj : j = k
    · subst hj
      rw [Nat.sub_self, List.set_cons_zero]
      show _ = (nmK j, d) :: FM (j + 1) r
      cases t with
      | true =>
        show putF (nmK j) d ((nmK j, h) :: FM (j + 1) r) = _
        unfold putF
        rw [if_neg (by rw [ltK (by omega) (by omega)]; simp), if_pos rfl]
      | false =>
        show putF (nmK j) d (FM (j + 1) r) = _
        refine putF_first fun f hf => ?_
        obtain ⟨i, g1, g2, g3, _⟩ := FM_mem hf
        rw [g3, ltK (by omega) (by omega)]
        exact ⟨decide_eq_false (by omega), fun k9 => by have := (neK (by omega) (by omega)).1 k9; omega⟩
    · have ih := FM_put (d := d) r (k + 1) j (by omega) (by omega) (by omega)
      rw [show j - k = (j - (k + 1)) + 1 from by omega, List.set_cons_succ]
      cases t with
      | true =>
        show putF (nmK j) d ((nmK k, h) :: FM (k + 1) r) = (nmK k, h) :: FM (k + 1) (r.set (j - (k + 1)) (d, true))
        rw [← ih]
        show (if ltN (nmK k) (nmK j) = true then _ else _) = _
        rw [if_pos (by rw [ltK (by omega) (by omega)]; exact decide_eq_true (by omega))]
      | false => exact ih
theorem FM_del {h' : List UInt8} : ∀ (ps : List Pr) (k j : Nat), k ≤ j → j < k + ps.length → k + ps.length ≤ 100 → delF (nmK j) (FM k ps) = FM k (ps.set (j - k) (h', false))
  | [], k, j, h1, h2, h3 => by simp at h2; omega
  | (h, t) :: r, k, j, h1, h2, h3 => by
    simp only [List.length_cons] at h2 h3
    by_cases hj : j = k
    · subst hj
      rw [Nat.sub_self, List.set_cons_zero]
      show _ = FM (j + 1) r
      have hrest : delF (nmK j) (FM (j + 1) r) = FM (j + 1) r := by
        refine List.filter_eq_self.2 fun f hf => ?_
        obtain ⟨i, g1, g2, g3, _⟩ := FM_mem hf
        rw [g3, decide_eq_false (fun k9 => by have := (neK (by omega) (by omega)).1 k9; omega)]
        rfl
      cases t with
      | true =>
        show delF (nmK j) ((nmK j, h) :: FM (j + 1) r) = _
        unfold delF
        rw [List.filter_cons_of_neg (by simp)]
        exact hrest
      | false => exact hrest
    · have ih := FM_del (h' := h') r (k + 1) j (by omega) (by omega) (by omega)
      rw [show j - k = (j - (k + 1)) + 1 from by omega, List.set_cons_succ]
      cases t with
      | true =>
        show delF (nmK j) ((nmK k, h) :: FM (k + 1) r) = (nmK k, h) :: FM (k + 1) (r.set (j - (k + 1)) (h', false))
        rw [← ih]
        unfold delF
        rw [List.filter_cons_of_pos (by rw [decide_eq_false (fun k9 => hj ((neK (by omega) (by omega)).1 k9).symm)]; rfl)]
      | false => exact ih
theorem FM_look : ∀ (ps : List Pr) (k j : Nat) (h : List UInt8) (t : Bool), k ≤ j → k + ps.length ≤ 100 → ps[j - k]? = some (h, t) → lookF (nmK j) (FM k ps) = if t = true then some h else none
  | [], k, j, h, t, h1, h3, hp => by simp at hp
  | (h0, t0) :: r, k, j, h, t, h1, h3, hp => by
    simp only [List.length_cons] at h3
    by_cases hj : j = k
    · subst hj
      rw [Nat.sub_self, List.getElem?_cons_zero] at hp
      simp only [Option.some.injEq, Prod.mk.injEq] at hp
      obtain ⟨rfl, rfl⟩ := hp
      cases t0 with
      | true => show lookF (nmK j) ((nmK j, h0) :: FM (j + 1) r) = _; unfold lookF; rw [if_pos rfl, if_pos rfl]
      | false =>
        show lookF (nmK j) (FM (j + 1) r) = none
        cases hl : lookF (nmK j) (FM (j + 1) r) with
        | none => rfl
        | some d =>
          have : ∀ fs : List Fl, lookF (nmK j) fs = some d → ∃ f ∈ fs, f.1 = nmK j := by
            intro fs
            induction fs with
            | nil => intro k9; cases k9
            | cons g gs ih =>
              intro k9
              unfold lookF at k9
              split at k9
              · exact ⟨g, List.mem_cons_self, by assumption⟩
              · obtain ⟨f, e1, e2⟩ := ih k9; exact ⟨f, List.mem_cons_of_mem _ e1, e2⟩
          obtain ⟨f, hf, hn⟩ := this _ hl
          obtain ⟨i, g1, g2, g3, _⟩ := FM_mem hf
          have := (neK (by omega) (by omega)).1 (g3.symm.trans hn)
          omega
    · rw [show j - k = (j - (k + 1)) + 1 from by omega, List.getElem?_cons_succ] at hp
      have hlt := (List.getElem?_eq_some_iff.1 hp).1
      have ih := FM_look r (k + 1) j h t (by omega) (by omega) hp
      cases t0 with
      | true =>
        rw [← ih]
        show (if nmK k = nmK j then _ else _) = _
        rw [if_neg (fun k9 => hj ((neK (by omega) (by omega)).1 k9).symm)]
      | false => exact ih
def cnt (ps : List Pr) : Nat := (ps.filter (·.2)).length
theorem FM_len : ∀ (ps : List Pr) (k : Nat), (FM k ps).length = cnt ps
  | [], k => rfl
  | (h, t) :: r, k => by
    cases t with
    | true => show (FM (k + 1) r).length + 1 = _; rw [FM_len r (k + 1)]; rfl
    | false => show (FM (k + 1) r).length = _; rw [FM_len r (k + 1)]; rfl
theorem cnt_le (ps : List Pr) : cnt ps ≤ ps.length := List.length_filter_le _ _
theorem cnt_step {ps : List Pr} {k : Nat} {h : List UInt8} {t : Bool} (hp : ps[k]? = some (h, t)) : cnt (ps.take (k + 1)) = cnt (ps.take k) + (if t = true then 1 else 0) := by
  unfold cnt
  rw [List.take_add_one, hp, List.filter_append, List.length_append]
  cases t <;> rfl
theorem FM_pair : ∀ (ps : List Pr) (k : Nat), k + ps.length ≤ 100 → (FM k ps).Pairwise (fun f g => ltN f.1 g.1 = true)
  | [], k, _ => .nil
  | (h, t) :: r, k, hk => by
    simp only [List.length_cons] at hk
    have ih := FM_pair r (k + 1) (by omega)
    cases t with
    | false => exact ih
    | true =>
      refine List.pairwise_cons.2 ⟨fun g hg => ?_, ih⟩
      obtain ⟨i, g1, g2, g3, _⟩ := FM_mem hg
      show ltN (nmK k) g.1 = true
      rw [g3, ltK (by omega) (by omega)]
      exact decide_eq_true (by omega)
theorem FM_sound {ps : List Pr} (hl : ps.length = 8) (hd : ∀ p ∈ ps, p.2 = true → p.1.length ≤ 65536) : soundS (FM 0 ps) [] [] = true := by
  have h1 := FM_len ps 0
  have h2 := cnt_le ps
  unfold soundS
  rw [decide_eq_true (by refine ⟨?_, Nat.zero_le _, Nat.zero_le _⟩; omega), Bool.true_and]
  refine rises_of _ _ (fun f hf => ?_) (FM_pair ps 0 (by omega))
  obtain ⟨i, g1, g2, g3, g4⟩ := FM_mem hf
  have hsz : f.1.size = 2 := by rw [g3]; rfl
  refine ⟨lt_empty (by omega), ?_⟩
  unfold okF namedB
  rw [decide_eq_true (by omega), decide_eq_true (hd _ g4 rfl)]
  rfl
section
variable {ps : List Pr} {k : Nat} {h : List UInt8} {t : Bool}
theorem files_put {d : List UInt8} (hl : ps.length = 8) (hs : soundS (FM 0 ps) [] [] = true) (hk : k < 8) (hd : d.length ≤ 65536) : putR (nmK k) d (FM 0 ps) [] [] = (0, FM 0 (ps.set k (d, true)), [], []) := by
  have h1 := FM_len ps 0
  have h2 := cnt_le ps
  unfold putR
  rw [if_neg (by rw [hs]; decide), if_neg (by rw [show namedB (nmK k) = true from rfl]; decide), if_neg (by omega), if_neg (by omega), FM_put ps 0 k (Nat.zero_le _) (by omega) (by omega)]
  rfl
theorem files_del {h' : List UInt8} (hl : ps.length = 8) (hs : soundS (FM 0 ps) [] [] = true) (hp : ps[k]? = some (h, t)) : delR (nmK k) (FM 0 ps) [] [] = if t = true then (0, FM 0 (ps.set k (h', false)), [], []) else (7, [], [], []) := by
  have hlt := (List.getElem?_eq_some_iff.1 hp).1
  unfold delR
  rw [if_neg (by rw [hs]; decide), FM_look ps 0 k h t (Nat.zero_le _) (by omega) hp]
  cases t with
  | true => rw [if_pos rfl, if_neg (by simp), if_pos rfl, FM_del (h' := h') ps 0 k (Nat.zero_le _) (by omega) (by omega)]; rfl
  | false => simp
theorem files_get (hl : ps.length = 8) (hs : soundS (FM 0 ps) [] [] = true) (hp : ps[k]? = some (h, t)) : getR (nmK k) (FM 0 ps) [] [] = if t = true then (0, h) else (7, []) := by
  unfold getR
  rw [if_neg (by rw [hs]; decide), FM_look ps 0 k h t (Nat.zero_le _) (by omega) hp]
  cases t <;> rfl
theorem files_wr {an : Nat} {d : List UInt8} (hl : ps.length = 8) (hs : soundS (FM 0 ps) [] [] = true) (hp : ps[k]? = some (h, true)) (ha : an ≤ h.length) (hd : an + d.length ≤ 65536) : wrR (nmK k) ((an : Nat) : Int) d (FM 0 ps) [] [] = (0, FM 0 (ps.set k (wrD an d h, true)), [], []) := by
  have hlt := (List.getElem?_eq_some_iff.1 hp).1
  unfold wrR
  rw [if_neg (by rw [hs]; decide), FM_look ps 0 k h true (Nat.zero_le _) (by omega) hp, if_pos rfl]
  simp only
  rw [if_neg (by omega), if_neg (by omega), Int.toNat_natCast, FM_put ps 0 k (Nat.zero_le _) (by omega) (by omega)]
  rfl
end
/-- What is held of the files that are there are pieces. -/
def Hd (D : List Ck) (ps : List Pr) (hv : List Value) : Prop := ∀ (k : Nat) (h : List UInt8), ps[k]? = some (h, true) → ∃ v, hv[k]? = some v ∧ Ck.row BY 1 v h.length (Lib.byteCells h) ∈ D
theorem Hd.mono {D D' : List Ck} {ps : List Pr} {hv : List Value} (h : Hd D ps hv) (hs : ∀ c ∈ D, c ∈ D') : Hd D' ps hv := fun k x hk => by
  obtain ⟨v, h1, h2⟩ := h k x hk
  exact ⟨v, h1, hs _ h2⟩
theorem Hd.put {D : List Ck} {ps : List Pr} {hv : List Value} (h : Hd D ps hv) {k : Nat} {d : List UInt8} {v : Value} (hk : k < hv.length) (hm : Ck.row BY 1 v d.length (Lib.byteCells d) ∈ D) : Hd D (ps.set k (d, true)) (hv.set k v) := fun j x hj => by
  by_cases e : j = k
  · subst e
    rw [List.getElem?_set_self (by have := (List.getElem?_eq_some_iff.1 hj).1; rw [List.length_set] at this; exact this)] at hj
    simp only [Option.some.injEq, Prod.mk.injEq, and_true] at hj
    subst hj
    exact ⟨v, List.getElem?_set_self hk, hm⟩
  · rw [List.getElem?_set_ne (fun k9 => e k9.symm)] at hj
    obtain ⟨u, h1, h2⟩ := h j x hj
    exact ⟨u, by rw [List.getElem?_set_ne (fun k9 => e k9.symm)]; exact h1, h2⟩
theorem Hd.del {D : List Ck} {ps : List Pr} {hv : List Value} (h : Hd D ps hv) {k : Nat} {d : List UInt8} : Hd D (ps.set k (d, false)) hv := fun j x hj => by
  by_cases e : j = k
  · subst e
    rw [List.getElem?_set_self (by have := (List.getElem?_eq_some_iff.1 hj).1; rw [List.length_set] at this; exact this)] at hj
    simp at hj
  · rw [List.getElem?_set_ne (fun k9 => e k9.symm)] at hj
    exact h j x hj
/-- What is held is not long. -/
def Shrt (m : Nat) (ps : List Pr) : Prop := ∀ p ∈ ps, p.2 = true → p.1.length ≤ m
theorem Shrt.set {m m' : Nat} {ps : List Pr} (h : Shrt m ps) (hm : m ≤ m') {k : Nat} {p : Pr} (hp : p.2 = true → p.1.length ≤ m') : Shrt m' (ps.set k p) := fun q hq ht => by
  rcases List.mem_or_eq_of_mem_set hq with hq | rfl
  · exact Nat.le_trans (h q hq ht) hm
  · exact hp ht
theorem Shrt.mono {m m' : Nat} {ps : List Pr} (h : Shrt m ps) (hm : m ≤ m') : Shrt m' ps := fun q hq ht => Nat.le_trans (h q hq ht) hm
def bl (ps : List Pr) : List Value := ps.map fun p => .bool p.2
theorem bl_at {ps : List Pr} {k : Nat} {h : List UInt8} {t : Bool} (hp : ps[k]? = some (h, t)) : (bl ps)[k]? = some (.bool t) := by
  unfold bl; rw [List.getElem?_map, hp]; rfl
theorem bl_set {ps : List Pr} {k : Nat} {p : Pr} : bl (ps.set k p) = (bl ps).set k (.bool p.2) := by
  unfold bl; rw [List.map_set]
theorem bl_same {ps : List Pr} {k : Nat} {h h' : List UInt8} {t : Bool} (hp : ps[k]? = some (h, t)) : bl (ps.set k (h', t)) = bl ps := by
  rw [bl_set]
  refine List.ext_getElem? fun j => ?_
  by_cases e : j = k
  · subst e; rw [List.getElem?_set_self (by rw [bl, List.length_map]; exact (List.getElem?_eq_some_iff.1 hp).1), bl_at hp]
  · rw [List.getElem?_set_ne (fun k9 => e k9.symm)]
theorem pr_get {ps : List Pr} {k : Nat} (h : k < ps.length) : ∃ hh tt, ps[k]? = some (hh, tt) := ⟨_, _, List.getElem?_eq_getElem h⟩
end Go.Proofs.Ytcjgjbaadmohbaa
