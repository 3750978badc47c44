/- Blocks of the call's own of any length, fractions as values, and walks of lowest, isOne, fits. -/
import Derived.Test.YthlkbnhbmfmchaaGreatExD
namespace Go.Proofs.YthlkbnhbmfmchaaGreat
open Go.RowKit
set_option linter.unusedVariables false
set_option linter.unusedSimpArgs false

/-- A block whose first cells hold these values, none of them a word, and nothing of it is frozen. -/
structure Blk (w : World) (g : Nat) (vs : List Value) : Prop where
  lt : g < w.heap.size
  cell : ∀ i v, vs[i]? = some v → w.cell? ⟨g, i, none⟩ = some v
  froz : ∀ i, w.frozen? ⟨g, i, none⟩ = false
  no : ∀ v ∈ vs, ∀ n, v ≠ .int .u32 n
theorem Blk.new (w : World) (vs : List Value) (t : TypeId) (hno : ∀ v ∈ vs, ∀ n, v ≠ .int .u32 n) : Blk (w.alloc (.cells vs.toArray t)) w.heap.size vs := by
  refine ⟨by simp, fun i v h => ?_, fun i => ?_, hno⟩
  · rw [World.cell?_alloc_at _ _ _ _ rfl]
    simpa using h
  · exact World.frozen?_alloc_at _ _ _ _ rfl
theorem Blk.alloc {w : World} {g : Nat} {vs : List Value} (h : Blk w g vs) (o : Obj) : Blk (w.alloc o) g vs :=
  ⟨by have := h.lt; simp; omega, fun i v hv => (World.cell?_alloc_past o g i h.lt).trans (h.cell i v hv), fun i => (World.frozen?_alloc_past o g i h.lt).trans (h.froz i), h.no⟩
theorem Blk.drew {w : World} {g : Nat} {vs : List Value} (h : Blk w g vs) : Blk w.drew g vs := ⟨h.lt, h.cell, h.froz, h.no⟩
theorem Blk.below {w w' : World} {g : Nat} {vs : List Value} (h : Blk w g vs) (hb : Below w.heap.size w w') : Blk w' g vs := by
  refine ⟨Nat.lt_of_lt_of_le h.lt hb.size, fun i v hv => (hb.cell (p := ⟨g, i, none⟩) h.lt).trans (h.cell i v hv), fun i => ?_, h.no⟩
  have := hb.block g h.lt
  have e : w'.frozen? ⟨g, i, none⟩ = w.frozen? ⟨g, i, none⟩ := by simp only [World.frozen?, this]
  rw [e]
  exact h.froz i
theorem Blk.far {w : World} {g g' : Nat} {vs : List Value} (h : Blk w g vs) (hne : g' ≠ g) (j : Nat) (x : Value) : Blk (w.setCell ⟨g', j, none⟩ x) g vs :=
  ⟨by simpa using h.lt, fun i v hv => (World.cell?_setCell_other _ _ _ _ (by intro e; cases e; exact hne rfl)).trans (h.cell i v hv), fun i => by simpa using h.froz i, h.no⟩
theorem Blk.set {w : World} {g : Nat} {vs : List Value} (h : Blk w g vs) (i : Nat) (v : Value) (hi : i < vs.length) (hv : ∀ n, v ≠ .int .u32 n) : Blk (w.setCell ⟨g, i, none⟩ v) g (vs.set i v) := by
  refine ⟨by simpa using h.lt, fun j u hu => ?_, fun j => by simpa using h.froz j, fun u hu n => ?_⟩
  · by_cases e : i = j
    · subst e
      rw [List.getElem?_set_self hi] at hu
      cases hu
      exact World.cell?_setCell_same _ _ _ (h.cell i vs[i] (by rw [List.getElem?_eq_getElem hi]))
    · rw [List.getElem?_set_ne e] at hu
      rw [World.cell?_setCell_other _ _ _ _ (by intro k; cases k; exact e rfl)]
      exact h.cell j u hu
  · rcases List.mem_or_eq_of_mem_set hu with h1 | h1
    · exact h.no u h1 n
    · subst h1
      exact hv n
theorem Blk.rd {w : World} {g : Nat} {vs : List Value} (h : Blk w g vs) {so : Option Addr} {l : List Nat} (hr : Rd w so l) (i : Nat) (v : Value) (hi : i < vs.length) : Rd (w.setCell ⟨g, i, none⟩ v) so l :=
  hr.setNo (h.cell i vs[i] (by rw [List.getElem?_eq_getElem hi])) (h.no _ (List.getElem_mem hi)) v

/-- A block of the call's own, behind which memory is as it was. -/
structure Mine (w0 w : World) (g : Nat) (vs : List Value) : Prop where
  ge : w0.heap.size ≤ g
  bel : Below w0.heap.size w0 w
  blk : Blk w g vs
theorem Mine.set {w0 w : World} {g : Nat} {vs : List Value} (h : Mine w0 w g vs) (i : Nat) (v : Value) (hi : i < vs.length) (hv : ∀ n, v ≠ .int .u32 n) : Mine w0 (w.setCell ⟨g, i, none⟩ v) g (vs.set i v) :=
  ⟨h.ge, h.bel.setCell (p := ⟨g, i, none⟩) h.ge v, h.blk.set i v hi hv⟩
theorem Mine.below {w0 w w' : World} {g : Nat} {vs : List Value} (h : Mine w0 w g vs) (hb : Below w.heap.size w w') : Mine w0 w' g vs := ⟨h.ge, chain2 h.bel hb, h.blk.below hb⟩

theorem fin3 {w0 w : World} {g : Nat} {a b c : Value} (h : Mine w0 w g [a, b, c]) (x y z : Value) (hx : ∀ n, x ≠ .int .u32 n) (hy : ∀ n, y ≠ .int .u32 n) (hz : ∀ n, z ≠ .int .u32 n) :
    Mine w0 (((w.setCell ⟨g, 0, none⟩ x).setCell ⟨g, 1, none⟩ y).setCell ⟨g, 2, none⟩ z) g [x, y, z] ∧ ∀ so l, Rd w so l → Rd (((w.setCell ⟨g, 0, none⟩ x).setCell ⟨g, 1, none⟩ y).setCell ⟨g, 2, none⟩ z) so l := by
  have h1 := h.set 0 x (by simp) hx
  have h2 := h1.set 1 y (by simp) hy
  have h3 := h2.set 2 z (by simp) hz
  exact ⟨h3, fun so l hr => h2.blk.rd (h1.blk.rd (h.blk.rd hr 0 x (by simp)) 1 y (by simp)) 2 z (by simp)⟩

/-- The value '.agg #[.bool b, .slice to_ m tc, .slice bo n bc]' stands for a fraction t over q. -/
structure Rt (w : World) (b : Bool) (to_ : Option Addr) (m tc : Nat) (bo : Option Addr) (n bc : Nat) (t : Int) (q : Nat) : Prop where
  neg : b = decide (t < 0)
  top : m = (words t.natAbs).length
  bot : n = (words q).length
  rdT : Rd w to_ (words t.natAbs)
  rdB : Rd w bo (words q)
  nilT : to_ = none → tc = 0
  nilB : bo = none → bc = 0
theorem Rt.below {w w' : World} {b : Bool} {to_ bo : Option Addr} {m tc n bc : Nat} {t : Int} {q : Nat} (h : Rt w b to_ m tc bo n bc t q) (hb : Below w.heap.size w w') : Rt w' b to_ m tc bo n bc t q := ⟨h.neg, h.top, h.bot, h.rdT.below hb, h.rdB.below hb, h.nilT, h.nilB⟩
theorem Rt.carry {w w' : World} {b : Bool} {to_ bo : Option Addr} {m tc n bc : Nat} {t : Int} {q : Nat} (h : Rt w b to_ m tc bo n bc t q) (hr : ∀ so l, Rd w so l → Rd w' so l) : Rt w' b to_ m tc bo n bc t q := ⟨h.neg, h.top, h.bot, hr _ _ h.rdT, hr _ _ h.rdB, h.nilT, h.nilB⟩
/-- A fraction in lowest terms. -/
def lowT (z : Int) (d : Nat) : Int := sgn (decide (z < 0)) (z.natAbs / Nat.gcd z.natAbs d)
def lowB (z : Int) (d : Nat) : Nat := d / Nat.gcd z.natAbs d
theorem lowT_abs (z : Int) (d : Nat) : (lowT z d).natAbs = z.natAbs / Nat.gcd z.natAbs d := sgn_abs _ _
theorem lowT_neg {z : Int} {d : Nat} (hd : d ≠ 0) : decide (lowT z d < 0) = decide (z < 0) := by
  unfold lowT
  rw [sgn_neg]
  by_cases h : z < 0
  · have h1 : 0 < z.natAbs := by omega
    have h2 : 0 < z.natAbs / Nat.gcd z.natAbs d := Nat.div_pos (Nat.gcd_le_left d h1) (Nat.gcd_pos_of_pos_left d h1)
    rw [decide_eq_true h, decide_eq_true h2]
    rfl
  · rw [decide_eq_false h]
    rfl

set_option maxHeartbeats 2000000 in
set_option maxRecDepth 1000000 in
theorem lowest_any {w : World} {b : Bool} {so to_ : Option Addr} {m n sc tc : Nat} {x : Int} {d : Nat} (hx : Wh w b so m sc x) (hn : n = (words d).length) (hy : Rd w to_ (words d)) (hnil : to_ = none → tc = 0) (lx : m ≤ 80000) (ly : n ≤ 80000) (hd : d ≠ 0) :
    Calls Tryz.prog 108 #[.agg #[.bool b, .slice so m sc], .slice to_ n tc] w fun e w' => ∃ ho hm hc lo lm lc, e = .returned (.agg #[.bool b, .slice ho hm hc, .slice lo lm lc]) ∧ Rt w' b ho hm hc lo lm lc (lowT x d) (lowB x d) ∧ Below w.heap.size w w' := by
  obtain ⟨W0, hW0⟩ : ∃ W0, (w.alloc (.cells #[.bool b, .slice so m sc] 53)).alloc (.cells #[.bool false, .slice none 0 0, .slice none 0 0] 24) = W0 := ⟨_, rfl⟩
  have h1 : Below w.heap.size w (w.alloc (.cells #[.bool b, .slice so m sc] 53)) := (Below.refl _ _).alloc (Nat.le_refl _) _
  have h3 := h1.alloc (o := .cells #[.bool false, .slice none 0 0, .slice none 0 0] 24) h1.size
  have t1 := (Two.new w (.bool b) (.slice so m sc) 53).alloc (.cells #[.bool false, .slice none 0 0, .slice none 0 0] 24)
  have t3 := Blk.new (w.alloc (.cells #[.bool b, .slice so m sc] 53)) [.bool false, .slice none 0 0, .slice none 0 0] 24 (by simp)
  have s1 : (w.alloc (.cells #[.bool b, .slice so m sc] 53)).heap.size = w.heap.size + 1 := by simp
  rw [s1] at t3
  have t4 : Blk W0 (w.heap.size + 1) [.bool false, .slice none 0 0, .slice none 0 0] := by rw [← hW0]; exact t3
  rw [hW0] at h3 t1
  have hm0 : Mine w W0 (w.heap.size + 1) [.bool false, .slice none 0 0, .slice none 0 0] := ⟨by omega, h3, t4⟩
  have a1 := t1.c1
  have c1 := divisor_any sc tc (hx.rd.below h3) (hy.below h3) (by rw [← hx.len]; omega) (by rw [← hn]; omega) hx.nil hnil
  rw [← hx.len, ← hn] at c1
  have HC1 : Hid _ := c1
  have HM0 : Hid _ := hm0
  have HT1 : Hid _ := t1
  have HX : Hid _ := hx
  have HY : Hid _ := hy
  have HNL : Hid _ := hnil
  have HN : Hid _ := hn
  have HD0 : Hid _ := hd
  have HG0 : Hid (Nat.gcd x.natAbs d ≠ 0) := by
    show Nat.gcd x.natAbs d ≠ 0
    exact Nat.pos_iff_ne_zero.1 (Nat.gcd_pos_of_pos_right _ (Nat.pos_of_ne_zero hd))
  have HLG : Hid ((words (Nat.gcd x.natAbs d)).length ≤ 80000) := Nat.le_trans (words_mono (Nat.gcd_le_right _ (Nat.pos_of_ne_zero hd))) (by rw [← hn]; exact ly)
  obtain ⟨lg, HLG2⟩ : ∃ l, Hid ((words (Nat.gcd x.natAbs d)).length = l) := ⟨_, rfl⟩
  clear h1 h3 t1 t3 t4 s1 hm0 c1 hx hn hy hnil hd
  go_enter Tryz.func108, Tryz.ntmps108
  go_wp2_with fail
  refine Calls.mono HC1.out ?_
  rintro e w1 ⟨co, cc, rfl, oc, b1⟩
  clear hW0 a1
  have HM1 : Hid _ := HM0.out.below b1
  have HT11 : Hid _ := HT1.out.below b1
  have a1 := HT11.out.c1
  have HOC : Hid _ := oc
  have c2 := divide_any sc cc (HX.out.rd.below HM1.out.bel) oc.rd (by rw [← HX.out.len]; omega) (by have := HLG.out; omega) HX.out.nil HG0.out
  rw [← HX.out.len, HLG2.out] at c2
  have HC2 : Hid _ := c2
  simp only [HLG2.out]
  clear oc b1 c2 HC1
  go_wp2_with fail
  refine Calls.mono HC2.out ?_
  rintro e w2 ⟨ho, hc, r1, r2, rfl, oh, or, b2⟩
  have HM2 : Hid _ := HM1.out.below b2
  have HT12 : Hid _ := HT11.out.below b2
  have HOH : Hid _ := oh
  have c3 := divide_any tc cc (HY.out.below HM2.out.bel) (HOC.out.rd.below b2) (by rw [← HN.out]; omega) (by have := HLG.out; omega) HNL.out HG0.out
  rw [← HN.out, HLG2.out] at c3
  have HC3 : Hid _ := c3
  clear oh or b2 c3 HC2 a1
  go_wp2_with fail
  refine Calls.mono HC3.out ?_
  rintro e w3 ⟨lo, lc, r3, r4, rfl, ol, or, b3⟩
  have HM3 : Hid _ := HM2.out.below b3
  have a0 := (HT12.out.below b3).c0
  have k0 := HM3.out.blk.cell 0 _ rfl
  have k1 := HM3.out.blk.cell 1 _ rfl
  have k2 := HM3.out.blk.cell 2 _ rfl
  have g0 := HM3.out.blk.froz 0
  have g1 := HM3.out.blk.froz 1
  have g2 := HM3.out.blk.froz 2
  obtain ⟨hm, HHM⟩ : ∃ l, Hid ((words (x.natAbs / Nat.gcd x.natAbs d)).length = l) := ⟨_, rfl⟩
  obtain ⟨lm, HLM⟩ : ∃ l, Hid ((words (d / Nat.gcd x.natAbs d)).length = l) := ⟨_, rfl⟩
  have HR : Hid (Rt w3 b ho hm hc lo lm lc (lowT x d) (lowB x d)) := ⟨by rw [lowT_neg HD0.out]; exact HX.out.neg, by rw [lowT_abs]; exact HHM.out.symm, HLM.out.symm, by rw [lowT_abs]; exact HOH.out.rd.below b3, ol.rd, HOH.out.nocap, ol.nocap⟩
  have HF : Hid _ := fin3 HM3.out (.bool b) (.slice ho hm hc) (.slice lo lm lc) (by simp) (by simp) (by simp)
  simp only [HHM.out, HLM.out]
  clear ol or b3 HC3
  go_wp2
  try simp only [Exit.inBlock, Exit.then]
  refine bodyPost_ret (v := .agg #[.bool b, .slice ho hm hc, .slice lo lm lc]) ?_ rfl ⟨ho, hm, hc, lo, lm, lc, rfl, HR.out.carry HF.out.2, HF.out.1.bel⟩
  rw [results_cell1 rfl]
  go_simp

set_option maxHeartbeats 1000000 in
set_option maxRecDepth 1000000 in
theorem isOne_any {w : World} {ao : Option Addr} {l : List Nat} (ca : Nat) (ha : Rd w ao l) (hl : l.length ≤ 9223372036854775807) :
    Calls Tryz.prog 49 #[.slice ao l.length ca] w fun e w' => e = .returned (.bool (decide (l = [1]))) ∧ w' = w := by
  by_cases h1 : l.length = 1
  · obtain ⟨d, rfl⟩ : ∃ d, l = [d] := by
      match l, h1 with
      | [d], _ => exact ⟨d, rfl⟩
    obtain ⟨b, off, rfl, _, hc⟩ := ha.pos (by simp)
    have k := hc 0 (by simp)
    simp only [List.getD_cons_zero, Nat.add_zero] at k
    have hd := ha.dig d (by simp)
    clear ha hc hl h1
    by_cases hd1 : d = 1
    · subst hd1
      simp only [List.length_singleton]
      go_enter Tryz.func49, Tryz.ntmps49
      go_wp2
      go_ret
      exact ⟨rfl, rfl⟩
    · have e : decide ([d] = [1]) = false := by simp [hd1]
      rw [e]
      have hdI : ((d : Int) == 1) = false := by simp; omega
      simp only [List.length_singleton]
      clear e hd1
      go_enter Tryz.func49, Tryz.ntmps49
      go_wp2
      go_ret
      exact ⟨rfl, rfl⟩
  · have e : decide (l = [1]) = false := by
      apply decide_eq_false
      intro h
      rw [h] at h1
      exact h1 rfl
    rw [e]
    generalize l.length = n at *
    have hnI : ((n : Int) == 1) = false := by simp; omega
    clear ha e
    go_enter Tryz.func49, Tryz.ntmps49
    go_wp2
    go_ret
    exact ⟨rfl, rfl⟩
end Go.Proofs.YthlkbnhbmfmchaaGreat
