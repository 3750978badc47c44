/- Walks of sums of whole numbers whose order is turned; of all sums; and of products with natural numbers. -/
import Derived.Test.YthlkbnhbmfmchaaGreatExC
namespace Go.Proofs.YthlkbnhbmfmchaaGreat
open Go.RowKit
set_option linter.unusedVariables false
set_option linter.unusedSimpArgs false

theorem Two.put {w : World} {g : Nat} {a b : Value} (h : Two w g a b) (x y : Value) : Two ((w.setCell ⟨g, 0, none⟩ x).setCell ⟨g, 1, none⟩ y) g x y := by
  obtain ⟨k0, k1, f0, f1⟩ := h
  have e1 : (w.setCell ⟨g, 0, none⟩ x).cell? ⟨g, 0, none⟩ = some x := World.cell?_setCell_same _ _ _ k0
  have e2 : (w.setCell ⟨g, 0, none⟩ x).cell? ⟨g, 1, none⟩ = some b := by rw [World.cell?_setCell_other _ _ _ _ (by simp)]; exact k1
  refine ⟨?_, World.cell?_setCell_same _ _ _ e2, by simpa using f0, by simpa using f1⟩
  rw [World.cell?_setCell_other _ _ _ _ (by simp)]
  exact e1

set_option maxHeartbeats 2000000 in
set_option maxRecDepth 1000000 in
theorem plus_lt {w : World} {b c : Bool} {so to_ : Option Addr} {m n sc tc : Nat} {x y : Int} (hx : Wh w b so m sc x) (hy : Wh w c to_ n tc y) (lx : m ≤ 50000) (ly : n ≤ 50000) (hs : b ≠ c) (hle : x.natAbs < y.natAbs) :
    Calls Tryz.prog 86 #[.agg #[.bool b, .slice so m sc], .agg #[.bool c, .slice to_ n tc]] w (AnsW w (x + y)) := by
  have HSG : Hid (sgn c (y.natAbs - x.natAbs) = x + y) := by
    show sgn c (y.natAbs - x.natAbs) = x + y
    rw [hy.neg, Int.add_comm]
    exact sgn_sub (by rw [← hx.neg, ← hy.neg]; exact fun e => hs e.symm) (Nat.le_of_lt hle)
  obtain ⟨W0, hW0⟩ : ∃ W0, ((w.alloc (.cells #[.bool b, .slice so m sc] 53)).alloc (.cells #[.bool c, .slice to_ n tc] 53)).alloc (.cells #[.bool false, .slice none 0 0] 53) = W0 := ⟨_, rfl⟩
  have h1 : Below w.heap.size w (w.alloc (.cells #[.bool b, .slice so m sc] 53)) := (Below.refl _ _).alloc (Nat.le_refl _) _
  have h2 := h1.alloc (o := .cells #[.bool c, .slice to_ n tc] 53) h1.size
  have h3 := h2.alloc (o := .cells #[.bool false, .slice none 0 0] 53) h2.size
  have t1 := ((Two.new w (.bool b) (.slice so m sc) 53).alloc (.cells #[.bool c, .slice to_ n tc] 53)).alloc (.cells #[.bool false, .slice none 0 0] 53)
  have t2 := (Two.new (w.alloc (.cells #[.bool b, .slice so m sc] 53)) (.bool c) (.slice to_ n tc) 53).alloc (.cells #[.bool false, .slice none 0 0] 53)
  have t3 := Two.new ((w.alloc (.cells #[.bool b, .slice so m sc] 53)).alloc (.cells #[.bool c, .slice to_ n tc] 53)) (.bool false) (.slice none 0 0) 53
  have s1 : (w.alloc (.cells #[.bool b, .slice so m sc] 53)).heap.size = w.heap.size + 1 := by simp
  have s2 : ((w.alloc (.cells #[.bool b, .slice so m sc] 53)).alloc (.cells #[.bool c, .slice to_ n tc] 53)).heap.size = w.heap.size + 1 + 1 := by simp
  rw [s1] at t2
  rw [s2] at t3
  rw [hW0] at h3 t1 t2 t3
  have HS0 : Hid (∀ w', Two w' w.heap.size (.bool b) (.slice so m sc) → Two w' (w.heap.size + 1) (.bool c) (.slice to_ n tc) → (w'.cell? ⟨w.heap.size, 0, none⟩ = some (.bool b) ∧ w'.cell? ⟨w.heap.size, 1, none⟩ = some (.slice so m sc) ∧ w'.cell? ⟨w.heap.size + 1, 0, none⟩ = some (.bool c) ∧ w'.cell? ⟨w.heap.size + 1, 1, none⟩ = some (.slice to_ n tc))) := fun w' h1 h2 => ⟨h1.c0, h1.c1, h2.c0, h2.c1⟩
  have HNE : Hid (w.heap.size + 1 + 1 ≠ w.heap.size ∧ w.heap.size + 1 + 1 ≠ w.heap.size + 1) := ⟨by omega, by omega⟩
  have HB00 : Hid (Below w.heap.size w W0) := h3
  have HTT1 : Hid _ := t1
  have HTT2 : Hid _ := t2
  have HTT3 : Hid _ := t3
  have c0 := order_any sc tc (hx.rd.below h3) (hy.rd.below h3) (by rw [← hx.len]; omega) (by rw [← hy.len]; omega)
  rw [← hx.len, ← hy.len] at c0
  rw [cmp_lt' hle] at c0
  have HC0 : Hid _ := c0
  have HX : Hid _ := hx
  have HY : Hid _ := hy
  have HLE : Hid _ := hle
  have a0 := t1.c0
  have a1 := t1.c1
  have b0 := t2.c0
  have b1 := t2.c1
  have hbc : (b == c) = false := by simpa using hs
  clear h1 h2 h3 s1 s2 hx hy c0 t1 t2 t3 hle
  go_enter Tryz.func86, Tryz.ntmps86
  go_wp2_with fail
  refine Calls.mono HC0.out ?_
  rintro e w1 ⟨rfl, b1'⟩
  clear hW0 HC0 a0 a1 b0 b1
  have u1 := HTT1.out.below b1'
  have u2 := HTT2.out.below b1'
  have u3 := HTT3.out.below b1'
  obtain ⟨W2, hW2⟩ : ∃ W2, (((w1.setCell ⟨w.heap.size, 0, none⟩ (.bool c)).setCell ⟨w.heap.size, 1, none⟩ (.slice to_ n tc)).setCell ⟨w.heap.size + 1, 0, none⟩ (.bool b)).setCell ⟨w.heap.size + 1, 1, none⟩ (.slice so m sc) = W2 := ⟨_, rfl⟩
  have n12 : w.heap.size ≠ w.heap.size + 1 := by omega
  have n21 : w.heap.size + 1 ≠ w.heap.size := by omega
  have f1 := fin2 (w := w) (g := w.heap.size) (Nat.le_refl _) (chain2 HB00.out b1') u1 (.bool c) (.slice to_ n tc)
  have u2' := (u2.far n12 0 (.bool c)).far n12 1 (.slice to_ n tc)
  have f2 := fin2 (w := w) (g := w.heap.size + 1) (by omega) f1.1 u2' (.bool b) (.slice so m sc)
  have v1 := ((u1.put (.bool c) (.slice to_ n tc)).far n21 0 (.bool b)).far n21 1 (.slice so m sc)
  have v2 := u2'.put (.bool b) (.slice so m sc)
  have v3 := (((u3.far (show w.heap.size ≠ w.heap.size + 1 + 1 by omega) 0 (.bool c)).far (show w.heap.size ≠ w.heap.size + 1 + 1 by omega) 1 (.slice to_ n tc)).far (show w.heap.size + 1 ≠ w.heap.size + 1 + 1 by omega) 0 (.bool b)).far (show w.heap.size + 1 ≠ w.heap.size + 1 + 1 by omega) 1 (.slice so m sc)
  rw [hW2] at f2 v1 v2 v3
  have HT1 : Hid _ := v1.drew
  have HT2 : Hid _ := v2.drew
  have HT3 : Hid _ := v3.drew
  have HB0 : Hid (Below w.heap.size w W2.drew) := f2.1.drew
  have hc1 := (chain2 HB00.out b1')
  have c1 := difference_any tc sc ((f2.2 _ _ (f1.2 _ _ (HY.out.rd.below hc1))).drew) ((f2.2 _ _ (f1.2 _ _ (HX.out.rd.below hc1))).drew) (by rw [← HY.out.len]; omega) (Nat.le_of_lt HLE.out)
  rw [← HX.out.len, ← HY.out.len] at c1
  have HC1 : Hid _ := c1
  have HS2 : Hid (∀ w', Two w' w.heap.size (.bool c) (.slice to_ n tc) → Two w' (w.heap.size + 1) (.bool b) (.slice so m sc) → (w'.cell? ⟨w.heap.size, 0, none⟩ = some (.bool c) ∧ w'.cell? ⟨w.heap.size, 1, none⟩ = some (.slice to_ n tc) ∧ w'.cell? ⟨w.heap.size + 1, 0, none⟩ = some (.bool b) ∧ w'.cell? ⟨w.heap.size + 1, 1, none⟩ = some (.slice so m sc))) := fun w' h1 h2 => ⟨h1.c0, h1.c1, h2.c0, h2.c1⟩
  obtain ⟨p0, p1, p2, p3⟩ := u1
  obtain ⟨q0, q1, q2, q3⟩ := u2
  clear c1 b1' hc1 f1 f2 v1 v2 v3 u2' u3
  go_wp2_with fail
  clear hW2 p0 p1 p2 p3 q0 q1 q2 q3
  have hS := HS2.out _ HT1.out HT2.out
  go_region_held (fun w' => w'.cell? ⟨w.heap.size, 0, none⟩ = some (.bool c) ∧ w'.cell? ⟨w.heap.size, 1, none⟩ = some (.slice to_ n tc) ∧ w'.cell? ⟨w.heap.size + 1, 0, none⟩ = some (.bool b) ∧ w'.cell? ⟨w.heap.size + 1, 1, none⟩ = some (.slice so m sc)) (first | assumption | go_keep) (first
    | (go_at_call 107; refine Calls.mono HC1.out ?_; rintro e w5 ⟨po, pc, rfl, o5, b5⟩; have HO5 : Hid _ := o5; have HB5 : Hid _ := b5; have hS5 := HS2.out _ (HT1.out.below b5) (HT2.out.below b5); have HT15 : Hid _ := HT1.out.below b5; have HT25 : Hid _ := HT2.out.below b5; have HT5 : Hid _ := HT3.out.below b5; clear o5 b5)
    | (go_at_call 95; refine Calls.mono (signed_any (n := y.natAbs - x.natAbs) (m := (words (y.natAbs - x.natAbs)).length) c pc rfl HO5.out.rd HO5.out.nocap) ?_; rintro e w6 ⟨bb, ro, mm, rc, rfl, hw6, b6⟩; have HW6 : Hid _ := hw6; have HB6 : Hid _ := b6; have hS6 := HS2.out _ (HT15.out.below b6) (HT25.out.below b6); have hS7 := HS2.out _ (((HT15.out.below b6).far HNE.out.1 0 (.bool bb)).far HNE.out.1 1 (.slice ro mm rc)) (((HT25.out.below b6).far HNE.out.2 0 (.bool bb)).far HNE.out.2 1 (.slice ro mm rc)); have HT6 : Hid _ := HT5.out.below b6; obtain ⟨k0, k1, g0, g1⟩ := HT6.out; clear hw6 b6))
  all_goals
    have HFIN : Hid _ := fin2 (w := w) (g := w.heap.size + 1 + 1) (by omega) (chain2 (chain2 HB0.out HB5.out) HB6.out) HT6.out (.bool bb) (.slice ro mm rc)
    rw [HSG.out] at HW6
    clear HB5 HB6 HT5 HT6 HO5 HC1
    go_wp2
    try simp only [Exit.inBlock, Exit.then]
    refine bodyPost_ret (v := .agg #[.bool bb, .slice ro mm rc]) ?_ rfl ⟨_, _, _, _, rfl, HW6.out.carry HFIN.out.2, HFIN.out.1⟩
    rw [results_cell1 rfl]
    go_simp

theorem plus_whole {w : World} {b c : Bool} {so to_ : Option Addr} {m n sc tc : Nat} {x y : Int} (hx : Wh w b so m sc x) (hy : Wh w c to_ n tc y) (lx : m ≤ 50000) (ly : n ≤ 50000) :
    Calls Tryz.prog 86 #[.agg #[.bool b, .slice so m sc], .agg #[.bool c, .slice to_ n tc]] w (AnsW w (x + y)) := by
  by_cases hs : b = c
  · exact plus_same hx hy lx ly hs
  · by_cases hle : y.natAbs ≤ x.natAbs
    · exact plus_ge hx hy lx ly hs hle
    · exact plus_lt hx hy lx ly hs (by omega)

set_option maxHeartbeats 2000000 in
set_option maxRecDepth 1000000 in
theorem scaled_any {w : World} {b : Bool} {so to_ : Option Addr} {m n sc tc : Nat} {x : Int} {y : Nat} (hx : Wh w b so m sc x) (hn : n = (words y).length) (hy : Rd w to_ (words y)) (hnil : to_ = none → tc = 0) (lx : m ≤ 50000) (ly : n ≤ 50000) :
    Calls Tryz.prog 44 #[.agg #[.bool b, .slice so m sc], .slice to_ n tc] w (AnsW w (x * y)) := by
  obtain ⟨W0, hW0⟩ : ∃ W0, (w.alloc (.cells #[.bool b, .slice so m sc] 53)).alloc (.cells #[.bool false, .slice none 0 0] 53) = W0 := ⟨_, rfl⟩
  have h1 : Below w.heap.size w (w.alloc (.cells #[.bool b, .slice so m sc] 53)) := (Below.refl _ _).alloc (Nat.le_refl _) _
  have h3 := h1.alloc (o := .cells #[.bool false, .slice none 0 0] 53) h1.size
  have t1 := (Two.new w (.bool b) (.slice so m sc) 53).alloc (.cells #[.bool false, .slice none 0 0] 53)
  have t3 := Two.new (w.alloc (.cells #[.bool b, .slice so m sc] 53)) (.bool false) (.slice none 0 0) 53
  have s1 : (w.alloc (.cells #[.bool b, .slice so m sc] 53)).heap.size = w.heap.size + 1 := by simp
  rw [s1] at t3
  rw [hW0] at h3 t1 t3
  have HNE : Hid (w.heap.size + 1 ≠ w.heap.size) := by show w.heap.size + 1 ≠ w.heap.size; omega
  have HB0 : Hid (Below w.heap.size w W0.drew) := h3.drew
  have HT1 : Hid _ := t1.drew
  have HT3 : Hid _ := t3.drew
  have HC1 : Hid _ := signed_any (n := y) (m := n) false tc hn (hy.below h3.drew) hnil
  have HX : Hid _ := hx.below h3.drew
  have HSG : Hid (sgn false y = (y : Int)) := rfl
  have hlen : (sgn false y).natAbs = y := sgn_abs false y
  have HLY : Hid ((words (sgn false y).natAbs).length ≤ 50000) := by rw [hlen, ← hn]; exact ly
  have HLX : Hid _ := lx
  have HS0 : Hid (∀ w', Two w' w.heap.size (.bool b) (.slice so m sc) → (w'.cell? ⟨w.heap.size, 0, none⟩ = some (.bool b) ∧ w'.cell? ⟨w.heap.size, 1, none⟩ = some (.slice so m sc))) := fun w' h1 => ⟨h1.c0, h1.c1⟩
  clear h1 h3 t1 t3 s1 hx hn hy hnil lx ly hlen
  go_enter Tryz.func44, Tryz.ntmps44
  go_wp2_with fail
  clear hW0
  have hS := HS0.out _ HT1.out
  go_region_held (fun w' => w'.cell? ⟨w.heap.size, 0, none⟩ = some (.bool b) ∧ w'.cell? ⟨w.heap.size, 1, none⟩ = some (.slice so m sc)) (first | assumption | go_keep) (first
    | (go_at_call 95; refine Calls.mono HC1.out ?_; rintro e w5 ⟨b5', so5, m5, sc5, rfl, hw5, b5⟩; have HW5 : Hid _ := hw5; have HB5 : Hid _ := b5; have hS5 := HS0.out _ (HT1.out.below b5); have HT15 : Hid _ := HT1.out.below b5; have HT5 : Hid _ := HT3.out.below b5; clear hw5 b5)
    | (go_at_call 96; refine Calls.mono (times_any (HX.out.below HB5.out) HW5.out HLX.out (by rw [HW5.out.len]; exact HLY.out)) ?_; rintro e w6 ⟨bb, ro, mm, rc, rfl, hw6, b6⟩; have HW6 : Hid _ := hw6; have HB6 : Hid _ := b6; have hS6 := HS0.out _ (HT15.out.below b6); have hS7 := HS0.out _ (((HT15.out.below b6).far HNE.out 0 (.bool bb)).far HNE.out 1 (.slice ro mm rc)); have HT6 : Hid _ := HT5.out.below b6; obtain ⟨k0, k1, g0, g1⟩ := HT6.out; clear hw6 b6))
  all_goals
    have HFIN : Hid _ := fin2 (w := w) (g := w.heap.size + 1) (by omega) (chain2 (chain2 HB0.out HB5.out) HB6.out) HT6.out (.bool bb) (.slice ro mm rc)
    rw [HSG.out] at HW6
    clear HB5 HB6 HT5 HT6 HW5 HC1
    go_wp2
    try simp only [Exit.inBlock, Exit.then]
    refine bodyPost_ret (v := .agg #[.bool bb, .slice ro mm rc]) ?_ rfl ⟨_, _, _, _, rfl, HW6.out.carry HFIN.out.2, HFIN.out.1⟩
    rw [results_cell1 rfl]
    go_simp
end Go.Proofs.YthlkbnhbmfmchaaGreat
