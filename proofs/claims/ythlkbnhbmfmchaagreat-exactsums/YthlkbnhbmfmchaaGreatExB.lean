/- Walks of products, sums of whole numbers. -/
import Derived.Test.YthlkbnhbmfmchaaGreatExA
import Derived.Deep.RegionHeld
namespace Go.Proofs.YthlkbnhbmfmchaaGreat
open Go.RowKit
set_option linter.unusedVariables false
set_option linter.unusedSimpArgs false

set_option maxHeartbeats 4000000 in
set_option maxRecDepth 1000000 in
theorem times_any {w : World} {b c : Bool} {so to_ : Option Addr} {m n sc tc : Nat} {x y : Int} (hx : Wh w b so m sc x) (hy : Wh w c to_ n tc y) (lx : m ≤ 50000) (ly : n ≤ 50000) :
    Calls Tryz.prog 96 #[.agg #[.bool b, .slice so m sc], .agg #[.bool c, .slice to_ n tc]] w (AnsW w (x * y)) := by
  have HSG : Hid (sgn (!(b == c)) (x.natAbs * y.natAbs) = x * y) := by
    show sgn (!(b == c)) (x.natAbs * y.natAbs) = x * y
    rw [hx.neg, hy.neg]
    exact sgn_mul x y
  obtain ⟨W0, hW0⟩ : ∃ W0, ((w.alloc (.cells #[.bool b, .slice so m sc] 53)).alloc (.cells #[.bool c, .slice to_ n tc] 53)).alloc (.cells #[.bool false, .slice none 0 0] 53) = W0 := ⟨_, rfl⟩
  have h1 : Below w.heap.size w (w.alloc (.cells #[.bool b, .slice so m sc] 53)) := (Below.refl _ _).alloc (Nat.le_refl _) _
  have h2 := h1.alloc (o := .cells #[.bool c, .slice to_ n tc] 53) h1.size
  have h3 := h2.alloc (o := .cells #[.bool false, .slice none 0 0] 53) h2.size
  have t1 := ((Two.new w (.bool b) (.slice so m sc) 53).alloc (.cells #[.bool c, .slice to_ n tc] 53)).alloc (.cells #[.bool false, .slice none 0 0] 53)
  have t2 := (Two.new (w.alloc (.cells #[.bool b, .slice so m sc] 53)) (.bool c) (.slice to_ n tc) 53).alloc (.cells #[.bool false, .slice none 0 0] 53)
  have t3 := Two.new ((w.alloc (.cells #[.bool b, .slice so m sc] 53)).alloc (.cells #[.bool c, .slice to_ n tc] 53)) (.bool false) (.slice none 0 0) 53
  have s1 : (w.alloc (.cells #[.bool b, .slice so m sc] 53)).heap.size = w.heap.size + 1 := by simp
  have s2 : ((w.alloc (.cells #[.bool b, .slice so m sc] 53)).alloc (.cells #[.bool c, .slice to_ n tc] 53)).heap.size = w.heap.size + 1 + 1 := by simp
  rw [s1] at t2
  rw [s2] at t3
  rw [hW0] at h3 t1 t2 t3
  have HB0 : Hid (Below w.heap.size w W0.drew) := h3.drew
  have HT1 : Hid _ := t1.drew
  have HT2 : Hid _ := t2.drew
  have HT3 : Hid _ := t3.drew
  have c1 := product_any sc tc (hx.rd.below h3.drew) (hy.rd.below h3.drew) (by rw [← hx.len]; omega) (by rw [← hy.len]; omega)
  rw [← hx.len, ← hy.len] at c1
  have HC1 : Hid _ := c1
  clear h1 h2 h3 t1 t2 t3 s1 s2 hx hy c1 lx ly
  go_enter Tryz.func96, Tryz.ntmps96
  go_wp2_with fail
  clear hW0
  have HS0 : Hid (∀ w', Two w' w.heap.size (.bool b) (.slice so m sc) → Two w' (w.heap.size + 1) (.bool c) (.slice to_ n tc) → (w'.cell? ⟨w.heap.size, 0, none⟩ = some (.bool b) ∧ w'.cell? ⟨w.heap.size, 1, none⟩ = some (.slice so m sc) ∧ w'.cell? ⟨w.heap.size + 1, 0, none⟩ = some (.bool c) ∧ w'.cell? ⟨w.heap.size + 1, 1, none⟩ = some (.slice to_ n tc))) := fun w' h1 h2 => ⟨h1.c0, h1.c1, h2.c0, h2.c1⟩
  have hS := HS0.out _ HT1.out HT2.out
  have HNE : Hid (w.heap.size + 1 + 1 ≠ w.heap.size ∧ w.heap.size + 1 + 1 ≠ w.heap.size + 1) := ⟨by omega, by omega⟩
  go_region_held (fun w' => w'.cell? ⟨w.heap.size, 0, none⟩ = some (.bool b) ∧ w'.cell? ⟨w.heap.size, 1, none⟩ = some (.slice so m sc) ∧ w'.cell? ⟨w.heap.size + 1, 0, none⟩ = some (.bool c) ∧ w'.cell? ⟨w.heap.size + 1, 1, none⟩ = some (.slice to_ n tc)) (first | assumption | go_keep) (first
    | (go_at_call 87; refine Calls.mono HC1.out ?_; rintro e w5 ⟨po, pc, rfl, o5, b5⟩; have HO5 : Hid _ := o5; have HB5 : Hid _ := b5; have hS5 := HS0.out _ (HT1.out.below b5) (HT2.out.below b5); have HT15 : Hid _ := HT1.out.below b5; have HT25 : Hid _ := HT2.out.below b5; have HT5 : Hid _ := HT3.out.below b5; clear o5 b5)
    | (go_at_call 95; refine Calls.mono (signed_any (n := x.natAbs * y.natAbs) (m := (words (x.natAbs * y.natAbs)).length) (!(b == c)) pc rfl HO5.out.rd HO5.out.nocap) ?_; rintro e w6 ⟨bb, ro, mm, rc, rfl, hw6, b6⟩; have HW6 : Hid _ := hw6; have HB6 : Hid _ := b6; have hS6 := HS0.out _ (HT15.out.below b6) (HT25.out.below b6); have hS7 := HS0.out _ (((HT15.out.below b6).far HNE.out.1 0 (.bool bb)).far HNE.out.1 1 (.slice ro mm rc)) (((HT25.out.below b6).far HNE.out.2 0 (.bool bb)).far HNE.out.2 1 (.slice ro mm rc)); have HT6 : Hid _ := HT5.out.below b6; obtain ⟨k0, k1, g0, g1⟩ := HT6.out; clear hw6 b6))
  all_goals
    have HFIN : Hid _ := fin2 (w := w) (g := w.heap.size + 1 + 1) (by omega) (chain2 (chain2 HB0.out HB5.out) HB6.out) HT6.out (.bool bb) (.slice ro mm rc)
    rw [HSG.out] at HW6
    clear HB5 HB6 HT5 HT6 HO5 HT1 HT2 HT3 HC1
    go_wp2
    try simp only [Exit.inBlock, Exit.then]
    refine bodyPost_ret (v := .agg #[.bool bb, .slice ro mm rc]) ?_ rfl ⟨_, _, _, _, rfl, HW6.out.carry HFIN.out.2, HFIN.out.1⟩
    rw [results_cell1 rfl]
    go_simp
end Go.Proofs.YthlkbnhbmfmchaaGreat
