/- TrB TrC JcF Lj JcM TrU Tu TrV TrW -/
import Derived.Test.YtoopkbedjbnhhaaGreatDoorPimport15f
import Derived.Test.YtoopkbedjbnhhaaGreatDoorPimport15c
import Derived.Test.YtoopkbedjbnhhaaGreatDoorPimport15d
import Derived.Test.YtoopkbedjbnhhaaGreatDoorProg
import Derived.Lib.ConvBytes
set_option linter.unusedVariables false
set_option linter.unusedSimpArgs false
set_option maxHeartbeats 1000000
namespace Go.Proofs.YtoopkbedjbnhhaaGreatDoor.G
open Go.RowKit
set_option maxRecDepth 100000
def Tabs8 (w : World) : Prop := Lib.Utf8Tabs (Tryz.laysValid_ren.g 3) (Tryz.laysValid_ren.g 4) w
theorem Tabs8.below {w w' : World} (h : Tabs8 w) (hb : Below w.heap.size w w') : Tabs8 w' := Utf8Tabs_below h hb
theorem yy {w : World} {s : ByteArray} (hs : s.size ≤ 9223372036854775807) (hT : Tabs8 w) {b : Bool} (h : okS s = b) : Calls Tryz.prog 130 #[.string s] w fun e w' => e = .returned (bV b) ∧ Below w.heap.size w w' := h ▸ Any.utf8_ValidString Tryz.laysValid s w hs hT
theorem zgh {w : World} {r : Int} : Calls Tryz.prog 167 #[.int .i32 r] w fun e w' => e = .returned (bV (Lib.validRune r)) ∧ Below w.heap.size w w' := (Tryz.utf8_ValidRune r w).mono fun e w' ⟨h, e2⟩ => ⟨h, e2 ▸ Below.refl _ _⟩
theorem qtc {P : Program} {s d : TypeId} (hs : P.underlying s = some (.int .i64)) (hd : P.underlying d = some (.int .i32)) {n : Int} (h0 : 0 ≤ n) (h1 : n ≤ 1114111) : ∀ w, (convert s d (iV n)).run P w = .ok (.int .i32 n) w := fun w => by
 simp [go_sem, run_underlying hs, run_underlying hd, convert]
 exact in_i32 (by omega) (by omega)
theorem qyc {w : World} {n : Int} : Calls Tryz.prog 129 #[iV n] w fun e w' => e = .returned (bV (yn n)) ∧ Below w.heap.size w w' := by
 have M : Mg w w ([]) := Mg.start w
 refine qx (l := [(0, iV n)]) Tryz.func129 rfl Tryz.ntmps129 rfl rfl ?_
 intro Q hret hnorm hP a A
 refine wsk fun K1 hK1 => wrl (sda A λa A↦?_)
 refine qa (hK1 _ _ (wsk fun K2 hK2 => wrl (sdm A λa A↦?_)))
 rcases tf (decide (0 ≤ n)) with hb3 | hb3
 ·
  have hb3' := of_decide_eq_true hb3
  refine sdc A ju hb3 λa A↦?_
  iterate 2 refine sdm A λa A↦?_
  rcases tf (decide (n ≤ 1114111)) with hb4 | hb4
  ·
   have hb4' := of_decide_eq_true hb4
   refine sdc A vu hb4 λa A↦?_
   refine sdk (v := bV true) A λa A↦?_
   iterate 2 refine sdm A λa A↦?_
   refine sdo (v := .int .i32 n) A (zk rfl (qtc Tryz.underlying3 Tryz.underlying21 (by omega) (by omega))) λa A↦?_
   refine gcl A M (ef rfl rfl) (zgh) fun w5 hbv M a A => ?_
   refine sdo (v := bV (Lib.validRune n)) A (zm rfl rfl rfl rfl) λa A↦?_
   refine sda A λa A↦?_
   refine qa (hK2 _ _ (wr1 hret A ?_))
   exact ⟨by rw [show yn n = Lib.validRune n from by unfold yn; unfold Lib.validRune; exact decide_eq_decide.2 (by omega)], M.bel⟩
  ·
   have hb4' := of_decide_eq_false hb4
   refine sdc A vu hb4 λa A↦?_
   refine sdk (v := bV false) A λa A↦?_
   refine sdm A λa A↦?_
   iterate 3 refine qm A rfl rfl rfl λa A↦?_
   refine sdk (v := bV false) A λa A↦?_
   refine sda A λa A↦?_
   refine qa (hK2 _ _ (wr1 hret A ?_))
   exact ⟨by rw [show yn n = false from by unfold yn; apply decide_eq_false; omega], M.bel⟩
 ·
  have hb3' := of_decide_eq_false hb3
  refine sdc A ju hb3 λa A↦?_
  refine sdm A λa A↦?_
  iterate 2 refine qm A rfl rfl rfl λa A↦?_
  refine sdk (v := bV false) A λa A↦?_
  refine sdm A λa A↦?_
  iterate 3 refine qm A rfl rfl rfl λa A↦?_
  refine sdk (v := bV false) A λa A↦?_
  refine sda A λa A↦?_
  refine qa (hK2 _ _ (wr1 hret A ?_))
  exact ⟨by rw [show yn n = false from by unfold yn; apply decide_eq_false; omega], M.bel⟩
theorem qld {m1 m2 : Nat} (h1 : m1 ≤ 9223372036854775807) (h2 : m2 ≤ 9223372036854775807) : (IntKind.i64.wrap (((m1 : Nat) : Int) + ((m2 : Nat) : Int)) == 0) = (decide (m1 = 0) && decide (m2 = 0)) := by
 rw [IntKind.wrap_i64]
 by_cases a1 : m1 = 0
 ·
  subst a1
  by_cases a2 : m2 = 0
  ·
   subst a2; rfl
  ·
   simp [a2]; omega
 ·
  simp [a1]; omega
theorem yw {w : World} {b : Bool} {o1 o2 : Option Addr} {m1 m2 c1 c2 : Nat} (h1 : m1 ≤ 9223372036854775807) (h2 : m2 ≤ 9223372036854775807) {r : Bool} (hr : ku b m1 m2 = r) : Calls Tryz.prog 169 #[.agg #[bV b, .slice o1 m1 c1, .slice o2 m2 c2]] w fun e w' => e = .returned (bV r) ∧ Below w.heap.size w w' := by
 have M : Mg w w ([]) := Mg.start w
 refine qx (l := [(0, .agg #[bV b, .slice o1 m1 c1, .slice o2 m2 c2])]) Tryz.func169 rfl Tryz.ntmps169 rfl rfl ?_
 intro Q hret hnorm hP a A
 refine wsk fun K1 hK1 => wrl (jl (vs := [bV b, .slice o1 m1 c1, .slice o2 m2 c2]) (t := 24) A M rfl rfl rfl pg (zd rfl rfl) (by decide) ?_)
 intro g2 w3 M a A
 refine sda A λa A↦?_
 refine qa (hK1 _ _ (wsk fun K4 hK4 => wrl (sdo (v := pA g2 0) A (qf zkb rfl rfl) λa A↦?_)))
 refine sdo A (zi M o94 rfl 0 rfl rfl) λa A↦?_
 rcases b with _ | _
 ·
  refine sdo (v := bV true) A (ql rfl qp) λa A↦?_
  refine sdm A λa A↦?_
  refine sdo (v := pA g2 1) A (qf zkc rfl rfl) λa A↦?_
  refine sdo A (zi M zoj rfl 0 rfl rfl) λa A↦?_
  refine sdo A (qy Tryz.underlying22 rfl) λa A↦?_
  rcases tf ((((m1 : Nat) : Int) == 0)) with hb5 | hb5
  ·
   have hb5' := eq_of_beq hb5
   refine sdc A qt hb5 λa A↦?_
   refine sdk (v := bV true) A λa A↦?_
   refine sdm A λa A↦?_
   refine sdo (v := pA g2 2) A (qf zkd rfl rfl) λa A↦?_
   refine sdo A (zi M zoj rfl 0 rfl rfl) λa A↦?_
   refine sdo A (qy Tryz.underlying22 rfl) λa A↦?_
   rcases tf ((((m2 : Nat) : Int) == 0)) with hb6 | hb6
   ·
    have hb6' := eq_of_beq hb6
    refine sdc A qt hb6 λa A↦?_
    refine sdk (v := bV true) A λa A↦?_
    refine sda A λa A↦?_
    refine qa (hK4 _ _ (wr1 hret A ?_))
    subst hr
    exact ⟨by unfold ku; simp_all; try omega, M.bel⟩
   ·
    have hb6' := ne_of_beq_false hb6
    refine sdc A qt hb6 λa A↦?_
    refine sdk (v := bV false) A λa A↦?_
    refine sda A λa A↦?_
    refine qa (hK4 _ _ (wr1 hret A ?_))
    subst hr
    exact ⟨by unfold ku; simp_all; try omega, M.bel⟩
  ·
   have hb5' := ne_of_beq_false hb5
   refine sdc A qt hb5 λa A↦?_
   refine sdk (v := bV false) A λa A↦?_
   refine sdm A λa A↦?_
   iterate 4 refine qm A rfl rfl rfl λa A↦?_
   refine sdk (v := bV false) A λa A↦?_
   refine sda A λa A↦?_
   refine qa (hK4 _ _ (wr1 hret A ?_))
   subst hr
   exact ⟨by unfold ku; simp_all; try omega, M.bel⟩
 ·
  refine sdo (v := bV false) A (ql rfl qp) λa A↦?_
  refine sdm A λa A↦?_
  iterate 4 refine qm A rfl rfl rfl λa A↦?_
  refine sdk (v := bV false) A λa A↦?_
  refine sdm A λa A↦?_
  iterate 4 refine qm A rfl rfl rfl λa A↦?_
  refine sdk (v := bV false) A λa A↦?_
  refine sda A λa A↦?_
  refine qa (hK4 _ _ (wr1 hret A ?_))
  subst hr
  exact ⟨by unfold ku; simp_all; try omega, M.bel⟩
theorem qcb {w : World} {b : Bool} {o1 o2 : Option Addr} {m1 m2 c1 c2 : Nat} (h1 : m1 ≤ 9223372036854775807) (h2 : m2 ≤ 9223372036854775807) {r : Bool} (hr : ku b m1 m2 = r) : Calls Tryz.prog 136 #[.agg #[bV b, .slice o1 m1 c1, .slice o2 m2 c2]] w fun e w' => e = .returned (bV r) ∧ Below w.heap.size w w' := by
 have M : Mg w w ([]) := Mg.start w
 refine qx (l := [(0, .agg #[bV b, .slice o1 m1 c1, .slice o2 m2 c2])]) Tryz.func136 rfl Tryz.ntmps136 rfl rfl ?_
 intro Q hret hnorm hP a A
 refine wsk fun K1 hK1 => wrl (jl (vs := [bV b, .slice o1 m1 c1, .slice o2 m2 c2]) (t := 24) A M rfl rfl rfl pg (zd rfl rfl) (by decide) ?_)
 intro g2 w3 M a A
 refine sda A λa A↦?_
 refine qa (hK1 _ _ (wsk fun K4 hK4 => wrl (sdo (v := pA g2 0) A (qf zkb rfl rfl) λa A↦?_)))
 refine sdo A (zi M o94 rfl 0 rfl rfl) λa A↦?_
 rcases b with _ | _
 ·
  refine sdo (v := bV true) A (ql rfl qp) λa A↦?_
  refine sdm A λa A↦?_
  refine sdo (v := pA g2 1) A (qf zkc rfl rfl) λa A↦?_
  refine sdo A (zi M zoj rfl 0 rfl rfl) λa A↦?_
  refine sdo A (qy Tryz.underlying22 rfl) λa A↦?_
  refine sdo (v := pA g2 2) A (qf zkd rfl rfl) λa A↦?_
  refine sdo A (zi M zoj rfl 0 rfl rfl) λa A↦?_
  refine sdo A (qy Tryz.underlying22 rfl) λa A↦?_
  refine sdo (v := iV (IntKind.i64.wrap (((m1 : Nat) : Int) + ((m2 : Nat) : Int)))) A (qh rfl rfl (ar_add rfl)) λa A↦?_
  rcases tf ((IntKind.i64.wrap (((m1 : Nat) : Int) + ((m2 : Nat) : Int)) == 0)) with hb5 | hb5
  ·
   have hb5' := eq_of_beq hb5
   refine sdc A qt hb5 λa A↦?_
   refine sdk (v := bV true) A λa A↦?_
   refine sda A λa A↦?_
   refine qa (hK4 _ _ (wr1 hret A ?_))
   subst hr
   have e9 := qld h1 h2
   try rw [e9] at hb5
   exact ⟨by unfold ku; simp_all; try omega, M.bel⟩
  ·
   have hb5' := ne_of_beq_false hb5
   refine sdc A qt hb5 λa A↦?_
   refine sdk (v := bV false) A λa A↦?_
   refine sda A λa A↦?_
   refine qa (hK4 _ _ (wr1 hret A ?_))
   subst hr
   have e9 := qld h1 h2
   try rw [e9] at hb5
   exact ⟨by unfold ku; simp_all; try omega, M.bel⟩
 ·
  refine sdo (v := bV false) A (ql rfl qp) λa A↦?_
  refine sdm A λa A↦?_
  iterate 8 refine qm A rfl rfl rfl λa A↦?_
  refine sdk (v := bV false) A λa A↦?_
  refine sda A λa A↦?_
  refine qa (hK4 _ _ (wr1 hret A ?_))
  subst hr
  have e9 := qld h1 h2
  exact ⟨by unfold ku; simp_all; try omega, M.bel⟩
theorem zki {w : World} {k n : Int} {b1 b2 : Bool} {o1 o2 o3 o4 ro lo : Option Addr} {m1 m2 m3 m4 mr ml c1 c2 c3 c4 rc lc : Nat} {s : ByteArray} (h1 : m1 ≤ 9223372036854775807) (h2 : m2 ≤ 9223372036854775807) (h3 : m3 ≤ 9223372036854775807) (h4 : m4 ≤ 9223372036854775807) {r : Bool} (hr : vw n b1 m1 m2 b2 m3 m4 s mr ml = r) : Calls Tryz.prog 131 #[.agg #[iV k, iV n, bV b1, .slice o1 m1 c1, .slice o2 m2 c2, bV b2, .slice o3 m3 c3, .slice o4 m4 c4, .string s, .slice ro mr rc, .slice lo ml lc]] w fun e w' => e = .returned (bV r) ∧ Below w.heap.size w w' := by
 have M : Mg w w ([]) := Mg.start w
 refine qx (l := [(0, .agg #[iV k, iV n, bV b1, .slice o1 m1 c1, .slice o2 m2 c2, bV b2, .slice o3 m3 c3, .slice o4 m4 c4, .string s, .slice ro mr rc, .slice lo ml lc])]) Tryz.func131 rfl Tryz.ntmps131 rfl rfl ?_
 intro Q hret hnorm hP a A
 refine wsk fun K1 hK1 => wrl (jl (vs := [iV k, iV n, bV b1, .slice o1 m1 c1, .slice o2 m2 c2, bV b2, .slice o3 m3 c3, .slice o4 m4 c4, .string s, .slice ro mr rc, .slice lo ml lc]) (t := 30) A M rfl rfl rfl pg (zd rfl rfl) (by decide) ?_)
 intro g2 w3 M a A
 refine sda A λa A↦?_
 refine qa (hK1 _ _ (wsk fun K4 hK4 => wrl (sdo (v := pA g2 1) A (qf ye rfl rfl) λa A↦?_)))
 refine sdo A (zi M o93 rfl 0 rfl rfl) λa A↦?_
 rcases tf ((n == 0)) with hb5 | hb5
 ·
  have hb5' := eq_of_beq hb5
  refine sdc A qt hb5 λa A↦?_
  refine sdm A λa A↦?_
  refine sdo (v := pA g2 2) A (qf qab rfl rfl) λa A↦?_
  refine sdo (v := pA g2 2) A (qf zke rfl rfl) λa A↦?_
  refine sdo A (zy M zpa rfl 0 rfl (cs := [bV b1, .slice o1 m1 c1, .slice o2 m2 c2]) rfl rfl) λa A↦?_
  rcases tf (ku b1 m1 m2) with hb6 | hb6
  ·
   refine gcl A M (ef rfl rfl) (yw h1 h2 hb6) fun w8 hb7 M a A => ?_
   refine sdk (v := bV true) A λa A↦?_
   refine sdm A λa A↦?_
   refine sdo (v := pA g2 2) A (qf qab rfl rfl) λa A↦?_
   refine sdo (v := pA g2 5) A (qf zkf rfl rfl) λa A↦?_
   refine sdo A (zy M zpa rfl 0 rfl (cs := [bV b2, .slice o3 m3 c3, .slice o4 m4 c4]) rfl rfl) λa A↦?_
   rcases tf (ku b2 m3 m4) with hb9 | hb9
   ·
    refine gcl A M (ef rfl rfl) (yw h3 h4 hb9) fun w11 hb10 M a A => ?_
    refine sdk (v := bV true) A λa A↦?_
    refine sdm A λa A↦?_
    refine sdo (v := pA g2 8) A (qf ki rfl rfl) λa A↦?_
    refine sdo A (zi M o99 rfl 0 rfl rfl) λa A↦?_
    rcases tf (decide (s = ⟨#[]⟩)) with hb12 | hb12
    ·
     have hb12' := of_decide_eq_true hb12
     refine sdo (v := bV true) A (qh rfl rfl (fun w => (zn Tryz.underlying9 w).trans (by rw [hb12] <;> rfl))) λa A↦?_
     refine sdk (v := bV true) A λa A↦?_
     refine sdm A λa A↦?_
     refine sdo (v := pA g2 9) A (qf zca rfl rfl) λa A↦?_
     refine sdo A (zi M ztg rfl 0 rfl rfl) λa A↦?_
     refine sdo A (qy Tryz.underlying27 rfl) λa A↦?_
     rcases tf ((((mr : Nat) : Int) == 0)) with hb13 | hb13
     ·
      have hb13' := eq_of_beq hb13
      refine sdc A qt hb13 λa A↦?_
      refine sdk (v := bV true) A λa A↦?_
      refine sdm A λa A↦?_
      refine sdo (v := pA g2 10) A (qf vt rfl rfl) λa A↦?_
      refine sdo A (zi M qdi rfl 0 rfl rfl) λa A↦?_
      refine sdo A (qy Tryz.underlying28 rfl) λa A↦?_
      rcases tf ((((ml : Nat) : Int) == 0)) with hb14 | hb14
      ·
       have hb14' := eq_of_beq hb14
       refine sdc A qt hb14 λa A↦?_
       refine sdk (v := bV true) A λa A↦?_
       refine sda A λa A↦?_
       refine qa (hK4 _ _ (wr1 hret A ?_))
       subst hr
       exact ⟨by unfold vw; simp_all, M.bel⟩
      ·
       have hb14' := ne_of_beq_false hb14
       refine sdc A qt hb14 λa A↦?_
       refine sdk (v := bV false) A λa A↦?_
       refine sda A λa A↦?_
       refine qa (hK4 _ _ (wr1 hret A ?_))
       subst hr
       exact ⟨by unfold vw; simp_all, M.bel⟩
     ·
      have hb13' := ne_of_beq_false hb13
      refine sdc A qt hb13 λa A↦?_
      refine sdk (v := bV false) A λa A↦?_
      refine sdm A λa A↦?_
      iterate 4 refine qm A rfl rfl rfl λa A↦?_
      refine sdk (v := bV false) A λa A↦?_
      refine sda A λa A↦?_
      refine qa (hK4 _ _ (wr1 hret A ?_))
      subst hr
      exact ⟨by unfold vw; simp_all, M.bel⟩
    ·
     have hb12' := of_decide_eq_false hb12
     refine sdo (v := bV false) A (qh rfl rfl (fun w => (zn Tryz.underlying9 w).trans (by rw [hb12] <;> rfl))) λa A↦?_
     refine sdk (v := bV false) A λa A↦?_
     refine sdm A λa A↦?_
     iterate 4 refine qm A rfl rfl rfl λa A↦?_
     refine sdk (v := bV false) A λa A↦?_
     refine sdm A λa A↦?_
     iterate 4 refine qm A rfl rfl rfl λa A↦?_
     refine sdk (v := bV false) A λa A↦?_
     refine sda A λa A↦?_
     refine qa (hK4 _ _ (wr1 hret A ?_))
     subst hr
     exact ⟨by unfold vw; simp_all, M.bel⟩
   ·
    refine gcl A M (ef rfl rfl) (yw h3 h4 hb9) fun w16 hb15 M a A => ?_
    refine sdk (v := bV false) A λa A↦?_
    refine sdm A λa A↦?_
    iterate 3 refine qm A rfl rfl rfl λa A↦?_
    refine sdk (v := bV false) A λa A↦?_
    refine sdm A λa A↦?_
    iterate 4 refine qm A rfl rfl rfl λa A↦?_
    refine sdk (v := bV false) A λa A↦?_
    refine sdm A λa A↦?_
    iterate 4 refine qm A rfl rfl rfl λa A↦?_
    refine sdk (v := bV false) A λa A↦?_
    refine sda A λa A↦?_
    refine qa (hK4 _ _ (wr1 hret A ?_))
    subst hr
    exact ⟨by unfold vw; simp_all, M.bel⟩
  ·
   refine gcl A M (ef rfl rfl) (yw h1 h2 hb6) fun w18 hb17 M a A => ?_
   refine sdk (v := bV false) A λa A↦?_
   refine sdm A λa A↦?_
   iterate 4 refine qm A rfl rfl rfl λa A↦?_
   refine sdk (v := bV false) A λa A↦?_
   refine sdm A λa A↦?_
   iterate 3 refine qm A rfl rfl rfl λa A↦?_
   refine sdk (v := bV false) A λa A↦?_
   refine sdm A λa A↦?_
   iterate 4 refine qm A rfl rfl rfl λa A↦?_
   refine sdk (v := bV false) A λa A↦?_
   refine sdm A λa A↦?_
   iterate 4 refine qm A rfl rfl rfl λa A↦?_
   refine sdk (v := bV false) A λa A↦?_
   refine sda A λa A↦?_
   refine qa (hK4 _ _ (wr1 hret A ?_))
   subst hr
   exact ⟨by unfold vw; simp_all, M.bel⟩
 ·
  have hb5' := ne_of_beq_false hb5
  refine sdc A qt hb5 λa A↦?_
  refine sdm A λa A↦?_
  iterate 4 refine qm A rfl rfl rfl λa A↦?_
  refine sdk (v := bV false) A λa A↦?_
  refine sdm A λa A↦?_
  iterate 4 refine qm A rfl rfl rfl λa A↦?_
  refine sdk (v := bV false) A λa A↦?_
  refine sdm A λa A↦?_
  iterate 3 refine qm A rfl rfl rfl λa A↦?_
  refine sdk (v := bV false) A λa A↦?_
  refine sdm A λa A↦?_
  iterate 4 refine qm A rfl rfl rfl λa A↦?_
  refine sdk (v := bV false) A λa A↦?_
  refine sdm A λa A↦?_
  iterate 4 refine qm A rfl rfl rfl λa A↦?_
  refine sdk (v := bV false) A λa A↦?_
  refine sda A λa A↦?_
  refine qa (hK4 _ _ (wr1 hret A ?_))
  subst hr
  exact ⟨by unfold vw; simp_all, M.bel⟩
theorem qle {w : World} {d : Nd} {ts : List Dt} (hok : NdOk w d) (hT : Tabs8 w) : Calls Tryz.prog 82 #[.agg (d.cells ts.length).toArray] w fun e w' => e = .returned (bV (jw d.k d.n d.y.q d.s d.rl.length ts.length)) ∧ Below w.heap.size w w' := by
 have hq1 := hok.len.l1
 have hq2 := hok.len.l2
 have hq3 := hok.len.l3
 have hq4 := hok.len.l4
 have M : Mg w w ([]) := Mg.start w
 refine qx (l := [(0, .agg (d.cells ts.length).toArray)]) Tryz.func82 rfl Tryz.ntmps82 rfl rfl ?_
 intro Q hret hnorm hP a A
 refine wsk fun K1 hK1 => wrl (jl (vs := [iV d.k, iV d.n, bV d.y.q.b1, .slice d.y.o1 d.y.q.t1.length d.y.c1, .slice d.y.o2 d.y.q.q1.length d.y.c2, bV d.y.q.b2, .slice d.y.o3 d.y.q.t2.length d.y.c3, .slice d.y.o4 d.y.q.q2.length d.y.c4, .string d.s, .slice d.ro d.rl.length d.rc, .slice d.lo ts.length d.lc]) (t := 30) A M rfl rfl rfl pg (zd rfl rfl) (by decide) ?_)
 intro g2 w3 M a A
 refine sda A λa A↦?_
 refine qa (hK1 _ _ (wsk fun K4 hK4 => wrl (sda A λa A↦?_)))
 refine qa (hK4 _ _ (wsk fun K5 hK5 => ?_))
 have hJ6 : ∀ a w1, (∃ (ok : Bool) (z1 : Int) (z2 : Bool) (y1 : Option Addr) (m1 : Nat) (e1 : Nat) (y2 : Option Addr) (m2 : Nat) (e2 : Nat) (z3 : Bool) (y3 : Option Addr) (m3 : Nat) (e3 : Nat) (y4 : Option Addr) (m4 : Nat) (e4 : Nat) (zs : ByteArray) (yr : Option Addr) (mr : Nat) (er : Nat) (yl : Option Addr) (ml : Nat) (el : Nat), (jw d.k d.n d.y.q d.s d.rl.length ts.length = (ok && vw z1 z2 m1 m2 z3 m3 m4 zs mr ml) ∧ m1 ≤ 9223372036854775807 ∧ m2 ≤ 9223372036854775807 ∧ m3 ≤ 9223372036854775807 ∧ m4 ≤ 9223372036854775807) ∧ Sl a 59 [(0, .agg (d.cells ts.length).toArray), (1, pA g2 0), (2, bV false), (3, bV ok)] ∧ Mg w w1 (.obj g2 (.cells #[iV d.k, iV z1, bV z2, .slice y1 m1 e1, .slice y2 m2 e2, bV z3, .slice y3 m3 e3, .slice y4 m4 e4, .string zs, .slice yr mr er, .slice yl ml el] 30) :: [])) → K5 a w1 := by
  clear A M
  rintro a w7 ⟨ok, z1, z2, y1, m1, e1, y2, m2, e2, z3, y3, m3, e3, y4, m4, e4, zs, yr, mr, er, yl, ml, el, hf8, A, M⟩
  obtain ⟨hsh, hq1, hq2, hq3, hq4⟩ := hf8
  refine hK5 _ _ (wsk fun K9 hK9 => wrl ?_)
  iterate 2 refine sdm A λa A↦?_
  rcases ok with _ | _
  ·
   iterate 2 refine qm A rfl rfl rfl λa A↦?_
   refine sdk (v := bV false) A λa A↦?_
   refine sda A λa A↦?_
   refine qa (hK9 _ _ (wr1 hret A ?_))
   exact ⟨by rw [hsh]; rfl, M.bel⟩
  ·
   refine sdo A (zy M xi rfl 0 rfl (cs := [iV d.k, iV z1, bV z2, .slice y1 m1 e1, .slice y2 m2 e2, bV z3, .slice y3 m3 e3, .slice y4 m4 e4, .string zs, .slice yr mr er, .slice yl ml el]) rfl rfl) λa A↦?_
   refine gcl A M (ef rfl rfl) (zki (by first | exact hq1 | omega) (by first | exact hq2 | omega) (by first | exact hq3 | omega) (by first | exact hq4 | omega) rfl) fun w11 hb10 M a A => ?_
   refine sdo (v := bV (vw z1 z2 m1 m2 z3 m3 m4 zs mr ml)) A (zm rfl rfl rfl rfl) λa A↦?_
   refine sda A λa A↦?_
   refine qa (hK9 _ _ (wr1 hret A ?_))
   exact ⟨by rw [hsh]; rfl, M.bel⟩
 refine wsk fun K12 hK12 => wrl (sdo (v := pA g2 0) A (qf vm rfl rfl) λa A↦?_)
 refine sdo A (zi M o93 rfl 0 rfl rfl) λa A↦?_
 refine qa (hK12 _ _ (wp_block (wsk fun K13 hK13 => wsk fun K14 hK14 => wrl ?_)))
 rcases tf ((d.k == 1)) with hb15 | hb15
 ·
  have hb15' := eq_of_beq hb15
  refine sdc A qt hb15 λa A↦?_
  refine sda A λa A↦?_
  refine qa (hK14 _ _ (ct A ?_))
  refine wp_skip (hK13 _ _ (ct A ?_))
  refine wp_skip ?_
  exact hJ6 _ _ ⟨true, d.n, d.y.q.b1, d.y.o1, d.y.q.t1.length, d.y.c1, d.y.o2, d.y.q.q1.length, d.y.c2, d.y.q.b2, d.y.o3, d.y.q.t2.length, d.y.c3, d.y.o4, d.y.q.q2.length, d.y.c4, d.s, d.ro, d.rl.length, d.rc, d.lo, ts.length, d.lc, ⟨by
   unfold jw
   repeat (first | rw [if_pos (by omega)] | rw [if_neg (by omega)])
   first | rfl, by first | exact hq1 | decide, by first | exact hq2 | decide, by first | exact hq3 | decide, by first | exact hq4 | decide⟩, A.keep _ ⟨rfl, rfl, rfl, rfl, trivial⟩, M⟩
 ·
  have hb15' := ne_of_beq_false hb15
  refine sdc A qt hb15 λa A↦?_
  refine sda A λa A↦?_
  refine qa (hK14 _ _ (cf A ?_))
  refine wrl ?_
  rcases tf ((d.k == 10)) with hb16 | hb16
  ·
   have hb16' := eq_of_beq hb16
   refine sdc A qt hb16 λa A↦?_
   refine sda A λa A↦?_
   refine qa (hK13 _ _ (ct A ?_))
   refine wp_skip ?_
   exact hJ6 _ _ ⟨true, d.n, d.y.q.b1, d.y.o1, d.y.q.t1.length, d.y.c1, d.y.o2, d.y.q.q1.length, d.y.c2, d.y.q.b2, d.y.o3, d.y.q.t2.length, d.y.c3, d.y.o4, d.y.q.q2.length, d.y.c4, d.s, d.ro, d.rl.length, d.rc, d.lo, ts.length, d.lc, ⟨by
    unfold jw
    repeat (first | rw [if_pos (by omega)] | rw [if_neg (by omega)])
    first | rfl, by first | exact hq1 | decide, by first | exact hq2 | decide, by first | exact hq3 | decide, by first | exact hq4 | decide⟩, A.keep _ ⟨rfl, rfl, rfl, rfl, trivial⟩, M⟩
  ·
   have hb16' := ne_of_beq_false hb16
   refine sdc A qt hb16 λa A↦?_
   refine sda A λa A↦?_
   refine qa (hK13 _ _ (cf A ?_))
   refine wsk fun K17 hK17 => wrl ?_
   rcases tf ((d.k == 2)) with hb18 | hb18
   ·
    have hb18' := eq_of_beq hb18
    refine sdc A qt hb18 λa A↦?_
    refine sda A λa A↦?_
    refine qa (hK17 _ _ (ct A ?_))
    refine wrl (sdo (v := pA g2 1) A (qf ye rfl rfl) λa A↦?_)
    refine sdo A (zi M o93 rfl 0 rfl rfl) λa A↦?_
    rcases tf ((d.n == 0)) with hb19 | hb19
    ·
     have hb19' := eq_of_beq hb19
     refine sdc A qt hb19 λa A↦?_
     refine sdm A λa A↦?_
     iterate 3 refine qm A rfl rfl rfl λa A↦?_
     refine sdk (v := bV true) A λa A↦?_
     refine sda A λa A↦?_
     refine sdo (v := pA g2 1) A (qf ye rfl rfl) λa A↦?_
     refine ja (L' := (.obj g2 (.cells #[iV d.k, iV 0, bV d.y.q.b1, .slice d.y.o1 d.y.q.t1.length d.y.c1, .slice d.y.o2 d.y.q.q1.length d.y.c2, bV d.y.q.b2, .slice d.y.o3 d.y.q.t2.length d.y.c3, .slice d.y.o4 d.y.q.q2.length d.y.c4, .string d.s, .slice d.ro d.rl.length d.rc, .slice d.lo ts.length d.lc] 30) :: [])) A M rfl rfl (zq rfl rfl rfl (by kernel_rfl) M 0 rfl rfl rfl) 0 rfl rfl rfl ?_
     intro w20 M
     refine qa ?_
     exact hJ6 _ _ ⟨true, 0, d.y.q.b1, d.y.o1, d.y.q.t1.length, d.y.c1, d.y.o2, d.y.q.q1.length, d.y.c2, d.y.q.b2, d.y.o3, d.y.q.t2.length, d.y.c3, d.y.o4, d.y.q.q2.length, d.y.c4, d.s, d.ro, d.rl.length, d.rc, d.lo, ts.length, d.lc, ⟨by
      unfold jw
      repeat (first | rw [if_pos (by omega)] | rw [if_neg (by omega)])
      first | rfl | (rw [decide_eq_true (show (d.n = 0 ∨ d.n = 1) by omega)]), by first | exact hq1 | decide, by first | exact hq2 | decide, by first | exact hq3 | decide, by first | exact hq4 | decide⟩, A.keep _ ⟨rfl, rfl, rfl, rfl, trivial⟩, M⟩
    ·
     have hb19' := ne_of_beq_false hb19
     refine sdc A qt hb19 λa A↦?_
     refine sdm A λa A↦?_
     refine sdo (v := pA g2 1) A (qf ye rfl rfl) λa A↦?_
     refine sdo A (zi M o93 rfl 0 rfl rfl) λa A↦?_
     rcases tf ((d.n == 1)) with hb21 | hb21
     ·
      have hb21' := eq_of_beq hb21
      refine sdc A qt hb21 λa A↦?_
      refine sdk (v := bV true) A λa A↦?_
      refine sda A λa A↦?_
      refine sdo (v := pA g2 1) A (qf ye rfl rfl) λa A↦?_
      refine ja (L' := (.obj g2 (.cells #[iV d.k, iV 0, bV d.y.q.b1, .slice d.y.o1 d.y.q.t1.length d.y.c1, .slice d.y.o2 d.y.q.q1.length d.y.c2, bV d.y.q.b2, .slice d.y.o3 d.y.q.t2.length d.y.c3, .slice d.y.o4 d.y.q.q2.length d.y.c4, .string d.s, .slice d.ro d.rl.length d.rc, .slice d.lo ts.length d.lc] 30) :: [])) A M rfl rfl (zq rfl rfl rfl (by kernel_rfl) M 0 rfl rfl rfl) 0 rfl rfl rfl ?_
      intro w22 M
      refine qa ?_
      exact hJ6 _ _ ⟨true, 0, d.y.q.b1, d.y.o1, d.y.q.t1.length, d.y.c1, d.y.o2, d.y.q.q1.length, d.y.c2, d.y.q.b2, d.y.o3, d.y.q.t2.length, d.y.c3, d.y.o4, d.y.q.q2.length, d.y.c4, d.s, d.ro, d.rl.length, d.rc, d.lo, ts.length, d.lc, ⟨by
       unfold jw
       repeat (first | rw [if_pos (by omega)] | rw [if_neg (by omega)])
       first | rfl | (rw [decide_eq_true (show (d.n = 0 ∨ d.n = 1) by omega)]), by first | exact hq1 | decide, by first | exact hq2 | decide, by first | exact hq3 | decide, by first | exact hq4 | decide⟩, A.keep _ ⟨rfl, rfl, rfl, rfl, trivial⟩, M⟩
     ·
      have hb21' := ne_of_beq_false hb21
      refine sdc A qt hb21 λa A↦?_
      refine sdk (v := bV false) A λa A↦?_
      refine sda A λa A↦?_
      refine sdo (v := pA g2 1) A (qf ye rfl rfl) λa A↦?_
      refine ja (L' := (.obj g2 (.cells #[iV d.k, iV 0, bV d.y.q.b1, .slice d.y.o1 d.y.q.t1.length d.y.c1, .slice d.y.o2 d.y.q.q1.length d.y.c2, bV d.y.q.b2, .slice d.y.o3 d.y.q.t2.length d.y.c3, .slice d.y.o4 d.y.q.q2.length d.y.c4, .string d.s, .slice d.ro d.rl.length d.rc, .slice d.lo ts.length d.lc] 30) :: [])) A M rfl rfl (zq rfl rfl rfl (by kernel_rfl) M 0 rfl rfl rfl) 0 rfl rfl rfl ?_
      intro w23 M
      refine qa ?_
      exact hJ6 _ _ ⟨false, 0, d.y.q.b1, d.y.o1, d.y.q.t1.length, d.y.c1, d.y.o2, d.y.q.q1.length, d.y.c2, d.y.q.b2, d.y.o3, d.y.q.t2.length, d.y.c3, d.y.o4, d.y.q.q2.length, d.y.c4, d.s, d.ro, d.rl.length, d.rc, d.lo, ts.length, d.lc, ⟨by
       unfold jw
       repeat (first | rw [if_pos (by omega)] | rw [if_neg (by omega)])
       first | rfl | (rw [decide_eq_false (show ¬ (d.n = 0 ∨ d.n = 1) by omega)]), by first | exact hq1 | decide, by first | exact hq2 | decide, by first | exact hq3 | decide, by first | exact hq4 | decide⟩, A.keep _ ⟨rfl, rfl, rfl, rfl, trivial⟩, M⟩
   ·
    have hb18' := ne_of_beq_false hb18
    refine sdc A qt hb18 λa A↦?_
    refine sda A λa A↦?_
    refine qa (hK17 _ _ (cf A ?_))
    refine wsk fun K24 hK24 => wrl ?_
    rcases tf ((d.k == 3)) with hb25 | hb25
    ·
     have hb25' := eq_of_beq hb25
     refine sdc A qt hb25 λa A↦?_
     refine sda A λa A↦?_
     refine qa (hK24 _ _ (ct A ?_))
     refine wrl (sdo (v := pA g2 2) A (qf qab rfl rfl) λa A↦?_)
     refine sdo A (zy M zrj rfl 0 rfl (cs := [bV d.y.q.b1, .slice d.y.o1 d.y.q.t1.length d.y.c1, .slice d.y.o2 d.y.q.q1.length d.y.c2, bV d.y.q.b2, .slice d.y.o3 d.y.q.t2.length d.y.c3, .slice d.y.o4 d.y.q.q2.length d.y.c4]) rfl rfl) λa A↦?_
     rcases tf (jp d.y.q) with hb26 | hb26
     ·
      refine gcl A M (ef rfl rfl) (vk (Nu.below hok.num M.bel) hok.len hb26) fun w28 hb27 M a A => ?_
      refine sdo (v := .agg #[bV false, .slice none 0 0, .slice none 0 0, bV false, .slice none 0 0, .slice none 0 0]) A (xr rfl (fun w => by kernel_rfl)) λa A↦?_
      refine sda A λa A↦?_
      refine sdo (v := pA g2 2) A (qf qab rfl rfl) λa A↦?_
      refine ja (L' := (.obj g2 (.cells #[iV d.k, iV d.n, bV false, .slice none 0 0, .slice none 0 0, bV false, .slice none 0 0, .slice none 0 0, .string d.s, .slice d.ro d.rl.length d.rc, .slice d.lo ts.length d.lc] 30) :: [])) A M rfl rfl (zq rfl rfl rfl (by kernel_rfl) M 0 rfl rfl rfl) 0 rfl rfl rfl ?_
      intro w29 M
      refine qa ?_
      exact hJ6 _ _ ⟨true, d.n, false, none, 0, 0, none, 0, 0, false, none, 0, 0, none, 0, 0, d.s, d.ro, d.rl.length, d.rc, d.lo, ts.length, d.lc, ⟨by
       unfold jw
       repeat (first | rw [if_pos (by omega)] | rw [if_neg (by omega)])
       first | rfl | rw [hb26], by first | exact hq1 | decide, by first | exact hq2 | decide, by first | exact hq3 | decide, by first | exact hq4 | decide⟩, A.keep _ ⟨rfl, rfl, rfl, rfl, trivial⟩, M⟩
     ·
      refine gcl A M (ef rfl rfl) (vk (Nu.below hok.num M.bel) hok.len hb26) fun w31 hb30 M a A => ?_
      refine sdo (v := .agg #[bV false, .slice none 0 0, .slice none 0 0, bV false, .slice none 0 0, .slice none 0 0]) A (xr rfl (fun w => by kernel_rfl)) λa A↦?_
      refine sda A λa A↦?_
      refine sdo (v := pA g2 2) A (qf qab rfl rfl) λa A↦?_
      refine ja (L' := (.obj g2 (.cells #[iV d.k, iV d.n, bV false, .slice none 0 0, .slice none 0 0, bV false, .slice none 0 0, .slice none 0 0, .string d.s, .slice d.ro d.rl.length d.rc, .slice d.lo ts.length d.lc] 30) :: [])) A M rfl rfl (zq rfl rfl rfl (by kernel_rfl) M 0 rfl rfl rfl) 0 rfl rfl rfl ?_
      intro w32 M
      refine qa ?_
      exact hJ6 _ _ ⟨false, d.n, false, none, 0, 0, none, 0, 0, false, none, 0, 0, none, 0, 0, d.s, d.ro, d.rl.length, d.rc, d.lo, ts.length, d.lc, ⟨by
       unfold jw
       repeat (first | rw [if_pos (by omega)] | rw [if_neg (by omega)])
       first | rfl | rw [hb26], by first | exact hq1 | decide, by first | exact hq2 | decide, by first | exact hq3 | decide, by first | exact hq4 | decide⟩, A.keep _ ⟨rfl, rfl, rfl, rfl, trivial⟩, M⟩
    ·
     have hb25' := ne_of_beq_false hb25
     refine sdc A qt hb25 λa A↦?_
     refine sda A λa A↦?_
     refine qa (hK24 _ _ (cf A ?_))
     refine wsk fun K33 hK33 => wrl ?_
     rcases tf ((d.k == 4)) with hb34 | hb34
     ·
      have hb34' := eq_of_beq hb34
      refine sdc A qt hb34 λa A↦?_
      refine sda A λa A↦?_
      refine qa (hK33 _ _ (ct A ?_))
      refine wrl (sdo (v := pA g2 1) A (qf ye rfl rfl) λa A↦?_)
      refine sdo A (zi M o93 rfl 0 rfl rfl) λa A↦?_
      rcases tf (yn d.n) with hb35 | hb35
      ·
       refine gcl A M (ef rfl rfl) ((hb35 ▸ qyc)) fun w37 hb36 M a A => ?_
       refine sda A λa A↦?_
       refine sdo (v := pA g2 1) A (qf ye rfl rfl) λa A↦?_
       refine ja (L' := (.obj g2 (.cells #[iV d.k, iV 0, bV d.y.q.b1, .slice d.y.o1 d.y.q.t1.length d.y.c1, .slice d.y.o2 d.y.q.q1.length d.y.c2, bV d.y.q.b2, .slice d.y.o3 d.y.q.t2.length d.y.c3, .slice d.y.o4 d.y.q.q2.length d.y.c4, .string d.s, .slice d.ro d.rl.length d.rc, .slice d.lo ts.length d.lc] 30) :: [])) A M rfl rfl (zq rfl rfl rfl (by kernel_rfl) M 0 rfl rfl rfl) 0 rfl rfl rfl ?_
       intro w38 M
       refine qa ?_
       exact hJ6 _ _ ⟨true, 0, d.y.q.b1, d.y.o1, d.y.q.t1.length, d.y.c1, d.y.o2, d.y.q.q1.length, d.y.c2, d.y.q.b2, d.y.o3, d.y.q.t2.length, d.y.c3, d.y.o4, d.y.q.q2.length, d.y.c4, d.s, d.ro, d.rl.length, d.rc, d.lo, ts.length, d.lc, ⟨by
        unfold jw
        repeat (first | rw [if_pos (by omega)] | rw [if_neg (by omega)])
        first | rfl | rw [hb35], by first | exact hq1 | decide, by first | exact hq2 | decide, by first | exact hq3 | decide, by first | exact hq4 | decide⟩, A.keep _ ⟨rfl, rfl, rfl, rfl, trivial⟩, M⟩
      ·
       refine gcl A M (ef rfl rfl) ((hb35 ▸ qyc)) fun w40 hb39 M a A => ?_
       refine sda A λa A↦?_
       refine sdo (v := pA g2 1) A (qf ye rfl rfl) λa A↦?_
       refine ja (L' := (.obj g2 (.cells #[iV d.k, iV 0, bV d.y.q.b1, .slice d.y.o1 d.y.q.t1.length d.y.c1, .slice d.y.o2 d.y.q.q1.length d.y.c2, bV d.y.q.b2, .slice d.y.o3 d.y.q.t2.length d.y.c3, .slice d.y.o4 d.y.q.q2.length d.y.c4, .string d.s, .slice d.ro d.rl.length d.rc, .slice d.lo ts.length d.lc] 30) :: [])) A M rfl rfl (zq rfl rfl rfl (by kernel_rfl) M 0 rfl rfl rfl) 0 rfl rfl rfl ?_
       intro w41 M
       refine qa ?_
       exact hJ6 _ _ ⟨false, 0, d.y.q.b1, d.y.o1, d.y.q.t1.length, d.y.c1, d.y.o2, d.y.q.q1.length, d.y.c2, d.y.q.b2, d.y.o3, d.y.q.t2.length, d.y.c3, d.y.o4, d.y.q.q2.length, d.y.c4, d.s, d.ro, d.rl.length, d.rc, d.lo, ts.length, d.lc, ⟨by
        unfold jw
        repeat (first | rw [if_pos (by omega)] | rw [if_neg (by omega)])
        first | rfl | rw [hb35], by first | exact hq1 | decide, by first | exact hq2 | decide, by first | exact hq3 | decide, by first | exact hq4 | decide⟩, A.keep _ ⟨rfl, rfl, rfl, rfl, trivial⟩, M⟩
     ·
      have hb34' := ne_of_beq_false hb34
      refine sdc A qt hb34 λa A↦?_
      refine sda A λa A↦?_
      refine qa (hK33 _ _ (cf A ?_))
      refine wsk fun K42 hK42 => wsk fun K43 hK43 => wrl ?_
      rcases tf ((d.k == 5)) with hb44 | hb44
      ·
       have hb44' := eq_of_beq hb44
       refine sdc A qt hb44 λa A↦?_
       refine sda A λa A↦?_
       refine qa (hK43 _ _ (ct A ?_))
       refine wp_skip (hK42 _ _ (ct A ?_))
       refine wrl (sdo (v := pA g2 8) A (qf ki rfl rfl) λa A↦?_)
       refine sdo A (zi M o99 rfl 0 rfl rfl) λa A↦?_
       rcases tf (okS d.s) with hb45 | hb45
       ·
        refine gcl A M (ef rfl rfl) (yy hok.smax (hT.below M.bel) hb45) fun w47 hb46 M a A => ?_
        refine sda A λa A↦?_
        refine sdo (v := pA g2 8) A (qf ki rfl rfl) λa A↦?_
        refine ja (L' := (.obj g2 (.cells #[iV d.k, iV d.n, bV d.y.q.b1, .slice d.y.o1 d.y.q.t1.length d.y.c1, .slice d.y.o2 d.y.q.q1.length d.y.c2, bV d.y.q.b2, .slice d.y.o3 d.y.q.t2.length d.y.c3, .slice d.y.o4 d.y.q.q2.length d.y.c4, .string (⟨#[]⟩), .slice d.ro d.rl.length d.rc, .slice d.lo ts.length d.lc] 30) :: [])) A M rfl rfl (zq rfl rfl rfl (by kernel_rfl) M 0 rfl rfl rfl) 0 rfl rfl rfl ?_
        intro w48 M
        refine qa ?_
        exact hJ6 _ _ ⟨true, d.n, d.y.q.b1, d.y.o1, d.y.q.t1.length, d.y.c1, d.y.o2, d.y.q.q1.length, d.y.c2, d.y.q.b2, d.y.o3, d.y.q.t2.length, d.y.c3, d.y.o4, d.y.q.q2.length, d.y.c4, ⟨#[]⟩, d.ro, d.rl.length, d.rc, d.lo, ts.length, d.lc, ⟨by
         unfold jw
         repeat (first | rw [if_pos (by omega)] | rw [if_neg (by omega)])
         first | rfl | rw [hb45], by first | exact hq1 | decide, by first | exact hq2 | decide, by first | exact hq3 | decide, by first | exact hq4 | decide⟩, A.keep _ ⟨rfl, rfl, rfl, rfl, trivial⟩, M⟩
       ·
        refine gcl A M (ef rfl rfl) (yy hok.smax (hT.below M.bel) hb45) fun w50 hb49 M a A => ?_
        refine sda A λa A↦?_
        refine sdo (v := pA g2 8) A (qf ki rfl rfl) λa A↦?_
        refine ja (L' := (.obj g2 (.cells #[iV d.k, iV d.n, bV d.y.q.b1, .slice d.y.o1 d.y.q.t1.length d.y.c1, .slice d.y.o2 d.y.q.q1.length d.y.c2, bV d.y.q.b2, .slice d.y.o3 d.y.q.t2.length d.y.c3, .slice d.y.o4 d.y.q.q2.length d.y.c4, .string (⟨#[]⟩), .slice d.ro d.rl.length d.rc, .slice d.lo ts.length d.lc] 30) :: [])) A M rfl rfl (zq rfl rfl rfl (by kernel_rfl) M 0 rfl rfl rfl) 0 rfl rfl rfl ?_
        intro w51 M
        refine qa ?_
        exact hJ6 _ _ ⟨false, d.n, d.y.q.b1, d.y.o1, d.y.q.t1.length, d.y.c1, d.y.o2, d.y.q.q1.length, d.y.c2, d.y.q.b2, d.y.o3, d.y.q.t2.length, d.y.c3, d.y.o4, d.y.q.q2.length, d.y.c4, ⟨#[]⟩, d.ro, d.rl.length, d.rc, d.lo, ts.length, d.lc, ⟨by
         unfold jw
         repeat (first | rw [if_pos (by omega)] | rw [if_neg (by omega)])
         first | rfl | rw [hb45], by first | exact hq1 | decide, by first | exact hq2 | decide, by first | exact hq3 | decide, by first | exact hq4 | decide⟩, A.keep _ ⟨rfl, rfl, rfl, rfl, trivial⟩, M⟩
      ·
       have hb44' := ne_of_beq_false hb44
       refine sdc A qt hb44 λa A↦?_
       refine sda A λa A↦?_
       refine qa (hK43 _ _ (cf A ?_))
       refine wsk fun K52 hK52 => wrl ?_
       rcases tf ((d.k == 6)) with hb53 | hb53
       ·
        have hb53' := eq_of_beq hb53
        refine sdc A qt hb53 λa A↦?_
        refine sda A λa A↦?_
        refine qa (hK52 _ _ (ct A ?_))
        refine wp_skip (hK42 _ _ (ct A ?_))
        refine wrl (sdo (v := pA g2 8) A (qf ki rfl rfl) λa A↦?_)
        refine sdo A (zi M o99 rfl 0 rfl rfl) λa A↦?_
        rcases tf (okS d.s) with hb54 | hb54
        ·
         refine gcl A M (ef rfl rfl) (yy hok.smax (hT.below M.bel) hb54) fun w56 hb55 M a A => ?_
         refine sda A λa A↦?_
         refine sdo (v := pA g2 8) A (qf ki rfl rfl) λa A↦?_
         refine ja (L' := (.obj g2 (.cells #[iV d.k, iV d.n, bV d.y.q.b1, .slice d.y.o1 d.y.q.t1.length d.y.c1, .slice d.y.o2 d.y.q.q1.length d.y.c2, bV d.y.q.b2, .slice d.y.o3 d.y.q.t2.length d.y.c3, .slice d.y.o4 d.y.q.q2.length d.y.c4, .string (⟨#[]⟩), .slice d.ro d.rl.length d.rc, .slice d.lo ts.length d.lc] 30) :: [])) A M rfl rfl (zq rfl rfl rfl (by kernel_rfl) M 0 rfl rfl rfl) 0 rfl rfl rfl ?_
         intro w57 M
         refine qa ?_
         exact hJ6 _ _ ⟨true, d.n, d.y.q.b1, d.y.o1, d.y.q.t1.length, d.y.c1, d.y.o2, d.y.q.q1.length, d.y.c2, d.y.q.b2, d.y.o3, d.y.q.t2.length, d.y.c3, d.y.o4, d.y.q.q2.length, d.y.c4, ⟨#[]⟩, d.ro, d.rl.length, d.rc, d.lo, ts.length, d.lc, ⟨by
          unfold jw
          repeat (first | rw [if_pos (by omega)] | rw [if_neg (by omega)])
          first | rfl | rw [hb54], by first | exact hq1 | decide, by first | exact hq2 | decide, by first | exact hq3 | decide, by first | exact hq4 | decide⟩, A.keep _ ⟨rfl, rfl, rfl, rfl, trivial⟩, M⟩
        ·
         refine gcl A M (ef rfl rfl) (yy hok.smax (hT.below M.bel) hb54) fun w59 hb58 M a A => ?_
         refine sda A λa A↦?_
         refine sdo (v := pA g2 8) A (qf ki rfl rfl) λa A↦?_
         refine ja (L' := (.obj g2 (.cells #[iV d.k, iV d.n, bV d.y.q.b1, .slice d.y.o1 d.y.q.t1.length d.y.c1, .slice d.y.o2 d.y.q.q1.length d.y.c2, bV d.y.q.b2, .slice d.y.o3 d.y.q.t2.length d.y.c3, .slice d.y.o4 d.y.q.q2.length d.y.c4, .string (⟨#[]⟩), .slice d.ro d.rl.length d.rc, .slice d.lo ts.length d.lc] 30) :: [])) A M rfl rfl (zq rfl rfl rfl (by kernel_rfl) M 0 rfl rfl rfl) 0 rfl rfl rfl ?_
         intro w60 M
         refine qa ?_
         exact hJ6 _ _ ⟨false, d.n, d.y.q.b1, d.y.o1, d.y.q.t1.length, d.y.c1, d.y.o2, d.y.q.q1.length, d.y.c2, d.y.q.b2, d.y.o3, d.y.q.t2.length, d.y.c3, d.y.o4, d.y.q.q2.length, d.y.c4, ⟨#[]⟩, d.ro, d.rl.length, d.rc, d.lo, ts.length, d.lc, ⟨by
          unfold jw
          repeat (first | rw [if_pos (by omega)] | rw [if_neg (by omega)])
          first | rfl | rw [hb54], by first | exact hq1 | decide, by first | exact hq2 | decide, by first | exact hq3 | decide, by first | exact hq4 | decide⟩, A.keep _ ⟨rfl, rfl, rfl, rfl, trivial⟩, M⟩
       ·
        have hb53' := ne_of_beq_false hb53
        refine sdc A qt hb53 λa A↦?_
        refine sda A λa A↦?_
        refine qa (hK52 _ _ (cf A ?_))
        refine wrl ?_
        rcases tf ((d.k == 11)) with hb61 | hb61
        ·
         have hb61' := eq_of_beq hb61
         refine sdc A qt hb61 λa A↦?_
         refine sda A λa A↦?_
         refine qa (hK42 _ _ (ct A ?_))
         refine wrl (sdo (v := pA g2 8) A (qf ki rfl rfl) λa A↦?_)
         refine sdo A (zi M o99 rfl 0 rfl rfl) λa A↦?_
         rcases tf (okS d.s) with hb62 | hb62
         ·
          refine gcl A M (ef rfl rfl) (yy hok.smax (hT.below M.bel) hb62) fun w64 hb63 M a A => ?_
          refine sda A λa A↦?_
          refine sdo (v := pA g2 8) A (qf ki rfl rfl) λa A↦?_
          refine ja (L' := (.obj g2 (.cells #[iV d.k, iV d.n, bV d.y.q.b1, .slice d.y.o1 d.y.q.t1.length d.y.c1, .slice d.y.o2 d.y.q.q1.length d.y.c2, bV d.y.q.b2, .slice d.y.o3 d.y.q.t2.length d.y.c3, .slice d.y.o4 d.y.q.q2.length d.y.c4, .string (⟨#[]⟩), .slice d.ro d.rl.length d.rc, .slice d.lo ts.length d.lc] 30) :: [])) A M rfl rfl (zq rfl rfl rfl (by kernel_rfl) M 0 rfl rfl rfl) 0 rfl rfl rfl ?_
          intro w65 M
          refine qa ?_
          exact hJ6 _ _ ⟨true, d.n, d.y.q.b1, d.y.o1, d.y.q.t1.length, d.y.c1, d.y.o2, d.y.q.q1.length, d.y.c2, d.y.q.b2, d.y.o3, d.y.q.t2.length, d.y.c3, d.y.o4, d.y.q.q2.length, d.y.c4, ⟨#[]⟩, d.ro, d.rl.length, d.rc, d.lo, ts.length, d.lc, ⟨by
           unfold jw
           repeat (first | rw [if_pos (by omega)] | rw [if_neg (by omega)])
           first | rfl | rw [hb62], by first | exact hq1 | decide, by first | exact hq2 | decide, by first | exact hq3 | decide, by first | exact hq4 | decide⟩, A.keep _ ⟨rfl, rfl, rfl, rfl, trivial⟩, M⟩
         ·
          refine gcl A M (ef rfl rfl) (yy hok.smax (hT.below M.bel) hb62) fun w67 hb66 M a A => ?_
          refine sda A λa A↦?_
          refine sdo (v := pA g2 8) A (qf ki rfl rfl) λa A↦?_
          refine ja (L' := (.obj g2 (.cells #[iV d.k, iV d.n, bV d.y.q.b1, .slice d.y.o1 d.y.q.t1.length d.y.c1, .slice d.y.o2 d.y.q.q1.length d.y.c2, bV d.y.q.b2, .slice d.y.o3 d.y.q.t2.length d.y.c3, .slice d.y.o4 d.y.q.q2.length d.y.c4, .string (⟨#[]⟩), .slice d.ro d.rl.length d.rc, .slice d.lo ts.length d.lc] 30) :: [])) A M rfl rfl (zq rfl rfl rfl (by kernel_rfl) M 0 rfl rfl rfl) 0 rfl rfl rfl ?_
          intro w68 M
          refine qa ?_
          exact hJ6 _ _ ⟨false, d.n, d.y.q.b1, d.y.o1, d.y.q.t1.length, d.y.c1, d.y.o2, d.y.q.q1.length, d.y.c2, d.y.q.b2, d.y.o3, d.y.q.t2.length, d.y.c3, d.y.o4, d.y.q.q2.length, d.y.c4, ⟨#[]⟩, d.ro, d.rl.length, d.rc, d.lo, ts.length, d.lc, ⟨by
           unfold jw
           repeat (first | rw [if_pos (by omega)] | rw [if_neg (by omega)])
           first | rfl | rw [hb62], by first | exact hq1 | decide, by first | exact hq2 | decide, by first | exact hq3 | decide, by first | exact hq4 | decide⟩, A.keep _ ⟨rfl, rfl, rfl, rfl, trivial⟩, M⟩
        ·
         have hb61' := ne_of_beq_false hb61
         refine sdc A qt hb61 λa A↦?_
         refine sda A λa A↦?_
         refine qa (hK42 _ _ (cf A ?_))
         refine wsk fun K69 hK69 => wrl ?_
         rcases tf ((d.k == 7)) with hb70 | hb70
         ·
          have hb70' := eq_of_beq hb70
          refine sdc A qt hb70 λa A↦?_
          refine sda A λa A↦?_
          refine qa (hK69 _ _ (ct A ?_))
          refine wrl (sdo (v := pA g2 9) A (qf zca rfl rfl) λa A↦?_)
          refine ja (L' := (.obj g2 (.cells #[iV d.k, iV d.n, bV d.y.q.b1, .slice d.y.o1 d.y.q.t1.length d.y.c1, .slice d.y.o2 d.y.q.q1.length d.y.c2, bV d.y.q.b2, .slice d.y.o3 d.y.q.t2.length d.y.c3, .slice d.y.o4 d.y.q.q2.length d.y.c4, .string d.s, .slice none 0 0, .slice d.lo ts.length d.lc] 30) :: [])) A M rfl rfl (zq rfl rfl rfl (by kernel_rfl) M 0 rfl rfl rfl) 0 rfl rfl rfl ?_
          intro w71 M
          refine qa ?_
          exact hJ6 _ _ ⟨true, d.n, d.y.q.b1, d.y.o1, d.y.q.t1.length, d.y.c1, d.y.o2, d.y.q.q1.length, d.y.c2, d.y.q.b2, d.y.o3, d.y.q.t2.length, d.y.c3, d.y.o4, d.y.q.q2.length, d.y.c4, d.s, none, 0, 0, d.lo, ts.length, d.lc, ⟨by
           unfold jw
           repeat (first | rw [if_pos (by omega)] | rw [if_neg (by omega)])
           first | rfl, by first | exact hq1 | decide, by first | exact hq2 | decide, by first | exact hq3 | decide, by first | exact hq4 | decide⟩, A.keep _ ⟨rfl, rfl, rfl, rfl, trivial⟩, M⟩
         ·
          have hb70' := ne_of_beq_false hb70
          refine sdc A qt hb70 λa A↦?_
          refine sda A λa A↦?_
          refine qa (hK69 _ _ (cf A ?_))
          refine wsk fun K72 hK72 => wrl ?_
          rcases tf ((d.k == 8)) with hb73 | hb73
          ·
           have hb73' := eq_of_beq hb73
           refine sdc A qt hb73 λa A↦?_
           refine sda A λa A↦?_
           refine qa (hK72 _ _ (ct A ?_))
           refine wrl (sdo (v := pA g2 10) A (qf vt rfl rfl) λa A↦?_)
           refine sdo A (zi M qdi rfl 0 rfl rfl) λa A↦?_
           refine sdo A (qy Tryz.underlying28 rfl) λa A↦?_
           rcases tf ((((ts.length : Nat) : Int) == 2)) with hb74 | hb74
           ·
            have hb74' := eq_of_beq hb74
            refine sdc A qt hb74 λa A↦?_
            refine sda A λa A↦?_
            refine sdo (v := pA g2 10) A (qf vt rfl rfl) λa A↦?_
            refine ja (L' := (.obj g2 (.cells #[iV d.k, iV d.n, bV d.y.q.b1, .slice d.y.o1 d.y.q.t1.length d.y.c1, .slice d.y.o2 d.y.q.q1.length d.y.c2, bV d.y.q.b2, .slice d.y.o3 d.y.q.t2.length d.y.c3, .slice d.y.o4 d.y.q.q2.length d.y.c4, .string d.s, .slice d.ro d.rl.length d.rc, .slice none 0 0] 30) :: [])) A M rfl rfl (zq rfl rfl rfl (by kernel_rfl) M 0 rfl rfl rfl) 0 rfl rfl rfl ?_
            intro w75 M
            refine qa ?_
            exact hJ6 _ _ ⟨true, d.n, d.y.q.b1, d.y.o1, d.y.q.t1.length, d.y.c1, d.y.o2, d.y.q.q1.length, d.y.c2, d.y.q.b2, d.y.o3, d.y.q.t2.length, d.y.c3, d.y.o4, d.y.q.q2.length, d.y.c4, d.s, d.ro, d.rl.length, d.rc, none, 0, 0, ⟨by
             unfold jw
             repeat (first | rw [if_pos (by omega)] | rw [if_neg (by omega)])
             first | rfl | (rw [decide_eq_true (show (ts.length = 2) by omega)]), by first | exact hq1 | decide, by first | exact hq2 | decide, by first | exact hq3 | decide, by first | exact hq4 | decide⟩, A.keep _ ⟨rfl, rfl, rfl, rfl, trivial⟩, M⟩
           ·
            have hb74' := ne_of_beq_false hb74
            refine sdc A qt hb74 λa A↦?_
            refine sda A λa A↦?_
            refine sdo (v := pA g2 10) A (qf vt rfl rfl) λa A↦?_
            refine ja (L' := (.obj g2 (.cells #[iV d.k, iV d.n, bV d.y.q.b1, .slice d.y.o1 d.y.q.t1.length d.y.c1, .slice d.y.o2 d.y.q.q1.length d.y.c2, bV d.y.q.b2, .slice d.y.o3 d.y.q.t2.length d.y.c3, .slice d.y.o4 d.y.q.q2.length d.y.c4, .string d.s, .slice d.ro d.rl.length d.rc, .slice none 0 0] 30) :: [])) A M rfl rfl (zq rfl rfl rfl (by kernel_rfl) M 0 rfl rfl rfl) 0 rfl rfl rfl ?_
            intro w76 M
            refine qa ?_
            exact hJ6 _ _ ⟨false, d.n, d.y.q.b1, d.y.o1, d.y.q.t1.length, d.y.c1, d.y.o2, d.y.q.q1.length, d.y.c2, d.y.q.b2, d.y.o3, d.y.q.t2.length, d.y.c3, d.y.o4, d.y.q.q2.length, d.y.c4, d.s, d.ro, d.rl.length, d.rc, none, 0, 0, ⟨by
             unfold jw
             repeat (first | rw [if_pos (by omega)] | rw [if_neg (by omega)])
             first | rfl | (rw [decide_eq_false (show ¬ (ts.length = 2) by omega)]), by first | exact hq1 | decide, by first | exact hq2 | decide, by first | exact hq3 | decide, by first | exact hq4 | decide⟩, A.keep _ ⟨rfl, rfl, rfl, rfl, trivial⟩, M⟩
          ·
           have hb73' := ne_of_beq_false hb73
           refine sdc A qt hb73 λa A↦?_
           refine sda A λa A↦?_
           refine qa (hK72 _ _ (cf A ?_))
           refine wsk fun K77 hK77 => wrl ?_
           rcases tf ((d.k == 9)) with hb78 | hb78
           ·
            have hb78' := eq_of_beq hb78
            refine sdc A qt hb78 λa A↦?_
            refine sda A λa A↦?_
            refine qa (hK77 _ _ (ct A ?_))
            refine wrl (sdo (v := pA g2 10) A (qf vt rfl rfl) λa A↦?_)
            refine ja (L' := (.obj g2 (.cells #[iV d.k, iV d.n, bV d.y.q.b1, .slice d.y.o1 d.y.q.t1.length d.y.c1, .slice d.y.o2 d.y.q.q1.length d.y.c2, bV d.y.q.b2, .slice d.y.o3 d.y.q.t2.length d.y.c3, .slice d.y.o4 d.y.q.q2.length d.y.c4, .string d.s, .slice d.ro d.rl.length d.rc, .slice none 0 0] 30) :: [])) A M rfl rfl (zq rfl rfl rfl (by kernel_rfl) M 0 rfl rfl rfl) 0 rfl rfl rfl ?_
            intro w79 M
            refine qa ?_
            exact hJ6 _ _ ⟨true, d.n, d.y.q.b1, d.y.o1, d.y.q.t1.length, d.y.c1, d.y.o2, d.y.q.q1.length, d.y.c2, d.y.q.b2, d.y.o3, d.y.q.t2.length, d.y.c3, d.y.o4, d.y.q.q2.length, d.y.c4, d.s, d.ro, d.rl.length, d.rc, none, 0, 0, ⟨by
             unfold jw
             repeat (first | rw [if_pos (by omega)] | rw [if_neg (by omega)])
             first | rfl, by first | exact hq1 | decide, by first | exact hq2 | decide, by first | exact hq3 | decide, by first | exact hq4 | decide⟩, A.keep _ ⟨rfl, rfl, rfl, rfl, trivial⟩, M⟩
           ·
            have hb78' := ne_of_beq_false hb78
            refine sdc A qt hb78 λa A↦?_
            refine sda A λa A↦?_
            refine qa (hK77 _ _ (cf A ?_))
            refine wrl (sda A λa A↦?_)
            refine qa ?_
            exact hJ6 _ _ ⟨false, d.n, d.y.q.b1, d.y.o1, d.y.q.t1.length, d.y.c1, d.y.o2, d.y.q.q1.length, d.y.c2, d.y.q.b2, d.y.o3, d.y.q.t2.length, d.y.c3, d.y.o4, d.y.q.q2.length, d.y.c4, d.s, d.ro, d.rl.length, d.rc, d.lo, ts.length, d.lc, ⟨by
             unfold jw
             repeat (first | rw [if_pos (by omega)] | rw [if_neg (by omega)])
             first | rfl, by first | exact hq1 | decide, by first | exact hq2 | decide, by first | exact hq3 | decide, by first | exact hq4 | decide⟩, A.keep _ ⟨rfl, rfl, rfl, rfl, trivial⟩, M⟩
theorem Mg.here {w0 w : World} {L : List Ck} (h : Mg w0 w L) (k : Nat) {g : Nat} {cs : List Value} {t : TypeId} (hk : L[k]? = some (.obj g (.cells cs.toArray t))) : Here w g 0 cs := ⟨(Array.getElem?_eq_some_iff.1 (h.obj k hk)).1, fun j v hj => by rw [Nat.zero_add]; exact h.cell k hk j hj⟩
def Through (t : Dt) : Prop := ∀ {w : World}, t.rd w → Tabs8 w → Calls Tryz.prog 45 #[.agg t.cells.toArray] w fun e w' => e = .returned (bV (xl zl t.tr)) ∧ Below w.heap.size w w'
theorem qhb : ∀ t : Dt, Through t := Dt.indT fun d ts ih => by
 intro w hrd hT
 have hok := (Dt.rd_iff.1 hrd)
 have hlen : ts.length ≤ 9223372036854775807 := Nat.le_trans hok.2.1 hok.2.2.1
 have M : Mg w w ([]) := Mg.start w
 refine qx (l := [(0, .agg (d.cells ts.length).toArray)]) Tryz.func45 rfl Tryz.ntmps45 rfl rfl ?_
 intro Q hret hnorm hP a A
 refine wsk fun K1 hK1 => wrl (jl (vs := [iV d.k, iV d.n, bV d.y.q.b1, .slice d.y.o1 d.y.q.t1.length d.y.c1, .slice d.y.o2 d.y.q.q1.length d.y.c2, bV d.y.q.b2, .slice d.y.o3 d.y.q.t2.length d.y.c3, .slice d.y.o4 d.y.q.q2.length d.y.c4, .string d.s, .slice d.ro d.rl.length d.rc, .slice d.lo ts.length d.lc]) (t := 30) A M rfl rfl rfl pg (zd rfl rfl) (by decide) ?_)
 intro g2 w3 M a A
 refine sda A λa A↦?_
 refine qa (hK1 _ _ (wsk fun K4 hK4 => wsk fun K5 hK5 => wrl (sdo A (zy M xi rfl 0 rfl (cs := [iV d.k, iV d.n, bV d.y.q.b1, .slice d.y.o1 d.y.q.t1.length d.y.c1, .slice d.y.o2 d.y.q.q1.length d.y.c2, bV d.y.q.b2, .slice d.y.o3 d.y.q.t2.length d.y.c3, .slice d.y.o4 d.y.q.q2.length d.y.c4, .string d.s, .slice d.ro d.rl.length d.rc, .slice d.lo ts.length d.lc]) rfl rfl) λa A↦?_)))
 rcases tf (jw d.k d.n d.y.q d.s d.rl.length ts.length) with hb6 | hb6
 ·
  refine gcl A M (ef rfl rfl) ((hb6 ▸ qle (ts := ts) (hok.1.below M.bel) (hT.below M.bel))) fun w8 hb7 M a A => ?_
  refine sdo (v := bV false) A (ql rfl qp) λa A↦?_
  refine qa (hK5 _ _ (cf A ?_))
  refine wp_skip (hK4 _ _ (wsk fun K9 hK9 => wsk fun K10 hK10 => wrl (sdo (v := pA g2 10) A (qf vt rfl rfl) λa A↦?_)))
  refine sdo A (zi M qdi rfl 0 rfl rfl) λa A↦?_
  refine sdo A (qy Tryz.underlying28 rfl) λa A↦?_
  refine sdm A λa A↦?_
  refine qa (hK10 _ _ (wp_block (jc (fun m_ a w1 => ∃ (i : Nat), m_ = 1 + (ts.length - i) ∧ (i ≤ ts.length ∧ qdc zl ((ts.map Dt.tr).drop 0) = qdc zl ((ts.map Dt.tr).drop i)) ∧ Sl a 19 [(0, .agg (d.cells ts.length).toArray), (1, pA g2 0), (5, .agg (d.cells ts.length).toArray), (6, bV true), (7, bV false), (8, pA g2 10), (9, .slice d.lo ts.length d.lc), (10, iV (((ts.length : Nat) : Int))), (11, iV (((i : Nat) : Int)))] ∧ Mg w w1 (.obj g2 (.cells (d.cells ts.length).toArray 30) :: [])) _ ⟨0, rfl, ⟨Nat.zero_le _, rfl⟩, A.keep _ (by repeat' constructor), M⟩ ?_)))
  clear M A
  rintro m_ a w11 ⟨i, rfl, hinv13, A, M⟩ K12 hK12
  obtain ⟨hi0, hin9⟩ := hinv13
  refine wsk fun K14 hK14 => wrl ?_
  rcases tf (decide (((i : Nat) : Int) < ((ts.length : Nat) : Int))) with hb15 | hb15
  ·
   have hb15' := of_decide_eq_true hb15
   refine sdc A zh hb15 λa A↦?_
   refine qa (hK14 _ _ (wsk fun K16 hK16 => wp_cond_true (A.ev rfl) ?_))
   refine wp_skip (hK16 _ _ (wsk fun K17 hK17 => wp_block (wsk fun K18 hK18 => ?_)))
   obtain ⟨t1, b1, o1, hi1, hm1, hr1, hl1, hH1⟩ := kid hrd (i := i) (by omega)
   refine wrl (sdo (v := pA b1 (o1 + i * 11)) A (ze (k := i) Tryz.underlying28 (by kernel_rfl) rfl rfl rfl hl1 (by omega)) λa A↦?_)
   refine sdo A (jh M hH1 xi rfl rfl) λa A↦?_
   refine jl (vs := [iV 0, iV 0, bV false, .slice none 0 0, .slice none 0 0, bV false, .slice none 0 0, .slice none 0 0, .string (⟨#[]⟩), .slice none 0 0, .slice none 0 0]) (t := 30) A M rfl rfl rfl pg (zv (z := .agg #[iV 0, iV 0, bV false, .slice none 0 0, .slice none 0 0, bV false, .slice none 0 0, .slice none 0 0, .string (⟨#[]⟩), .slice none 0 0, .slice none 0 0]) (by kernel_rfl) rfl) (by decide) ?_
   intro g19 w20 M a A
   refine ja (L' := (.obj g19 (.cells (t1.d.cells t1.ts.length).toArray 30) :: .obj g2 (.cells (d.cells ts.length).toArray 30) :: [])) A M rfl rfl (zq rfl rfl rfl (by kernel_rfl) M 0 rfl rfl rfl) 0 rfl rfl rfl ?_
   intro w21 M
   refine qa (hK18 _ _ (wsk fun K22 hK22 => wrl (sdo A (zy M xi rfl 0 rfl (cs := [iV t1.d.k, iV t1.d.n, bV t1.d.y.q.b1, .slice t1.d.y.o1 t1.d.y.q.t1.length t1.d.y.c1, .slice t1.d.y.o2 t1.d.y.q.q1.length t1.d.y.c2, bV t1.d.y.q.b2, .slice t1.d.y.o3 t1.d.y.q.t2.length t1.d.y.c3, .slice t1.d.y.o4 t1.d.y.q.q2.length t1.d.y.c4, .string t1.d.s, .slice t1.d.ro t1.d.rl.length t1.d.rc, .slice t1.d.lo t1.ts.length t1.d.lc]) rfl rfl) λa A↦?_)))
   rcases tf (xl zl t1.tr) with hb23 | hb23
   ·
    refine gcl A M (ef rfl rfl) ((hb23 ▸ ih t1 hm1 (Dt.keep M.bel _ hr1) (hT.below M.bel))) fun w25 hb24 M a A => ?_
    refine sdo (v := bV false) A (ql rfl qp) λa A↦?_
    refine qa (hK22 _ _ (cf A ?_))
    refine wp_skip (hK17 _ _ (wrl (sdo (v := iV (((i + 1 : Nat) : Int))) A (qh rfl rfl (fun w => (kw (yk (by omega) (by omega)) w).trans (by rw [show (((i : Nat) : Int) + 1 : Int) = ((i + 1 : Nat) : Int) from by omega]))) λa A↦?_)))
    refine sdm A λa A↦?_
    refine qa ?_
    replace M : Mg w w25 (.obj g2 (.cells (d.cells ts.length).toArray 30) :: []) := by
     have h9 := M.sub (cN (cC (.refl _)))
     exact h9
    refine hK12 _ _ _ (by omega) ⟨i + 1, rfl, ⟨by omega, by rw [hin9, zed hi1, hb23, Bool.true_and]⟩, A.keep _ (by repeat' constructor), M⟩
   ·
    refine gcl A M (ef rfl rfl) ((hb23 ▸ ih t1 hm1 (Dt.keep M.bel _ hr1) (hT.below M.bel))) fun w27 hb26 M a A => ?_
    refine sdo (v := bV true) A (ql rfl qp) λa A↦?_
    refine qa (hK22 _ _ (ct A ?_))
    refine wsk fun K28 hK28 => wrl (sda A λa A↦?_)
    refine qa (hK28 _ _ (wr1 hret A ?_))
    rw [show xl zl (Dt.mk d ts).tr = false from by rw [qri, ya, hb6, Bool.true_and, hin9, zed hi1, hb23, Bool.false_and]]
    exact ⟨rfl, M.bel⟩
  ·
   have hb15' := of_decide_eq_false hb15
   refine sdc A zh hb15 λa A↦?_
   refine qa (hK14 _ _ (wsk fun K29 hK29 => wp_cond_false (A.ev rfl) ?_))
   refine wp_exit (hK9 _ _ (wsk fun K30 hK30 => wrl (sda A λa A↦?_)))
   refine qa (hK30 _ _ (wr1 hret A ?_))
   rw [show xl zl (Dt.mk d ts).tr = true from by rw [qri, ya, hb6, Bool.true_and, hin9, qfj (by omega), qdc]]
   exact ⟨rfl, M.bel⟩
 ·
  refine gcl A M (ef rfl rfl) ((hb6 ▸ qle (ts := ts) (hok.1.below M.bel) (hT.below M.bel))) fun w32 hb31 M a A => ?_
  refine sdo (v := bV true) A (ql rfl qp) λa A↦?_
  refine qa (hK5 _ _ (ct A ?_))
  refine wsk fun K33 hK33 => wrl (sda A λa A↦?_)
  refine qa (hK33 _ _ (wr1 hret A ?_))
  rw [show xl zl (Dt.mk d ts).tr = false from by rw [qri, ya, hb6, Bool.false_and]]
  exact ⟨rfl, M.bel⟩
theorem qyd {w : World} {d : Nd} {ts : List Dt} (hrd : (Dt.mk d ts).rd w) : Calls Tryz.prog 44 #[.agg (d.cells ts.length).toArray] w fun e w' => e = .returned (bV (xf 1 20000 (Dt.mk d ts).tr).1) ∧ Below w.heap.size w w' := by
 have M : Mg w w ([]) := Mg.start w
 refine qx (l := [(0, .agg (d.cells ts.length).toArray)]) Tryz.func44 rfl Tryz.ntmps44 rfl rfl ?_
 intro Q hret hnorm hP a A
 refine wsk fun K1 hK1 => wrl (jl (vs := [iV d.k, iV d.n, bV d.y.q.b1, .slice d.y.o1 d.y.q.t1.length d.y.c1, .slice d.y.o2 d.y.q.q1.length d.y.c2, bV d.y.q.b2, .slice d.y.o3 d.y.q.t2.length d.y.c3, .slice d.y.o4 d.y.q.q2.length d.y.c4, .string d.s, .slice d.ro d.rl.length d.rc, .slice d.lo ts.length d.lc]) (t := 30) A M rfl rfl rfl pg (zd rfl rfl) (by decide) ?_)
 intro g2 w3 M a A
 refine sda A λa A↦?_
 refine qa (hK1 _ _ (wsk fun K4 hK4 => ?_))
 have hB1 := M.bel
 have hH1 := M.here 0 (cs := d.cells ts.length) rfl
 replace M : Mg w3 w3 [] := Mg.start w3
 refine wrl (jl (vs := [iV 0]) (t := 3) A M rfl rfl rfl pg (zv (z := iV 0) (by kernel_rfl) rfl) (by decide) ?_)
 intro g5 w6 M a A
 refine ja (L' := (.obj g5 (.cells #[iV 20000] 3) :: [])) A M rfl rfl (zq rfl rfl rfl (by kernel_rfl) M 0 rfl rfl rfl) 0 rfl rfl rfl ?_
 intro w7 M
 refine qa (hK4 _ _ (wsk fun K8 hK8 => wrl (sct A (ef rfl rfl) (zcc (Dt.mk d ts) (Dt.keep hB1 _ hrd) hH1 M (by omega) (by omega) (by omega) (by omega)) ?_)))
 rintro _ w10 ⟨rfl, hM9⟩
 replace M : Mg w3 w10 (.obj g5 (.cells #[iV ((xf 1 20000 (Dt.mk d ts).tr).2)] 3) :: []) := hM9
 refine ⟨_, rfl, ?_⟩
 intro a A
 refine sda A λa A↦?_
 refine qa (hK8 _ _ (wr1 hret A ?_))
 exact ⟨rfl, hB1.trans (M.bel.mono hB1.size)⟩
theorem zkj {w : World} {d : Nd} {ts : List Dt} (hrd : (Dt.mk d ts).rd w) (hT : Tabs8 w) : Calls Tryz.prog 18 #[.agg (d.cells ts.length).toArray] w fun e w' => e = .returned (bV (ve zl (Dt.mk d ts).tr)) ∧ Below w.heap.size w w' := by
 have M : Mg w w ([]) := Mg.start w
 refine qx (l := [(0, .agg (d.cells ts.length).toArray)]) Tryz.func18 rfl Tryz.ntmps18 rfl rfl ?_
 intro Q hret hnorm hP a A
 refine wsk fun K1 hK1 => wrl (jl (vs := [iV d.k, iV d.n, bV d.y.q.b1, .slice d.y.o1 d.y.q.t1.length d.y.c1, .slice d.y.o2 d.y.q.q1.length d.y.c2, bV d.y.q.b2, .slice d.y.o3 d.y.q.t2.length d.y.c3, .slice d.y.o4 d.y.q.q2.length d.y.c4, .string d.s, .slice d.ro d.rl.length d.rc, .slice d.lo ts.length d.lc]) (t := 30) A M rfl rfl rfl pg (zd rfl rfl) (by decide) ?_)
 intro g2 w3 M a A
 refine sda A λa A↦?_
 refine qa (hK1 _ _ (wsk fun K4 hK4 => wrl (sdo A (zy M xi rfl 0 rfl (cs := [iV d.k, iV d.n, bV d.y.q.b1, .slice d.y.o1 d.y.q.t1.length d.y.c1, .slice d.y.o2 d.y.q.q1.length d.y.c2, bV d.y.q.b2, .slice d.y.o3 d.y.q.t2.length d.y.c3, .slice d.y.o4 d.y.q.q2.length d.y.c4, .string d.s, .slice d.ro d.rl.length d.rc, .slice d.lo ts.length d.lc]) rfl rfl) λa A↦?_)))
 rcases tf ((xf 1 20000 (Dt.mk d ts).tr).1) with hb5 | hb5
 ·
  refine gcl A M (ef rfl rfl) ((hb5 ▸ qyd (Dt.keep M.bel _ hrd))) fun w7 hb6 M a A => ?_
  refine sdm A λa A↦?_
  refine sdo A (zy M xi rfl 0 rfl (cs := [iV d.k, iV d.n, bV d.y.q.b1, .slice d.y.o1 d.y.q.t1.length d.y.c1, .slice d.y.o2 d.y.q.q1.length d.y.c2, bV d.y.q.b2, .slice d.y.o3 d.y.q.t2.length d.y.c3, .slice d.y.o4 d.y.q.q2.length d.y.c4, .string d.s, .slice d.ro d.rl.length d.rc, .slice d.lo ts.length d.lc]) rfl rfl) λa A↦?_
  rcases tf (xl zl (Dt.mk d ts).tr) with hb8 | hb8
  ·
   refine gcl A M (ef rfl rfl) ((hb8 ▸ qhb (Dt.mk d ts) (Dt.keep M.bel _ hrd) (hT.below M.bel))) fun w10 hb9 M a A => ?_
   refine sdk (v := bV true) A λa A↦?_
   refine sda A λa A↦?_
   refine qa (hK4 _ _ (wr1 hret A ?_))
   exact ⟨by unfold ve; simp_all, M.bel⟩
  ·
   refine gcl A M (ef rfl rfl) ((hb8 ▸ qhb (Dt.mk d ts) (Dt.keep M.bel _ hrd) (hT.below M.bel))) fun w12 hb11 M a A => ?_
   refine sdk (v := bV false) A λa A↦?_
   refine sda A λa A↦?_
   refine qa (hK4 _ _ (wr1 hret A ?_))
   exact ⟨by unfold ve; simp_all, M.bel⟩
 ·
  refine gcl A M (ef rfl rfl) ((hb5 ▸ qyd (Dt.keep M.bel _ hrd))) fun w14 hb13 M a A => ?_
  refine sdm A λa A↦?_
  iterate 2 refine qm A rfl rfl rfl λa A↦?_
  refine sdk (v := bV false) A λa A↦?_
  refine sda A λa A↦?_
  refine qa (hK4 _ _ (wr1 hret A ?_))
  exact ⟨by unfold ve; simp_all, M.bel⟩
theorem sound_any {w : World} {t : Dt} (hrd : t.rd w) (hT : Tabs8 w) : Calls Tryz.prog 18 #[.agg t.cells.toArray] w fun e w' => e = .returned (bV (ve zl t.tr)) ∧ Below w.heap.size w w' := by
 obtain ⟨d, ts⟩ := t
 exact zkj hrd hT
theorem qaj {w w5 w' : World} (h : w.heap.size ≤ w5.heap.size) : made w5 w' ⊆ made w w' := fun c hc => by
  obtain ⟨b, o, rfl, h1, h2⟩ := ue hc
  have hlt := (Array.getElem?_eq_some_iff.1 h2).1
  exact qei (by omega) (by omega) h2
theorem Its.ok {w0 : World} {t : Dt} {xs : List Dt} {n : Nat} (h : Its w0 t xs) (hb : t.tr.bulk ≤ n + 1) (k : Nat) : ItOk w0 n (xs.drop k) := ⟨fun x hx => h.rd x (qkg hx), fun x hx => h.sh x (qkg hx), fun x hx => by have := h.lt x (qkg hx); omega⟩
theorem Its.ok0 {w0 : World} {t : Dt} {xs : List Dt} {n : Nat} (h : Its w0 t xs) (hb : t.tr.bulk ≤ n + 1) : ItOk w0 n xs := ⟨h.rd, h.sh, fun x hx => by have := h.lt x hx; omega⟩
theorem Its.as {w0 : World} {t : Dt} {xs : List Dt} (h : Its w0 t xs) (ha : (zw t.tr).isSome = true) : zw t.tr = some (xs.map Dt.tr) := by
  obtain ⟨l, hl⟩ := Option.isSome_iff_exists.1 ha
  rw [hl, h.is l hl]
theorem vn {α : Type} {o : Option α} (h : o.isSome = false) : o = none := by simpa using h
theorem zpc {w0 w : World} {n : Nat} {t : Dt} (h0 : Below w0.heap.size w0 w) (ht : t.rd w0) (hs : xl zl t.tr = true) (hb : t.tr.bulk ≤ n + 1) (hn : n + 1 ≤ 4000000) (ih : Subs n) : Calls Tryz.prog 119 #[.agg (t.d.cells t.ts.length).toArray] w fun e w' => ∃ fv, e = .returned (.tuple #[fv, .bool (zx (n + 1) t.tr).isSome]) ∧ (∀ p, zx (n + 1) t.tr = some p → TV RN w0 (made w w') fv p) ∧ Below w.heap.size w w' := by
 have hM : Mg w w ([]) := Mg.start w
 refine qx (l := [(0, .agg (t.d.cells t.ts.length).toArray)]) Tryz.func119 rfl Tryz.ntmps119 rfl rfl ?_
 intro Q hret hnorm hP a hA
 refine wp_seq_k (fun K1 hK1 => ?_)
 refine wp_region_lit ?_
 refine jl (vs := (t.d.cells t.ts.length)) (t := 30) hA hM rfl rfl rfl (fun g => .pointer (some ⟨g, 0, none⟩)) (zd rfl rfl) (by decide) ?_
 intro g2 w3 hM a hA
 refine qb hA rfl rfl rfl (qe rfl) ?_
 intro a hA
 refine qb hA rfl rfl rfl (qe rfl) ?_
 intro a hA
 refine qa ?_
 refine hK1 _ _ ?_
 refine wp_seq_k (fun K4 hK4 => ?_)
 refine wp_seq_k (fun K5 hK5 => ?_)
 refine wp_region_lit ?_
 refine qb hA rfl rfl rfl (zy hM xi rfl 0 rfl (cs := (t.d.cells t.ts.length)) rfl rfl) ?_
 intro a hA
 rcases Bool.eq_false_or_eq_true ((jb t.tr).isSome) with hb6 | hb6
 · refine qz hA rfl rfl rfl (qk rfl rfl (fun w => by kernel_rfl)) ((hb6 ▸ qaa (Dt.keep (h0.trans (hM.bel.mono h0.size)) _ ht))) ?_
   rintro _ w8 ⟨rfl, hb7⟩
   replace hM := hM.call hb7
   refine ⟨_, rfl, ?_⟩
   intro a hA
   refine qb hA rfl rfl rfl (qg rfl) ?_
   intro a hA
   refine qb (v := .int .i64 ((zu t.d.y.q).1)) hA rfl rfl rfl (qi (vs := [.int .i64 ((zu t.d.y.q).1), .bool true]) rfl rfl) ?_
   intro a hA
   refine qb (v := .bool true) hA rfl rfl rfl (qi (vs := [.int .i64 ((zu t.d.y.q).1), .bool true]) rfl rfl) ?_
   intro a hA
   refine jl (vs := [.int .i64 0]) (t := 3) hA hM rfl rfl rfl (fun g => .pointer (some ⟨g, 0, none⟩)) (zv (z := .int .i64 0) (by kernel_rfl) rfl) (by decide) ?_
   intro g9 w10 hM a hA
   refine ja (us := [.int .i64 ((zu t.d.y.q).1)]) (L' := (.obj g9 (.cells #[.int .i64 ((zu t.d.y.q).1)] 3) :: .obj g2 (.cells (t.d.cells t.ts.length).toArray 30) :: [])) hA hM rfl rfl (zq rfl rfl rfl (by kernel_rfl) hM 0 rfl rfl rfl) 0 rfl rfl rfl ?_
   intro w11 hM
   refine qb hA rfl rfl rfl (qe rfl) ?_
   intro a hA
   refine qa ?_
   refine hK5 _ _ ?_
   refine wp_seq_k (fun K12 hK12 => ?_)
   refine wp_region_lit ?_
   refine qb hA rfl rfl rfl (qg rfl) ?_
   intro a hA
   refine qa ?_
   refine hK12 _ _ ?_
   refine wp_cond_true (hA.ev rfl) ?_
   refine wp_seq_k (fun K13 hK13 => ?_)
   refine wp_region_lit ?_
   refine qb (v := .func (.func 148) #[] [.pointer (some ⟨g9, 0, none⟩)].toArray) hA rfl rfl rfl (jj rfl) ?_
   intro a hA
   refine qb hA rfl rfl rfl (qe rfl) ?_
   intro a hA
   refine qb hA rfl rfl rfl (qe rfl) ?_
   intro a hA
   refine qa ?_
   refine hK13 _ _ ?_
   refine wp_ret ?_
   refine hret _ _ ?_
   refine je (v := .tuple #[.func (.func 148) #[] [.pointer (some ⟨g9, 0, none⟩)].toArray, .bool true]) hA rfl (.cons (qj rfl) (.cons (qj rfl) .nil)) rfl ?_
   obtain ⟨z9, hz9⟩ := Option.isSome_iff_exists.1 hb6
   have e8 := zka hz9
   rw [e8] at hM
   have e9 := qic (n := n) hz9
   exact ⟨_, by rw [e9]; rfl, fun p hp => (by rw [e9] at hp; cases hp; exact tvE hM), hM.bel⟩
 · refine qz hA rfl rfl rfl (qk rfl rfl (fun w => by kernel_rfl)) ((hb6 ▸ qaa (Dt.keep (h0.trans (hM.bel.mono h0.size)) _ ht))) ?_
   rintro _ w15 ⟨rfl, hb14⟩
   replace hM := hM.call hb14
   refine ⟨_, rfl, ?_⟩
   intro a hA
   refine qb hA rfl rfl rfl (qg rfl) ?_
   intro a hA
   refine qb (v := .int .i64 ((zu t.d.y.q).1)) hA rfl rfl rfl (qi (vs := [.int .i64 ((zu t.d.y.q).1), .bool false]) rfl rfl) ?_
   intro a hA
   refine qb (v := .bool false) hA rfl rfl rfl (qi (vs := [.int .i64 ((zu t.d.y.q).1), .bool false]) rfl rfl) ?_
   intro a hA
   refine jl (vs := [.int .i64 0]) (t := 3) hA hM rfl rfl rfl (fun g => .pointer (some ⟨g, 0, none⟩)) (zv (z := .int .i64 0) (by kernel_rfl) rfl) (by decide) ?_
   intro g16 w17 hM a hA
   refine ja (us := [.int .i64 ((zu t.d.y.q).1)]) (L' := (.obj g16 (.cells #[.int .i64 ((zu t.d.y.q).1)] 3) :: .obj g2 (.cells (t.d.cells t.ts.length).toArray 30) :: [])) hA hM rfl rfl (zq rfl rfl rfl (by kernel_rfl) hM 0 rfl rfl rfl) 0 rfl rfl rfl ?_
   intro w18 hM
   refine qb hA rfl rfl rfl (qe rfl) ?_
   intro a hA
   refine qa ?_
   refine hK5 _ _ ?_
   refine wp_seq_k (fun K19 hK19 => ?_)
   refine wp_region_lit ?_
   refine qb hA rfl rfl rfl (qg rfl) ?_
   intro a hA
   refine qa ?_
   refine hK19 _ _ ?_
   refine wp_cond_false (hA.ev rfl) ?_
   refine wp_skip ?_
   refine hK4 _ _ ?_
   refine wp_seq_k (fun K20 hK20 => ?_)
   refine wp_region_lit ?_
   refine qb hA rfl rfl rfl (zy hM xi rfl 1 rfl (cs := (t.d.cells t.ts.length)) rfl rfl) ?_
   intro a hA
   rcases Bool.eq_false_or_eq_true ((zw t.tr).isSome) with hb21 | hb21
   · refine qz hA rfl rfl rfl (qk rfl rfl (fun w => by kernel_rfl)) ((hb21 ▸ qca (h0.trans (hM.bel.mono h0.size)) ht hs (by omega))) ?_
     rintro _ w25 ⟨so22, ca23, xs, rfl, hIt, hM24⟩
     replace hM : Mg w w25 (.row 30 11 (.slice so22 xs.length ca23) xs.length (cellsOf xs) :: .obj g16 (.cells #[.int .i64 ((zu t.d.y.q).1)] 3) :: .obj g2 (.cells (t.d.cells t.ts.length).toArray 30) :: []) := (hM.both hM24 (qr (by simp) (qr (by simp) (qw za))) (qr (by simp) (qw za)))
     refine ⟨_, rfl, ?_⟩
     intro a hA
     refine qb hA rfl rfl rfl (qg rfl) ?_
     intro a hA
     refine qb (v := .slice so22 xs.length ca23) hA rfl rfl rfl (qi (vs := [.slice so22 xs.length ca23, .bool true]) rfl rfl) ?_
     intro a hA
     refine qb (v := .bool true) hA rfl rfl rfl (qi (vs := [.slice so22 xs.length ca23, .bool true]) rfl rfl) ?_
     intro a hA
     refine qb hA rfl rfl rfl (qe rfl) ?_
     intro a hA
     refine qb hA rfl rfl rfl (qe rfl) ?_
     intro a hA
     refine qa ?_
     refine hK20 _ _ ?_
     refine wp_seq_k (fun K26 hK26 => ?_)
     refine wp_region_lit ?_
     refine qb hA rfl rfl rfl (qg rfl) ?_
     intro a hA
     rcases Bool.eq_false_or_eq_true (isW xs) with hb27 | hb27
     · refine qz hA rfl rfl rfl (qk rfl rfl (fun w => by kernel_rfl)) (qsi (jr (hM.has 0 rfl)).1 (fun x hx => Dt.keep (h0.trans (hM.bel.mono h0.size)) _ (hIt.rd x hx)) (by have := hIt.le; omega) hb27) ?_
       rintro _ w29 ⟨rfl, hb28⟩
       replace hM := hM.call hb28
       refine ⟨_, rfl, ?_⟩
       intro a hA
       refine qb hA rfl rfl rfl (qg rfl) ?_
       intro a hA
       refine qb (v := .string (zg xs)) hA rfl rfl rfl (qi (vs := [.string (zg xs), .slice ((if ca23 = 1 then so22 else so22.map (·.add (1 * 11)))) ((xs.drop 1).length) ((ca23 - 1)), .bool true]) rfl rfl) ?_
       intro a hA
       refine qb (v := .slice ((if ca23 = 1 then so22 else so22.map (·.add (1 * 11)))) ((xs.drop 1).length) ((ca23 - 1))) hA rfl rfl rfl (qi (vs := [.string (zg xs), .slice ((if ca23 = 1 then so22 else so22.map (·.add (1 * 11)))) ((xs.drop 1).length) ((ca23 - 1)), .bool true]) rfl rfl) ?_
       intro a hA
       refine qb (v := .bool true) hA rfl rfl rfl (qi (vs := [.string (zg xs), .slice ((if ca23 = 1 then so22 else so22.map (·.add (1 * 11)))) ((xs.drop 1).length) ((ca23 - 1)), .bool true]) rfl rfl) ?_
       intro a hA
       refine qb hA rfl rfl rfl (qe rfl) ?_
       intro a hA
       refine qb hA rfl rfl rfl (qe rfl) ?_
       intro a hA
       refine qb hA rfl rfl rfl (qe rfl) ?_
       intro a hA
       refine qa ?_
       refine hK26 _ _ ?_
       refine wp_seq_k (fun K30 hK30 => ?_)
       refine wp_block ?_
       refine wp_seq_k (fun K31 hK31 => ?_)
       refine wp_region_lit ?_
       refine qb hA rfl rfl rfl (qg rfl) ?_
       intro a hA
       refine qb (v := .bool false) hA rfl rfl rfl (ql rfl qp) ?_
       intro a hA
       refine qb hA rfl rfl rfl (qg rfl) ?_
       intro a hA
       refine qb hA rfl rfl rfl (qg rfl) ?_
       intro a hA
       refine qb (v := .bool false) hA rfl rfl rfl (ql rfl qp) ?_
       intro a hA
       refine qb (v := .bool false) hA rfl rfl rfl (zm rfl rfl rfl rfl) ?_
       intro a hA
       refine qb hA rfl rfl rfl (qe rfl) ?_
       intro a hA
       refine qa ?_
       refine hK31 _ _ ?_
       refine wp_cond_false (hA.ev rfl) ?_
       refine wp_seq_k (fun K32 hK32 => ?_)
       refine wp_region_lit ?_
       refine qb hA rfl rfl rfl (qg rfl) ?_
       intro a hA
       rcases Bool.eq_false_or_eq_true (decide (zg xs = ⟨#[62, 61]⟩)) with hb33 | hb33
       · have hb33' := of_decide_eq_true hb33
         refine qb (v := .bool true) hA rfl rfl rfl (qh rfl rfl (fun w => (zn Tryz.underlying9 w).trans (by rw [hb33] <;> rfl))) ?_
         intro a hA
         refine qb hA rfl rfl rfl (qe rfl) ?_
         intro a hA
         refine qa ?_
         refine hK32 _ _ ?_
         refine wp_cond_true (hA.ev rfl) ?_
         refine wp_seq_k (fun K34 hK34 => ?_)
         refine wp_region_lit ?_
         refine qb hA rfl rfl rfl (qg rfl) ?_
         intro a hA
         have hz36 := hM.bel.size
         refine qz hA rfl rfl rfl (qk rfl rfl (fun w => by kernel_rfl)) (qsj (h0.trans (hM.bel.mono h0.size)) ((jr (hM.has 0 rfl)).1.drop ca23 1 (qhj (hM.has 0 rfl))) (hIt.ok hb 1) (by have := hIt.le; rw [List.length_drop]; omega)) ?_
         rintro _ w37 ⟨fv9, rfl, hT9, hb35⟩
         replace hM := hM.call hb35
         refine ⟨_, rfl, ?_⟩
         intro a hA
         refine qb (v := fv9) hA rfl rfl rfl (qi (vs := [fv9, .bool (((jv ((xs.drop 1).map fun x : Dt => jb x.tr)).map fun b => fun z => decide (b ≤ z)).isSome)]) rfl rfl) ?_
         intro a hA
         refine qb (v := .bool (((jv ((xs.drop 1).map fun x : Dt => jb x.tr)).map fun b => fun z => decide (b ≤ z)).isSome)) hA rfl rfl rfl (qi (vs := [fv9, .bool (((jv ((xs.drop 1).map fun x : Dt => jb x.tr)).map fun b => fun z => decide (b ≤ z)).isSome)]) rfl rfl) ?_
         intro a hA
         refine qb hA rfl rfl rfl (qe rfl) ?_
         intro a hA
         refine qb hA rfl rfl rfl (qe rfl) ?_
         intro a hA
         refine qa ?_
         refine hK34 _ _ ?_
         refine wp_ret ?_
         refine hret _ _ ?_
         refine je (v := .tuple #[fv9, .bool (((jv ((xs.drop 1).map fun x : Dt => jb x.tr)).map fun b => fun z => decide (b ≤ z)).isSome)]) hA rfl (.cons (qj rfl) (.cons (qj rfl) .nil)) rfl ?_
         have hn9 := vn hb6
         have ha9 := hIt.as hb21
         have hw38 : zg xs = wGe := of_decide_eq_true hb33
         have e9 := (un (n := n) hn9 ha9 hb27).trans (by rw [if_pos hw38])
         exact ⟨_, by rw [e9], fun p hp => (hT9 p (by rw [e9] at hp; exact hp)).sub (qaj hz36), hM.bel⟩
       · have hb33' := of_decide_eq_false hb33
         refine qb (v := .bool false) hA rfl rfl rfl (qh rfl rfl (fun w => (zn Tryz.underlying9 w).trans (by rw [hb33] <;> rfl))) ?_
         intro a hA
         refine qb hA rfl rfl rfl (qe rfl) ?_
         intro a hA
         refine qa ?_
         refine hK32 _ _ ?_
         refine wp_cond_false (hA.ev rfl) ?_
         refine wp_seq_k (fun K39 hK39 => ?_)
         refine wp_region_lit ?_
         refine qb hA rfl rfl rfl (qg rfl) ?_
         intro a hA
         rcases Bool.eq_false_or_eq_true (decide (zg xs = ⟨#[60, 61]⟩)) with hb40 | hb40
         · have hb40' := of_decide_eq_true hb40
           refine qb (v := .bool true) hA rfl rfl rfl (qh rfl rfl (fun w => (zn Tryz.underlying9 w).trans (by rw [hb40] <;> rfl))) ?_
           intro a hA
           refine qb hA rfl rfl rfl (qe rfl) ?_
           intro a hA
           refine qa ?_
           refine hK39 _ _ ?_
           refine wp_cond_true (hA.ev rfl) ?_
           refine wp_seq_k (fun K41 hK41 => ?_)
           refine wp_region_lit ?_
           refine qb hA rfl rfl rfl (qg rfl) ?_
           intro a hA
           have hz43 := hM.bel.size
           refine qz hA rfl rfl rfl (qk rfl rfl (fun w => by kernel_rfl)) (qta (h0.trans (hM.bel.mono h0.size)) ((jr (hM.has 0 rfl)).1.drop ca23 1 (qhj (hM.has 0 rfl))) (hIt.ok hb 1) (by have := hIt.le; rw [List.length_drop]; omega)) ?_
           rintro _ w44 ⟨fv9, rfl, hT9, hb42⟩
           replace hM := hM.call hb42
           refine ⟨_, rfl, ?_⟩
           intro a hA
           refine qb (v := fv9) hA rfl rfl rfl (qi (vs := [fv9, .bool (((jv ((xs.drop 1).map fun x : Dt => jb x.tr)).map fun b => fun z => decide (z ≤ b)).isSome)]) rfl rfl) ?_
           intro a hA
           refine qb (v := .bool (((jv ((xs.drop 1).map fun x : Dt => jb x.tr)).map fun b => fun z => decide (z ≤ b)).isSome)) hA rfl rfl rfl (qi (vs := [fv9, .bool (((jv ((xs.drop 1).map fun x : Dt => jb x.tr)).map fun b => fun z => decide (z ≤ b)).isSome)]) rfl rfl) ?_
           intro a hA
           refine qb hA rfl rfl rfl (qe rfl) ?_
           intro a hA
           refine qb hA rfl rfl rfl (qe rfl) ?_
           intro a hA
           refine qa ?_
           refine hK41 _ _ ?_
           refine wp_ret ?_
           refine hret _ _ ?_
           refine je (v := .tuple #[fv9, .bool (((jv ((xs.drop 1).map fun x : Dt => jb x.tr)).map fun b => fun z => decide (z ≤ b)).isSome)]) hA rfl (.cons (qj rfl) (.cons (qj rfl) .nil)) rfl ?_
           have hn9 := vn hb6
           have ha9 := hIt.as hb21
           have hw45 : ¬ zg xs = wGe := of_decide_eq_false hb33
           have hw46 : zg xs = wLe := of_decide_eq_true hb40
           have e9 := (un (n := n) hn9 ha9 hb27).trans (by rw [if_neg hw45, if_pos hw46])
           exact ⟨_, by rw [e9], fun p hp => (hT9 p (by rw [e9] at hp; exact hp)).sub (qaj hz43), hM.bel⟩
         · have hb40' := of_decide_eq_false hb40
           refine qb (v := .bool false) hA rfl rfl rfl (qh rfl rfl (fun w => (zn Tryz.underlying9 w).trans (by rw [hb40] <;> rfl))) ?_
           intro a hA
           refine qb hA rfl rfl rfl (qe rfl) ?_
           intro a hA
           refine qa ?_
           refine hK39 _ _ ?_
           refine wp_cond_false (hA.ev rfl) ?_
           refine wp_skip ?_
           refine hK30 _ _ ?_
           refine wp_seq_k (fun K47 hK47 => ?_)
           refine wp_region_lit ?_
           refine qb hA rfl rfl rfl (qg rfl) ?_
           intro a hA
           refine qb hA rfl rfl rfl (qg rfl) ?_
           intro a hA
           have hz49 := hM.bel.size
           refine qz hA rfl rfl rfl (qk rfl rfl (fun w => by kernel_rfl)) (qya (h0.trans (hM.bel.mono h0.size)) ((jr (hM.has 0 rfl)).1.drop ca23 1 (qhj (hM.has 0 rfl))) (hIt.ok hb 1) (by have := hIt.le; rw [List.length_drop]; omega) ih) ?_
           rintro _ w50 ⟨fv9, rfl, hT9, hb48⟩
           replace hM := hM.call hb48
           refine ⟨_, rfl, ?_⟩
           intro a hA
           refine qb (v := fv9) hA rfl rfl rfl (qi (vs := [fv9, .bool ((jg (zg xs) ((xs.drop 1).map fun x : Dt => zx n x.tr)).isSome)]) rfl rfl) ?_
           intro a hA
           refine qb (v := .bool ((jg (zg xs) ((xs.drop 1).map fun x : Dt => zx n x.tr)).isSome)) hA rfl rfl rfl (qi (vs := [fv9, .bool ((jg (zg xs) ((xs.drop 1).map fun x : Dt => zx n x.tr)).isSome)]) rfl rfl) ?_
           intro a hA
           refine qb hA rfl rfl rfl (qe rfl) ?_
           intro a hA
           refine qb hA rfl rfl rfl (qe rfl) ?_
           intro a hA
           refine qa ?_
           refine hK47 _ _ ?_
           refine wp_ret ?_
           refine hret _ _ ?_
           refine je (v := .tuple #[fv9, .bool ((jg (zg xs) ((xs.drop 1).map fun x : Dt => zx n x.tr)).isSome)]) hA rfl (.cons (qj rfl) (.cons (qj rfl) .nil)) rfl ?_
           have hn9 := vn hb6
           have ha9 := hIt.as hb21
           have hw51 : ¬ zg xs = wGe := of_decide_eq_false hb33
           have hw52 : ¬ zg xs = wLe := of_decide_eq_false hb40
           have e9 := (un (n := n) hn9 ha9 hb27).trans (by rw [if_neg hw51, if_neg hw52])
           exact ⟨_, by rw [e9], fun p hp => (hT9 p (by rw [e9] at hp; exact hp)).sub (qaj hz49), hM.bel⟩
     · refine qz hA rfl rfl rfl (qk rfl rfl (fun w => by kernel_rfl)) (zbh (jr (hM.has 0 rfl)).1 (fun x hx => Dt.keep (h0.trans (hM.bel.mono h0.size)) _ (hIt.rd x hx)) (by have := hIt.le; omega) hb27) ?_
       rintro _ w54 ⟨rfl, hb53⟩
       replace hM := hM.call hb53
       refine ⟨_, rfl, ?_⟩
       intro a hA
       refine qb hA rfl rfl rfl (qg rfl) ?_
       intro a hA
       refine qb (v := .string (⟨#[]⟩)) hA rfl rfl rfl (qi (vs := [.string (⟨#[]⟩), .slice none 0 0, .bool false]) rfl rfl) ?_
       intro a hA
       refine qb (v := .slice none 0 0) hA rfl rfl rfl (qi (vs := [.string (⟨#[]⟩), .slice none 0 0, .bool false]) rfl rfl) ?_
       intro a hA
       refine qb (v := .bool false) hA rfl rfl rfl (qi (vs := [.string (⟨#[]⟩), .slice none 0 0, .bool false]) rfl rfl) ?_
       intro a hA
       refine qb hA rfl rfl rfl (qe rfl) ?_
       intro a hA
       refine qb hA rfl rfl rfl (qe rfl) ?_
       intro a hA
       refine qb hA rfl rfl rfl (qe rfl) ?_
       intro a hA
       refine qa ?_
       refine hK26 _ _ ?_
       refine wp_seq_k (fun K55 hK55 => ?_)
       refine wp_block ?_
       refine wp_seq_k (fun K56 hK56 => ?_)
       refine wp_region_lit ?_
       refine qb hA rfl rfl rfl (qg rfl) ?_
       intro a hA
       refine qb (v := .bool false) hA rfl rfl rfl (ql rfl qp) ?_
       intro a hA
       refine qb hA rfl rfl rfl (qg rfl) ?_
       intro a hA
       refine qb hA rfl rfl rfl (qg rfl) ?_
       intro a hA
       refine qb (v := .bool true) hA rfl rfl rfl (ql rfl qp) ?_
       intro a hA
       refine qb (v := .bool true) hA rfl rfl rfl (zm rfl rfl rfl rfl) ?_
       intro a hA
       refine qb hA rfl rfl rfl (qe rfl) ?_
       intro a hA
       refine qa ?_
       refine hK56 _ _ ?_
       refine wp_cond_true (hA.ev rfl) ?_
       refine wp_seq_k (fun K57 hK57 => ?_)
       refine wp_region_lit ?_
       refine qb hA rfl rfl rfl (qe rfl) ?_
       intro a hA
       refine qb hA rfl rfl rfl (qe rfl) ?_
       intro a hA
       refine qa ?_
       refine hK57 _ _ ?_
       refine wp_ret ?_
       refine hret _ _ ?_
       refine je (v := .tuple #[.nilFunc, .bool false]) hA rfl (.cons (qj rfl) (.cons (qj rfl) .nil)) rfl ?_
       have hn9 := vn hb6
       have ha9 := hIt.as hb21
       have e9 := qid (n := n) hn9 ha9 hb27
       exact ⟨_, by rw [e9]; rfl, fun p hp => (by rw [e9] at hp; cases hp), hM.bel⟩
   · refine qz hA rfl rfl rfl (qk rfl rfl (fun w => by kernel_rfl)) ((hb21 ▸ qca (h0.trans (hM.bel.mono h0.size)) ht hs (by omega))) ?_
     rintro _ w61 ⟨so58, ca59, xs, rfl, hIt, hM60⟩
     replace hM : Mg w w61 (.row 30 11 (.slice so58 xs.length ca59) xs.length (cellsOf xs) :: .obj g16 (.cells #[.int .i64 ((zu t.d.y.q).1)] 3) :: .obj g2 (.cells (t.d.cells t.ts.length).toArray 30) :: []) := (hM.both hM60 (qr (by simp) (qr (by simp) (qw za))) (qr (by simp) (qw za)))
     refine ⟨_, rfl, ?_⟩
     intro a hA
     refine qb hA rfl rfl rfl (qg rfl) ?_
     intro a hA
     refine qb (v := .slice so58 xs.length ca59) hA rfl rfl rfl (qi (vs := [.slice so58 xs.length ca59, .bool false]) rfl rfl) ?_
     intro a hA
     refine qb (v := .bool false) hA rfl rfl rfl (qi (vs := [.slice so58 xs.length ca59, .bool false]) rfl rfl) ?_
     intro a hA
     refine qb hA rfl rfl rfl (qe rfl) ?_
     intro a hA
     refine qb hA rfl rfl rfl (qe rfl) ?_
     intro a hA
     refine qa ?_
     refine hK20 _ _ ?_
     refine wp_seq_k (fun K62 hK62 => ?_)
     refine wp_region_lit ?_
     refine qb hA rfl rfl rfl (qg rfl) ?_
     intro a hA
     rcases Bool.eq_false_or_eq_true (isW xs) with hb63 | hb63
     · refine qz hA rfl rfl rfl (qk rfl rfl (fun w => by kernel_rfl)) (qsi (jr (hM.has 0 rfl)).1 (fun x hx => Dt.keep (h0.trans (hM.bel.mono h0.size)) _ (hIt.rd x hx)) (by have := hIt.le; omega) hb63) ?_
       rintro _ w65 ⟨rfl, hb64⟩
       replace hM := hM.call hb64
       refine ⟨_, rfl, ?_⟩
       intro a hA
       refine qb hA rfl rfl rfl (qg rfl) ?_
       intro a hA
       refine qb (v := .string (zg xs)) hA rfl rfl rfl (qi (vs := [.string (zg xs), .slice ((if ca59 = 1 then so58 else so58.map (·.add (1 * 11)))) ((xs.drop 1).length) ((ca59 - 1)), .bool true]) rfl rfl) ?_
       intro a hA
       refine qb (v := .slice ((if ca59 = 1 then so58 else so58.map (·.add (1 * 11)))) ((xs.drop 1).length) ((ca59 - 1))) hA rfl rfl rfl (qi (vs := [.string (zg xs), .slice ((if ca59 = 1 then so58 else so58.map (·.add (1 * 11)))) ((xs.drop 1).length) ((ca59 - 1)), .bool true]) rfl rfl) ?_
       intro a hA
       refine qb (v := .bool true) hA rfl rfl rfl (qi (vs := [.string (zg xs), .slice ((if ca59 = 1 then so58 else so58.map (·.add (1 * 11)))) ((xs.drop 1).length) ((ca59 - 1)), .bool true]) rfl rfl) ?_
       intro a hA
       refine qb hA rfl rfl rfl (qe rfl) ?_
       intro a hA
       refine qb hA rfl rfl rfl (qe rfl) ?_
       intro a hA
       refine qb hA rfl rfl rfl (qe rfl) ?_
       intro a hA
       refine qa ?_
       refine hK62 _ _ ?_
       refine wp_seq_k (fun K66 hK66 => ?_)
       refine wp_block ?_
       refine wp_seq_k (fun K67 hK67 => ?_)
       refine wp_region_lit ?_
       refine qb hA rfl rfl rfl (qg rfl) ?_
       intro a hA
       refine qb (v := .bool true) hA rfl rfl rfl (ql rfl qp) ?_
       intro a hA
       refine qb hA rfl rfl rfl (qg rfl) ?_
       intro a hA
       refine qm hA rfl rfl rfl ?_
       intro a hA
       refine qm hA rfl rfl rfl ?_
       intro a hA
       refine qb (v := .bool true) hA rfl rfl rfl (zm rfl rfl rfl rfl) ?_
       intro a hA
       refine qb hA rfl rfl rfl (qe rfl) ?_
       intro a hA
       refine qa ?_
       refine hK67 _ _ ?_
       refine wp_cond_true (hA.ev rfl) ?_
       refine wp_seq_k (fun K68 hK68 => ?_)
       refine wp_region_lit ?_
       refine qb hA rfl rfl rfl (qe rfl) ?_
       intro a hA
       refine qb hA rfl rfl rfl (qe rfl) ?_
       intro a hA
       refine qa ?_
       refine hK68 _ _ ?_
       refine wp_ret ?_
       refine hret _ _ ?_
       refine je (v := .tuple #[.nilFunc, .bool false]) hA rfl (.cons (qj rfl) (.cons (qj rfl) .nil)) rfl ?_
       have hn9 := vn hb6
       have e9 := qfc (n := n) hn9 (vn hb21)
       exact ⟨_, by rw [e9]; rfl, fun p hp => (by rw [e9] at hp; cases hp), hM.bel⟩
     · refine qz hA rfl rfl rfl (qk rfl rfl (fun w => by kernel_rfl)) (zbh (jr (hM.has 0 rfl)).1 (fun x hx => Dt.keep (h0.trans (hM.bel.mono h0.size)) _ (hIt.rd x hx)) (by have := hIt.le; omega) hb63) ?_
       rintro _ w70 ⟨rfl, hb69⟩
       replace hM := hM.call hb69
       refine ⟨_, rfl, ?_⟩
       intro a hA
       refine qb hA rfl rfl rfl (qg rfl) ?_
       intro a hA
       refine qb (v := .string (⟨#[]⟩)) hA rfl rfl rfl (qi (vs := [.string (⟨#[]⟩), .slice none 0 0, .bool false]) rfl rfl) ?_
       intro a hA
       refine qb (v := .slice none 0 0) hA rfl rfl rfl (qi (vs := [.string (⟨#[]⟩), .slice none 0 0, .bool false]) rfl rfl) ?_
       intro a hA
       refine qb (v := .bool false) hA rfl rfl rfl (qi (vs := [.string (⟨#[]⟩), .slice none 0 0, .bool false]) rfl rfl) ?_
       intro a hA
       refine qb hA rfl rfl rfl (qe rfl) ?_
       intro a hA
       refine qb hA rfl rfl rfl (qe rfl) ?_
       intro a hA
       refine qb hA rfl rfl rfl (qe rfl) ?_
       intro a hA
       refine qa ?_
       refine hK62 _ _ ?_
       refine wp_seq_k (fun K71 hK71 => ?_)
       refine wp_block ?_
       refine wp_seq_k (fun K72 hK72 => ?_)
       refine wp_region_lit ?_
       refine qb hA rfl rfl rfl (qg rfl) ?_
       intro a hA
       refine qb (v := .bool true) hA rfl rfl rfl (ql rfl qp) ?_
       intro a hA
       refine qb hA rfl rfl rfl (qg rfl) ?_
       intro a hA
       refine qm hA rfl rfl rfl ?_
       intro a hA
       refine qm hA rfl rfl rfl ?_
       intro a hA
       refine qb (v := .bool true) hA rfl rfl rfl (zm rfl rfl rfl rfl) ?_
       intro a hA
       refine qb hA rfl rfl rfl (qe rfl) ?_
       intro a hA
       refine qa ?_
       refine hK72 _ _ ?_
       refine wp_cond_true (hA.ev rfl) ?_
       refine wp_seq_k (fun K73 hK73 => ?_)
       refine wp_region_lit ?_
       refine qb hA rfl rfl rfl (qe rfl) ?_
       intro a hA
       refine qb hA rfl rfl rfl (qe rfl) ?_
       intro a hA
       refine qa ?_
       refine hK73 _ _ ?_
       refine wp_ret ?_
       refine hret _ _ ?_
       refine je (v := .tuple #[.nilFunc, .bool false]) hA rfl (.cons (qj rfl) (.cons (qj rfl) .nil)) rfl ?_
       have hn9 := vn hb6
       have e9 := qfc (n := n) hn9 (vn hb21)
       exact ⟨_, by rw [e9]; rfl, fun p hp => (by rw [e9] at hp; cases hp), hM.bel⟩
theorem qye : ∀ n : Nat, n ≤ 4000000 → Subs n
  | 0, _ => by intro h0 ht hs hb; exact absurd (Nat.le_trans (yp _) hb) (Nat.not_succ_le_zero _)
  | n + 1, hn => by intro h0 ht hs hb b he; exact he ▸ zpc h0 ht hs hb hn (qye n (by omega))
theorem zpd {w0 w : World} {n : Nat} {t : Dt} (h0 : Below w0.heap.size w0 w) (ht : t.rd w0) (hs : xl zl t.tr = true) (hb : t.tr.bulk ≤ n + 1) (hn : n + 1 ≤ 4000000) (ih : Refs n) (ihs : Subs n) : Calls Tryz.prog 36 #[.agg (t.d.cells t.ts.length).toArray] w fun e w' => ∃ fv, e = .returned (.tuple #[fv, .bool (jk (n + 1) t.tr).isSome]) ∧ (∀ p, jk (n + 1) t.tr = some p → TV RV w0 (made w w') fv p) ∧ Below w.heap.size w w' := by
 have hM : Mg w w ([]) := Mg.start w
 refine qx (l := [(0, .agg (t.d.cells t.ts.length).toArray)]) Tryz.func36 rfl Tryz.ntmps36 rfl rfl ?_
 intro Q hret hnorm hP a hA
 refine wp_seq_k (fun K1 hK1 => ?_)
 refine wp_region_lit ?_
 refine jl (vs := (t.d.cells t.ts.length)) (t := 30) hA hM rfl rfl rfl (fun g => .pointer (some ⟨g, 0, none⟩)) (zd rfl rfl) (by decide) ?_
 intro g2 w3 hM a hA
 refine qb hA rfl rfl rfl (qe rfl) ?_
 intro a hA
 refine qb hA rfl rfl rfl (qe rfl) ?_
 intro a hA
 refine qa ?_
 refine hK1 _ _ ?_
 refine wp_seq_k (fun K4 hK4 => ?_)
 refine wp_region_lit ?_
 refine qb hA rfl rfl rfl (zy hM xi rfl 0 rfl (cs := (t.d.cells t.ts.length)) rfl rfl) ?_
 intro a hA
 rcases Bool.eq_false_or_eq_true ((zw t.tr).isSome) with hb5 | hb5
 · refine qz hA rfl rfl rfl (qk rfl rfl (fun w => by kernel_rfl)) ((hb5 ▸ qca (h0.trans (hM.bel.mono h0.size)) ht hs (by omega))) ?_
   rintro _ w9 ⟨so6, ca7, xs, rfl, hIt, hM8⟩
   replace hM : Mg w w9 (.row 30 11 (.slice so6 xs.length ca7) xs.length (cellsOf xs) :: .obj g2 (.cells (t.d.cells t.ts.length).toArray 30) :: []) := (hM.both hM8 (qr (by simp) (qw za)) (qr (by simp) (qw za)))
   refine ⟨_, rfl, ?_⟩
   intro a hA
   refine qb hA rfl rfl rfl (qg rfl) ?_
   intro a hA
   refine qb (v := .slice so6 xs.length ca7) hA rfl rfl rfl (qi (vs := [.slice so6 xs.length ca7, .bool true]) rfl rfl) ?_
   intro a hA
   refine qb (v := .bool true) hA rfl rfl rfl (qi (vs := [.slice so6 xs.length ca7, .bool true]) rfl rfl) ?_
   intro a hA
   refine qb hA rfl rfl rfl (qe rfl) ?_
   intro a hA
   refine qb hA rfl rfl rfl (qe rfl) ?_
   intro a hA
   refine qa ?_
   refine hK4 _ _ ?_
   refine wp_seq_k (fun K10 hK10 => ?_)
   refine wp_seq_k (fun K11 hK11 => ?_)
   refine wp_region_lit ?_
   refine qb hA rfl rfl rfl (qg rfl) ?_
   intro a hA
   refine qb (v := .bool false) hA rfl rfl rfl (ql rfl qp) ?_
   intro a hA
   refine qa ?_
   refine hK11 _ _ ?_
   refine wp_cond_false (hA.ev rfl) ?_
   refine wp_skip ?_
   refine hK10 _ _ ?_
   refine wp_seq_k (fun K12 hK12 => ?_)
   refine wp_seq_k (fun K13 hK13 => ?_)
   refine wp_region_lit ?_
   refine qb hA rfl rfl rfl (qg rfl) ?_
   intro a hA
   rcases Bool.eq_false_or_eq_true (isW xs) with hb14 | hb14
   · refine qz hA rfl rfl rfl (qk rfl rfl (fun w => by kernel_rfl)) (qsi (jr (hM.has 0 rfl)).1 (fun x hx => Dt.keep (h0.trans (hM.bel.mono h0.size)) _ (hIt.rd x hx)) (by have := hIt.le; omega) hb14) ?_
     rintro _ w16 ⟨rfl, hb15⟩
     replace hM := hM.call hb15
     refine ⟨_, rfl, ?_⟩
     intro a hA
     refine qb hA rfl rfl rfl (qg rfl) ?_
     intro a hA
     refine qb (v := .string (zg xs)) hA rfl rfl rfl (qi (vs := [.string (zg xs), .slice ((if ca7 = 1 then so6 else so6.map (·.add (1 * 11)))) ((xs.drop 1).length) ((ca7 - 1)), .bool true]) rfl rfl) ?_
     intro a hA
     refine qb (v := .slice ((if ca7 = 1 then so6 else so6.map (·.add (1 * 11)))) ((xs.drop 1).length) ((ca7 - 1))) hA rfl rfl rfl (qi (vs := [.string (zg xs), .slice ((if ca7 = 1 then so6 else so6.map (·.add (1 * 11)))) ((xs.drop 1).length) ((ca7 - 1)), .bool true]) rfl rfl) ?_
     intro a hA
     refine qb (v := .bool true) hA rfl rfl rfl (qi (vs := [.string (zg xs), .slice ((if ca7 = 1 then so6 else so6.map (·.add (1 * 11)))) ((xs.drop 1).length) ((ca7 - 1)), .bool true]) rfl rfl) ?_
     intro a hA
     refine qb hA rfl rfl rfl (qe rfl) ?_
     intro a hA
     refine qb hA rfl rfl rfl (qe rfl) ?_
     intro a hA
     refine qb hA rfl rfl rfl (qe rfl) ?_
     intro a hA
     refine qa ?_
     refine hK13 _ _ ?_
     refine wp_seq_k (fun K17 hK17 => ?_)
     refine wp_region_lit ?_
     refine qb hA rfl rfl rfl (qg rfl) ?_
     intro a hA
     refine qa ?_
     refine hK17 _ _ ?_
     refine wp_cond_true (hA.ev rfl) ?_
     refine wp_seq_k (fun K18 hK18 => ?_)
     refine wp_region_lit ?_
     refine qb hA rfl rfl rfl (qg rfl) ?_
     intro a hA
     refine qb hA rfl rfl rfl (qg rfl) ?_
     intro a hA
     have hz20 := hM.bel.size
     refine qz hA rfl rfl rfl (qk rfl rfl (fun w => by kernel_rfl)) (qyb (h0.trans (hM.bel.mono h0.size)) ((jr (hM.has 0 rfl)).1.drop ca7 1 (qhj (hM.has 0 rfl))) (hIt.ok hb 1) (by have := hIt.le; rw [List.length_drop]; omega) ih) ?_
     rintro _ w21 ⟨fv9, rfl, hT9, hb19⟩
     replace hM := hM.call hb19
     refine ⟨_, rfl, ?_⟩
     intro a hA
     refine qb (v := fv9) hA rfl rfl rfl (qi (vs := [fv9, .bool ((jg (zg xs) ((xs.drop 1).map fun x : Dt => jk n x.tr)).isSome)]) rfl rfl) ?_
     intro a hA
     refine qb (v := .bool ((jg (zg xs) ((xs.drop 1).map fun x : Dt => jk n x.tr)).isSome)) hA rfl rfl rfl (qi (vs := [fv9, .bool ((jg (zg xs) ((xs.drop 1).map fun x : Dt => jk n x.tr)).isSome)]) rfl rfl) ?_
     intro a hA
     refine qb hA rfl rfl rfl (qe rfl) ?_
     intro a hA
     refine qb hA rfl rfl rfl (qe rfl) ?_
     intro a hA
     refine qa ?_
     refine hK18 _ _ ?_
     refine wp_ret ?_
     refine hret _ _ ?_
     refine je (v := .tuple #[fv9, .bool ((jg (zg xs) ((xs.drop 1).map fun x : Dt => jk n x.tr)).isSome)]) hA rfl (.cons (qj rfl) (.cons (qj rfl) .nil)) rfl ?_
     have ha9 := hIt.as hb5
     have e9 := js (n := n) ha9 hb14
     exact ⟨_, by rw [e9], fun p hp => (hT9 p (by rw [e9] at hp; exact hp)).sub (qaj hz20), hM.bel⟩
   · refine qz hA rfl rfl rfl (qk rfl rfl (fun w => by kernel_rfl)) (zbh (jr (hM.has 0 rfl)).1 (fun x hx => Dt.keep (h0.trans (hM.bel.mono h0.size)) _ (hIt.rd x hx)) (by have := hIt.le; omega) hb14) ?_
     rintro _ w23 ⟨rfl, hb22⟩
     replace hM := hM.call hb22
     refine ⟨_, rfl, ?_⟩
     intro a hA
     refine qb hA rfl rfl rfl (qg rfl) ?_
     intro a hA
     refine qb (v := .string (⟨#[]⟩)) hA rfl rfl rfl (qi (vs := [.string (⟨#[]⟩), .slice none 0 0, .bool false]) rfl rfl) ?_
     intro a hA
     refine qb (v := .slice none 0 0) hA rfl rfl rfl (qi (vs := [.string (⟨#[]⟩), .slice none 0 0, .bool false]) rfl rfl) ?_
     intro a hA
     refine qb (v := .bool false) hA rfl rfl rfl (qi (vs := [.string (⟨#[]⟩), .slice none 0 0, .bool false]) rfl rfl) ?_
     intro a hA
     refine qb hA rfl rfl rfl (qe rfl) ?_
     intro a hA
     refine qb hA rfl rfl rfl (qe rfl) ?_
     intro a hA
     refine qb hA rfl rfl rfl (qe rfl) ?_
     intro a hA
     refine qa ?_
     refine hK13 _ _ ?_
     refine wp_seq_k (fun K24 hK24 => ?_)
     refine wp_region_lit ?_
     refine qb hA rfl rfl rfl (qg rfl) ?_
     intro a hA
     refine qa ?_
     refine hK24 _ _ ?_
     refine wp_cond_false (hA.ev rfl) ?_
     refine wp_skip ?_
     refine hK12 _ _ ?_
     refine wp_seq_k (fun K25 hK25 => ?_)
     refine wp_region_lit ?_
     refine qb hA rfl rfl rfl (qg rfl) ?_
     intro a hA
     have hz27 := hM.bel.size
     refine qz hA rfl rfl rfl (qk rfl rfl (fun w => by kernel_rfl)) (zgg (h0.trans (hM.bel.mono h0.size)) (jr (hM.has 0 rfl)).1 (hIt.ok0 hb) (by have := hIt.le; omega) ihs) ?_
     rintro _ w28 ⟨fv9, rfl, hT9, hb26⟩
     replace hM := hM.call hb26
     refine ⟨_, rfl, ?_⟩
     intro a hA
     refine qb (v := fv9) hA rfl rfl rfl (qi (vs := [fv9, .bool (((jz (xs.map fun x : Dt => zx n x.tr)).map uf).isSome)]) rfl rfl) ?_
     intro a hA
     refine qb (v := .bool (((jz (xs.map fun x : Dt => zx n x.tr)).map uf).isSome)) hA rfl rfl rfl (qi (vs := [fv9, .bool (((jz (xs.map fun x : Dt => zx n x.tr)).map uf).isSome)]) rfl rfl) ?_
     intro a hA
     refine qb hA rfl rfl rfl (qe rfl) ?_
     intro a hA
     refine qb hA rfl rfl rfl (qe rfl) ?_
     intro a hA
     refine qa ?_
     refine hK25 _ _ ?_
     refine wp_ret ?_
     refine hret _ _ ?_
     refine je (v := .tuple #[fv9, .bool (((jz (xs.map fun x : Dt => zx n x.tr)).map uf).isSome)]) hA rfl (.cons (qj rfl) (.cons (qj rfl) .nil)) rfl ?_
     have ha9 := hIt.as hb5
     have e9 := yh (n := n) ha9 hb14
     exact ⟨_, by rw [e9], fun p hp => (hT9 p (by rw [e9] at hp; exact hp)).sub (qaj hz27), hM.bel⟩
 · refine qz hA rfl rfl rfl (qk rfl rfl (fun w => by kernel_rfl)) ((hb5 ▸ qca (h0.trans (hM.bel.mono h0.size)) ht hs (by omega))) ?_
   rintro _ w32 ⟨so29, ca30, xs, rfl, hIt, hM31⟩
   replace hM : Mg w w32 (.row 30 11 (.slice so29 xs.length ca30) xs.length (cellsOf xs) :: .obj g2 (.cells (t.d.cells t.ts.length).toArray 30) :: []) := (hM.both hM31 (qr (by simp) (qw za)) (qr (by simp) (qw za)))
   refine ⟨_, rfl, ?_⟩
   intro a hA
   refine qb hA rfl rfl rfl (qg rfl) ?_
   intro a hA
   refine qb (v := .slice so29 xs.length ca30) hA rfl rfl rfl (qi (vs := [.slice so29 xs.length ca30, .bool false]) rfl rfl) ?_
   intro a hA
   refine qb (v := .bool false) hA rfl rfl rfl (qi (vs := [.slice so29 xs.length ca30, .bool false]) rfl rfl) ?_
   intro a hA
   refine qb hA rfl rfl rfl (qe rfl) ?_
   intro a hA
   refine qb hA rfl rfl rfl (qe rfl) ?_
   intro a hA
   refine qa ?_
   refine hK4 _ _ ?_
   refine wp_seq_k (fun K33 hK33 => ?_)
   refine wp_seq_k (fun K34 hK34 => ?_)
   refine wp_region_lit ?_
   refine qb hA rfl rfl rfl (qg rfl) ?_
   intro a hA
   refine qb (v := .bool true) hA rfl rfl rfl (ql rfl qp) ?_
   intro a hA
   refine qa ?_
   refine hK34 _ _ ?_
   refine wp_cond_true (hA.ev rfl) ?_
   refine wp_seq_k (fun K35 hK35 => ?_)
   refine wp_region_lit ?_
   refine qb hA rfl rfl rfl (qe rfl) ?_
   intro a hA
   refine qb hA rfl rfl rfl (qe rfl) ?_
   intro a hA
   refine qa ?_
   refine hK35 _ _ ?_
   refine wp_ret ?_
   refine hret _ _ ?_
   refine je (v := .tuple #[.nilFunc, .bool false]) hA rfl (.cons (qj rfl) (.cons (qj rfl) .nil)) rfl ?_
   have e9 := qkh (n := n) (vn hb5)
   exact ⟨_, by rw [e9]; rfl, fun p hp => (by rw [e9] at hp; cases hp), hM.bel⟩
theorem qlf : ∀ n : Nat, n ≤ 4000000 → Refs n
  | 0, _ => by intro h0 ht hs hb; exact absurd (Nat.le_trans (yp _) hb) (Nat.not_succ_le_zero _)
  | n + 1, hn => by intro h0 ht hs hb b he; exact he ▸ zpd h0 ht hs hb hn (qlf n (by omega)) (qye n (by omega))
open Classical in
noncomputable def qfd (n : Nat) (l : List Int) (t : Tr) : Bool × Int := if ve zl t = true then (match jk n t with | none => (false, 12) | some f => if l.any vf = true then (false, 1) else (f l, 0)) else (false, 2)
theorem qyf {n : Nat} {l : List Int} {t : Tr} (h : ve zl t = false) : qfd n l t = (false, 2) := by unfold qfd; rw [if_neg (by rw [h]; decide)]
theorem qpj {n : Nat} {l : List Int} {t : Tr} (h : ve zl t = true) (hr : jk n t = none) : qfd n l t = (false, 12) := by unfold qfd; rw [if_pos h, hr]
theorem zeh {n : Nat} {l : List Int} {t : Tr} {f : List Int → Bool} (h : ve zl t = true) (hr : jk n t = some f) (hl : l.any vf = true) : qfd n l t = (false, 1) := by unfold qfd; rw [if_pos h, hr]; exact if_pos hl
theorem zla {n : Nat} {l : List Int} {t : Tr} {f : List Int → Bool} (h : ve zl t = true) (hr : jk n t = some f) (hl : l.any vf = false) : qfd n l t = (f l, 0) := by unfold qfd; rw [if_pos h, hr]; exact if_neg (by rw [hl]; decide)
theorem qyg {w : World} {n : Nat} {t : Dt} {l : List Int} {sv : Option Addr} {cv : Nat} (ht : t.rd w) (hT8 : Tabs8 w) (hb : t.tr.bulk ≤ n) (hn : n ≤ 4000000) (hv : Rc w sv (izC l)) (hll : l.length ≤ 2000000) : Calls Tryz.prog 13 #[.slice sv l.length cv, .agg (t.d.cells t.ts.length).toArray] w fun e w' => e = .returned (.tuple #[.bool (qfd n l t.tr).1, .int .i64 (qfd n l t.tr).2]) ∧ Below w.heap.size w w' := by
 have hM : Mg w w ([]) := Mg.start w
 refine qx (l := [(0, .slice sv l.length cv), (1, .agg (t.d.cells t.ts.length).toArray)]) Tryz.func13 rfl Tryz.ntmps13 rfl rfl ?_
 intro Q hret hnorm hP a hA
 refine wp_seq_k (fun K1 hK1 => ?_)
 refine wp_region_lit ?_
 refine jl (vs := (t.d.cells t.ts.length)) (t := 30) hA hM rfl rfl rfl (fun g => .pointer (some ⟨g, 0, none⟩)) (zd rfl rfl) (by decide) ?_
 intro g2 w3 hM a hA
 refine qb hA rfl rfl rfl (qe rfl) ?_
 intro a hA
 refine qb hA rfl rfl rfl (qe rfl) ?_
 intro a hA
 refine qa ?_
 refine hK1 _ _ ?_
 refine wp_seq_k (fun K4 hK4 => ?_)
 refine wp_seq_k (fun K5 hK5 => ?_)
 refine wp_region_lit ?_
 refine qb hA rfl rfl rfl (zy hM xi rfl 0 rfl (cs := (t.d.cells t.ts.length)) rfl rfl) ?_
 intro a hA
 rcases Bool.eq_false_or_eq_true (ve zl t.tr) with hb6 | hb6
 · refine qz hA rfl rfl rfl (qk rfl rfl (fun w => by kernel_rfl)) ((hb6 ▸ sound_any (Dt.keep hM.bel _ ht) (hT8.below hM.bel))) ?_
   rintro _ w8 ⟨rfl, hb7⟩
   replace hM := hM.call hb7
   refine ⟨_, rfl, ?_⟩
   intro a hA
   refine qb (v := .bool false) hA rfl rfl rfl (ql rfl qp) ?_
   intro a hA
   refine qa ?_
   refine hK5 _ _ ?_
   refine wp_cond_false (hA.ev rfl) ?_
   refine wp_skip ?_
   refine hK4 _ _ ?_
   refine wp_seq_k (fun K9 hK9 => ?_)
   refine wp_region_lit ?_
   refine qb hA rfl rfl rfl (zy hM xi rfl 0 rfl (cs := (t.d.cells t.ts.length)) rfl rfl) ?_
   intro a hA
   rcases Bool.eq_false_or_eq_true ((jk n t.tr).isSome) with hb10 | hb10
   · refine qz hA rfl rfl rfl (qk rfl rfl (fun w => by kernel_rfl)) (qlf n hn (hM.bel) ht (um hb6) hb hb10) ?_
     rintro _ w12 ⟨fv9, rfl, hT9, hb11⟩
     obtain ⟨p9, hp9⟩ := Option.isSome_iff_exists.1 hb10
     obtain ⟨f9, cs9, e9, hi9, hr9⟩ := hT9 p9 hp9
     clear hT9
     subst e9
     replace hM : Mg w w12 (.obj g2 (.cells (t.d.cells t.ts.length).toArray 30) :: (made w8 w12 ++ [])) := hM.freezeAt 1 (qr (by simp) (qw za)) hb11
     refine ⟨_, rfl, ?_⟩
     intro a hA
     refine qb hA rfl rfl rfl (qg rfl) ?_
     intro a hA
     refine qb (v := .func (.func f9) #[] cs9.toArray) hA rfl rfl rfl (qi (vs := [.func (.func f9) #[] cs9.toArray, .bool true]) rfl rfl) ?_
     intro a hA
     refine qb (v := .bool true) hA rfl rfl rfl (qi (vs := [.func (.func f9) #[] cs9.toArray, .bool true]) rfl rfl) ?_
     intro a hA
     refine qb hA rfl rfl rfl (qe rfl) ?_
     intro a hA
     refine qb hA rfl rfl rfl (qe rfl) ?_
     intro a hA
     refine qa ?_
     refine hK9 _ _ ?_
     refine wp_seq_k (fun K13 hK13 => ?_)
     refine wp_block ?_
     refine wp_seq_k (fun K14 hK14 => ?_)
     refine wp_region_lit ?_
     refine qb hA rfl rfl rfl (qg rfl) ?_
     intro a hA
     refine qb (v := .bool false) hA rfl rfl rfl (ql rfl qp) ?_
     intro a hA
     refine qb hA rfl rfl rfl (qe rfl) ?_
     intro a hA
     refine qa ?_
     refine hK14 _ _ ?_
     refine wp_cond_false (hA.ev rfl) ?_
     refine wp_seq_k (fun K15 hK15 => ?_)
     refine wp_region_lit ?_
     refine qb hA rfl rfl rfl (qg rfl) ?_
     intro a hA
     rcases Bool.eq_false_or_eq_true (l.any vf) with hb16 | hb16
     · refine qz hA rfl rfl rfl (qk rfl rfl (fun w => by kernel_rfl)) (qwc (hv.below hM.bel) (by omega) hb16) ?_
       rintro _ w18 ⟨rfl, hb17⟩
       replace hM := hM.call hb17
       refine ⟨_, rfl, ?_⟩
       intro a hA
       refine qb hA rfl rfl rfl (qe rfl) ?_
       intro a hA
       refine qa ?_
       refine hK15 _ _ ?_
       refine wp_cond_true (hA.ev rfl) ?_
       refine wp_seq_k (fun K19 hK19 => ?_)
       refine wp_region_lit ?_
       refine qb hA rfl rfl rfl (qe rfl) ?_
       intro a hA
       refine qb hA rfl rfl rfl (qe rfl) ?_
       intro a hA
       refine qa ?_
       refine hK19 _ _ ?_
       refine wp_ret ?_
       refine hret _ _ ?_
       refine je (v := .tuple #[.bool false, .int .i64 1]) hA rfl (.cons (qj rfl) (.cons (qj rfl) .nil)) rfl ?_
       exact ⟨by rw [zeh hb6 hp9 hb16], hM.bel⟩
     · refine qz hA rfl rfl rfl (qk rfl rfl (fun w => by kernel_rfl)) (qwc (hv.below hM.bel) (by omega) hb16) ?_
       rintro _ w21 ⟨rfl, hb20⟩
       replace hM := hM.call hb20
       refine ⟨_, rfl, ?_⟩
       intro a hA
       refine qb hA rfl rfl rfl (qe rfl) ?_
       intro a hA
       refine qa ?_
       refine hK15 _ _ ?_
       refine wp_cond_false (hA.ev rfl) ?_
       refine wp_skip ?_
       refine hK13 _ _ ?_
       refine wp_seq_k (fun K22 hK22 => ?_)
       refine wp_region_lit ?_
       refine qb hA rfl rfl rfl (qg rfl) ?_
       intro a hA
       refine qb hA rfl rfl rfl (qg rfl) ?_
       intro a hA
       refine qz hA rfl rfl rfl (xg rfl rfl hi9) (hr9 _ l _ hM.bel (hM.ob (fun c h => by simp only [List.mem_cons, List.mem_append] at h ⊢; simp [h])) ⟨_, _, rfl, hv.below hM.bel, hll⟩) ?_
       rintro _ w24 ⟨rfl, hb23⟩
       replace hM := hM.call hb23
       refine ⟨_, rfl, ?_⟩
       intro a hA
       refine qb hA rfl rfl rfl (qe rfl) ?_
       intro a hA
       refine qb hA rfl rfl rfl (qe rfl) ?_
       intro a hA
       refine qa ?_
       refine hK22 _ _ ?_
       refine wp_ret ?_
       refine hret _ _ ?_
       refine je (v := .tuple #[.bool (p9 l), .int .i64 0]) hA rfl (.cons (qj rfl) (.cons (qj rfl) .nil)) rfl ?_
       exact ⟨by rw [zla hb6 hp9 hb16], hM.bel⟩
   · refine qz hA rfl rfl rfl (qk rfl rfl (fun w => by kernel_rfl)) (qlf n hn (hM.bel) ht (um hb6) hb hb10) ?_
     rintro _ w26 ⟨fv9, rfl, hT9, hb25⟩
     replace hM := hM.call hb25
     refine ⟨_, rfl, ?_⟩
     intro a hA
     refine qb hA rfl rfl rfl (qg rfl) ?_
     intro a hA
     refine qb (v := fv9) hA rfl rfl rfl (qi (vs := [fv9, .bool false]) rfl rfl) ?_
     intro a hA
     refine qb (v := .bool false) hA rfl rfl rfl (qi (vs := [fv9, .bool false]) rfl rfl) ?_
     intro a hA
     refine qb hA rfl rfl rfl (qe rfl) ?_
     intro a hA
     refine qb hA rfl rfl rfl (qe rfl) ?_
     intro a hA
     refine qa ?_
     refine hK9 _ _ ?_
     refine wp_seq_k (fun K27 hK27 => ?_)
     refine wp_block ?_
     refine wp_seq_k (fun K28 hK28 => ?_)
     refine wp_region_lit ?_
     refine qb hA rfl rfl rfl (qg rfl) ?_
     intro a hA
     refine qb (v := .bool true) hA rfl rfl rfl (ql rfl qp) ?_
     intro a hA
     refine qb hA rfl rfl rfl (qe rfl) ?_
     intro a hA
     refine qa ?_
     refine hK28 _ _ ?_
     refine wp_cond_true (hA.ev rfl) ?_
     refine wp_seq_k (fun K29 hK29 => ?_)
     refine wp_region_lit ?_
     refine qb hA rfl rfl rfl (qe rfl) ?_
     intro a hA
     refine qb hA rfl rfl rfl (qe rfl) ?_
     intro a hA
     refine qa ?_
     refine hK29 _ _ ?_
     refine wp_ret ?_
     refine hret _ _ ?_
     refine je (v := .tuple #[.bool false, .int .i64 12]) hA rfl (.cons (qj rfl) (.cons (qj rfl) .nil)) rfl ?_
     exact ⟨by rw [qpj hb6 (vn hb10)], hM.bel⟩
 · refine qz hA rfl rfl rfl (qk rfl rfl (fun w => by kernel_rfl)) ((hb6 ▸ sound_any (Dt.keep hM.bel _ ht) (hT8.below hM.bel))) ?_
   rintro _ w31 ⟨rfl, hb30⟩
   replace hM := hM.call hb30
   refine ⟨_, rfl, ?_⟩
   intro a hA
   refine qb (v := .bool true) hA rfl rfl rfl (ql rfl qp) ?_
   intro a hA
   refine qa ?_
   refine hK5 _ _ ?_
   refine wp_cond_true (hA.ev rfl) ?_
   refine wp_seq_k (fun K32 hK32 => ?_)
   refine wp_region_lit ?_
   refine qb hA rfl rfl rfl (qe rfl) ?_
   intro a hA
   refine qb hA rfl rfl rfl (qe rfl) ?_
   intro a hA
   refine qa ?_
   refine hK32 _ _ ?_
   refine wp_ret ?_
   refine hret _ _ ?_
   refine je (v := .tuple #[.bool false, .int .i64 2]) hA rfl (.cons (qj rfl) (.cons (qj rfl) .nil)) rfl ?_
   exact ⟨by rw [qyf hb6], hM.bel⟩
def OkL (L : List Tr) : Prop := L.all (zrb 2) = true ∧ qkf L + L.length + 1 ≤ 20000 ∧ L.all (xl zl) = true
theorem OkL.of {L M : List Tr} (h : OkL L) (hm : ∀ x ∈ M, x ∈ L) (hn : qkf M + M.length ≤ qkf L + L.length) : OkL M := ⟨List.all_eq_true.2 fun x hx => List.all_eq_true.1 h.1 x (hm x hx), by have := h.2.1; omega, List.all_eq_true.2 fun x hx => List.all_eq_true.1 h.2.2 x (hm x hx)⟩
def vF {α : Type} (o : Option (α → Bool)) (a : α) : Bool := match o with | some q => q a | none => false
def nN (o : Option Int) : Int := o.getD (-1)
theorem zlb : jp Q6.none = false := by rfl
theorem zlc {t : Dt} (h : xl zl t.tr = true) (hk : t.d.k ≠ 3) : jb t.tr = none := by
 have h1 := (qde h).1
 cases t with
 | mk d ts =>
  rw [ya] at h1
  have h2 := (zag h1).hq hk
  have h3 : (Dt.mk d ts).tr.q = Q6.none := by rw [Dt.tr_mk]; exact h2
  unfold jb
  rw [h3, qdf zlb]
  exact if_neg (fun h => absurd h.1 (by decide))
theorem zpe {t : Tr} {z : Int} (h : jb t = some z) : 0 ≤ z := by
 unfold jb at h
 split at h
 ·
  rename_i h1
  cases h
  have h2 := h1.2
  unfold vf at h2
  simp only [Bool.or_eq_false_iff, decide_eq_false_iff_not] at h2
  omega
 ·
  cases h
theorem qge {t : Tr} : decide (0 ≤ nN (jb t)) = (jb t).isSome := by
 cases h : jb t with
 | none => rfl
 | some z => exact decide_eq_true (zpe h)
theorem qtf {t : Tr} (h : decide (0 ≤ nN (jb t)) = true) : ∃ z, jb t = some z ∧ nN (jb t) = z := by
 rw [qge] at h
 obtain ⟨z, hz⟩ := Option.isSome_iff_exists.1 h
 exact ⟨z, hz, by rw [hz]; rfl⟩
theorem xv {t : Tr} (h : decide (0 ≤ nN (jb t)) = false) : jb t = none := by rw [qge] at h; exact vn h
theorem qyj {β : Type} {l : List (Option β)} : (jz l).isSome = l.all Option.isSome := by
 induction l with
 | nil => rfl
 | cons o l ih => cases o with
  | none => rfl
  | some b => simp only [jz, List.all_cons, Option.isSome_map, ih, Option.isSome_some, Bool.true_and]
theorem qba {β : Type} : ∀ {l : List (Option β)} {ps : List β}, jz l = some ps → l = ps.map some
 | [], ps, h => by cases h; rfl
 | none :: l, ps, h => by cases h
 | some a :: l, ps, h => by
  simp only [jz] at h
  obtain ⟨cs, h1, rfl⟩ := Option.map_eq_some_iff.1 h
  rw [qba h1]
  rfl
theorem xt {β : Type} {xs : List Dt} {g : Dt → Option β} : (jz (xs.map g)).isSome = xs.all fun x => (g x).isSome := by rw [qyj, List.all_map]; rfl
section
variable {α : Type} {l : List (Option (α → Bool))}
theorem yz {w : ByteArray} (h : (jg w l).isSome = true) : (jz l).isSome = true := by
 unfold jg at h
 split at h
 ·
  cases h
 ·
  rename_i ps hps; rw [hps]; rfl
theorem qfe : (jg vv l).isSome = (jz l).isSome := by
 unfold jg
 split
 ·
  rename_i h; rw [h]; rfl
 ·
  rename_i ps h; rw [h, if_pos rfl]; rfl
theorem qie : (jg wOr l).isSome = (jz l).isSome := by
 unfold jg
 split
 ·
  rename_i h; rw [h]; rfl
 ·
  rename_i ps h; rw [h, if_neg (by decide), if_pos rfl]; rfl
theorem uq {o : Option (α → Bool)} : (jg kk [o]).isSome = o.isSome := by
 cases o with
 | none => rfl
 | some p => show (jg kk [some p]).isSome = true; unfold jg; rw [show jz [some p] = some [p] from rfl]; simp only; rw [if_neg (by decide), if_neg (by decide), if_pos (by simp)]; rfl
theorem qbb (h : l.length ≠ 1) : jg kk l = none := by
 unfold jg
 split
 ·
  rfl
 ·
  rename_i ps hps
  rw [if_neg (by decide), if_neg (by decide), if_neg (fun k => h (by rw [← ka hps]; exact k.2))]
theorem ut {w : ByteArray} (h1 : w ≠ vv) (h2 : w ≠ wOr) (h3 : w ≠ kk) : jg w l = none := by
 unfold jg
 split
 ·
  rfl
 ·
  rw [if_neg h1, if_neg h2, if_neg (fun k => h3 k.1)]
theorem zpf (h : (jg vv l).isSome = true) (a : α) : vF (jg vv l) a = l.all fun o => vF o a := by
 obtain ⟨ps, hps⟩ := Option.isSome_iff_exists.1 (yz h)
 unfold jg
 rw [hps]
 simp only
 rw [if_pos trivial, qba hps]
 show (!(ps.map fun p => !(p a)).any id) = _
 clear h hps
 induction ps with
 | nil => rfl
 | cons p ps ih =>
  simp only [List.map_cons, List.any_cons, List.all_cons, id, ← ih]
  show _ = (p a && _)
  cases p a <;> simp
theorem zsf (h : (jg wOr l).isSome = true) (a : α) : vF (jg wOr l) a = l.any fun o => vF o a := by
 obtain ⟨ps, hps⟩ := Option.isSome_iff_exists.1 (yz h)
 unfold jg
 rw [hps]
 simp only
 rw [if_neg (by decide), if_pos trivial, qba hps]
 show (ps.map fun p => p a).any id = _
 clear h hps
 induction ps with
 | nil => rfl
 | cons p ps ih =>
  simp only [List.map_cons, List.any_cons, id, ← ih]
  rfl
theorem qif {o : Option (α → Bool)} (h : o.isSome = true) (a : α) : vF (jg kk [o]) a = !(vF o a) := by
 obtain ⟨p, rfl⟩ := Option.isSome_iff_exists.1 h
 unfold jg
 rw [show jz [some p] = some [p] from rfl]
 simp only
 rw [if_neg (by decide), if_neg (by decide), if_pos (by simp)]
 rfl
end
theorem xx {o : Option Int} : jv [o] = o := by cases o <;> rfl
theorem qlg {l : List (Option Int)} (h : l.length ≠ 1) : jv l = none := by
 unfold jv
 split
 ·
  rename_i z hz; exact absurd (by rw [← ka hz]; rfl) h
 ·
  rfl
section
variable {xs : List Dt} {p : Dt → Bool} {s i : Nat} {u : Dt} {b : Bool}
theorem qtg (h : ∀ (j : Nat) u, s ≤ j → j < i → xs[j]? = some u → p u = true) (hi : xs.length ≤ i) : (xs.drop s).all p = true := List.all_eq_true.2 fun u hu => by
 obtain ⟨j, hj⟩ := List.mem_iff_getElem?.1 hu
 rw [List.getElem?_drop] at hj
 exact h (s + j) u (by omega) (Nat.lt_of_lt_of_le (List.getElem?_eq_some_iff.1 hj).1 hi) hj
theorem zsg (hs : s ≤ i) (hu : xs[i]? = some u) : u ∈ xs.drop s := List.mem_iff_getElem?.2 ⟨i - s, by rw [List.getElem?_drop, show s + (i - s) = i by omega]; exact hu⟩
theorem qth (hs : s ≤ i) (hu : xs[i]? = some u) (hp : p u = false) : (xs.drop s).all p = false := by
 rw [List.all_eq_false]
 exact ⟨u, zsg hs hu, by rw [hp]; decide⟩
theorem zti (hs : s ≤ i) (hu : xs[i]? = some u) (hp : p u = true) : (xs.drop s).any p = true := List.any_eq_true.2 ⟨u, zsg hs hu, hp⟩
theorem zrd (h : ∀ (j : Nat) u, s ≤ j → j < i → xs[j]? = some u → p u = false) (hi : xs.length ≤ i) : (xs.drop s).any p = false := by
 rw [List.any_eq_false]
 intro u hu
 obtain ⟨j, hj⟩ := List.mem_iff_getElem?.1 hu
 rw [List.getElem?_drop] at hj
 rw [h (s + j) u (by omega) (Nat.lt_of_lt_of_le (List.getElem?_eq_some_iff.1 hj).1 hi) hj]
 decide
theorem din (h : ∀ (j : Nat) v, s ≤ j → j < i → xs[j]? = some v → p v = b) (hu : xs[i]? = some u) (hp : p u = b) : ∀ (j : Nat) v, s ≤ j → j < i + 1 → xs[j]? = some v → p v = b := fun j v h1 h2 h3 => if h9 : j < i then h j v h1 h9 h3 else by
 have h8 : j = i := by omega
 subst h8
 rw [hu] at h3
 rw [← Option.some.inj h3]
 exact hp
theorem qcc {β : Type} {g : Dt → Option β} (h : (jz ((xs.drop s).map g)).isSome = true) (hs : s ≤ i) (hu : xs[i]? = some u) : (g u).isSome = true := by
 rw [xt] at h
 exact List.all_eq_true.1 h u (zsg hs hu)
theorem xd (h : xs.length = 2) (hu : xs[1]? = some u) : xs.drop 1 = [u] := by
 match xs, h, hu with
 | [a, b], _, hu => simp at hu; simp [hu]
theorem vg {w : World} {so : Option Addr} (hR : Rt w so xs) (hD : ∀ t ∈ xs, t.rd w) (hu : xs[i]? = some u) : ∃ b o, so = some ⟨b, o, none⟩ ∧ Here w b (o + i * 11) (u.d.cells u.ts.length) := by
 obtain ⟨t, b, o, h1, _, _, h2, h3⟩ := zgd hR hD (List.getElem?_eq_some_iff.1 hu).1
 rw [hu] at h1
 cases h1
 exact ⟨b, o, h2, h3⟩
theorem zpg {w : World} {so : Option Addr} {b o : Nat} (hR : Rt w so xs) (hD : ∀ t ∈ xs, t.rd w) (hu : xs[i]? = some u) (hs : so = some ⟨b, o, none⟩) : Here w b (o + i * 11) (u.d.cells u.ts.length) := by
 obtain ⟨b2, o2, e, h⟩ := vg hR hD hu
 rw [hs] at e
 cases e
 exact h
end
noncomputable def ky (t : Tr) : ByteArray := match zw t with | some (h :: _) => (if h.k = 6 then h.s else ⟨#[]⟩) | _ => ⟨#[]⟩
theorem zld {t : Tr} (h : zw t = none) : ky t = ⟨#[]⟩ := by unfold ky; rw [h]
theorem qlh {t : Tr} {xs : List Dt} (h : zw t = some (xs.map Dt.tr)) (hw : isW xs = false) : ky t = ⟨#[]⟩ := by
 unfold ky; rw [h]
 cases xs with
 | nil => rfl
 | cons a l =>
  have hk : ¬ a.tr.k = 6 := by rw [qvi]; exact beq_eq_false_iff_ne.1 hw
  simp only [List.map_cons, if_neg hk]
theorem yq {t : Tr} {xs : List Dt} (h : zw t = some (xs.map Dt.tr)) (hw : isW xs = true) : ky t = zg xs := by
 unfold ky; rw [h]
 cases xs with
 | nil => cases hw
 | cons a l =>
  have hk : a.tr.k = 6 := by rw [qvi]; exact beq_iff_eq.1 hw
  simp only [List.map_cons, if_pos hk]
  cases a; rw [Dt.tr_mk]; rfl
theorem qff {t : Tr} {xs : List Dt} {w : ByteArray} (h : zw t = some (xs.map Dt.tr)) (hw : ky t = w) (h0 : w ≠ ⟨#[]⟩) : isW xs = true ∧ zg xs = w := by
 cases k : isW xs with
 | false => rw [qlh h k] at hw; exact absurd hw.symm h0
 | true => exact ⟨rfl, by rw [← yq h k]; exact hw⟩
theorem zph {xs : List Dt} (h : isW xs = true) : 0 < xs.length := by
 cases xs with
 | nil => cases h
 | cons a l => simp
theorem xu {xs : List Dt} {t : Dt} (h : xs[0]? = some t) (hk : t.d.k = 6) : isW xs = true := by unfold isW; rw [qbj h, hk]; rfl
theorem qig {xs : List Dt} {t : Dt} (h : xs[0]? = some t) (hk : ¬ t.d.k = 6) : isW xs = false := by unfold isW; rw [qbj h]; exact beq_eq_false_iff_ne.2 hk
theorem qih {xs : List Dt} (h : xs.length = 0) : isW xs = false := by rw [List.length_eq_zero_iff.1 h]; rfl
theorem zb {xs : List Dt} {t : Dt} (h : xs[0]? = some t) : zg xs = t.d.s := by unfold zg; rw [qbj h]
theorem zpi {w0 : World} {t p : Dt} {xs : List Dt} (htl : t.tr = vj (xs.map Dt.tr) p.tr) (hps : xl zl p.tr = true) (h8 : ¬ p.d.k = 8) (h1 : ∀ x ∈ xs, x.rd w0) (h2 : ∀ x ∈ xs, xl zl x.tr = true) (h3 : ∀ x ∈ xs, x.tr.bulk < t.tr.bulk) (hl : xs.length ≤ t.tr.bulk) : Its w0 t xs ∧ (p.d.k == 1) = (zw t.tr).isSome := by
 by_cases hk : p.d.k = 1
 ·
  have ha := qji htl hps hk
  exact ⟨⟨h1, h2, h3, fun l h => (by rw [ha] at h; exact (Option.some.inj h).symm), hl⟩, by rw [ha, hk]; rfl⟩
 ·
  have ha := qjj htl h8 hk
  exact ⟨⟨h1, h2, h3, fun l h => (by rw [ha] at h; cases h), hl⟩, by rw [ha]; exact beq_eq_false_iff_ne.2 hk⟩
section
variable {n : Nat} {t : Tr} {xs : List Dt} (hn : jb t = none) (ha : zw t = some (xs.map Dt.tr)) (hw : isW xs = true)
include hn ha hw
theorem qqa (h : zg xs = wGe) : zx (n + 1) t = (jv ((xs.drop 1).map fun x => jb x.tr)).map fun b => fun z => decide (b ≤ z) := by rw [un hn ha hw, if_pos h]
theorem qqb (h : zg xs = wLe) : zx (n + 1) t = (jv ((xs.drop 1).map fun x => jb x.tr)).map fun b => fun z => decide (z ≤ b) := by rw [un hn ha hw, if_neg (by rw [h]; decide), if_pos h]
theorem xe (h1 : zg xs ≠ wGe) (h2 : zg xs ≠ wLe) : zx (n + 1) t = jg (zg xs) ((xs.drop 1).map fun x => zx n x.tr) := by rw [un hn ha hw, if_neg h1, if_neg h2]
end
theorem zle {w0 : World} {n : Nat} {t : Dt} {xs : List Dt} (hIt : Its w0 t xs) (hn : jb t.tr = none) (hp : (zx (n + 1) t.tr).isSome = true) : zw t.tr = some (xs.map Dt.tr) ∧ isW xs = true := by
 cases ha : zw t.tr with
 | none => rw [qfc hn ha] at hp; cases hp
 | some l =>
  have e := hIt.is l ha
  subst e
  cases hw : isW xs with
  | false => rw [qid hn ha hw] at hp; cases hp
  | true => exact ⟨rfl, rfl⟩
theorem zlf {w0 : World} {n : Nat} {t : Dt} {xs : List Dt} (hIt : Its w0 t xs) (hp : (jk (n + 1) t.tr).isSome = true) : zw t.tr = some (xs.map Dt.tr) := by
 cases ha : zw t.tr with
 | none => rw [qkh ha] at hp; cases hp
 | some l => rw [hIt.is l ha]
theorem qqc {l : List (Option Int)} {α : Type} {f : Int → α} (h : ((jv l).map f).isSome = true) : l.length = 1 := by
 apply Classical.byContradiction
 intro k
 rw [qlg k] at h
 cases h
theorem zei {α : Type} {l : List (Option (α → Bool))} (h : (jg kk l).isSome = true) : l.length = 1 := by
 apply Classical.byContradiction
 intro k
 rw [qbb k] at h
 cases h
theorem zej : ∀ {xs : List Dt} {g : Dt → Option (Int → Bool)} {ps : List (Int → Bool)} {v : List Int}, jz (xs.map g) = some ps → xs.length ≤ v.length → (∀ (j : Nat) u z, xs[j]? = some u → v[j]? = some z → vF (g u) z = true) → uf ps v = true
 | [], g, ps, v, h, hl, hv => by cases h; rfl
 | x :: xs, g, ps, [], h, hl, hv => by simp at hl
 | x :: xs, g, ps, z :: v, h, hl, hv => by
  have e := qba h
  rw [List.map_cons] at e
  cases ps with
  | nil => cases e
  | cons p ps =>
   rw [List.map_cons, List.cons.injEq] at e
   have h1 := hv 0 x z rfl rfl
   rw [e.1] at h1
   have h2 : jz (xs.map g) = some ps := by rw [List.map_cons, e.1, jz] at h; obtain ⟨cs, h3, h4⟩ := Option.map_eq_some_iff.1 h; cases h4; exact h3
   show (p z && uf ps v) = true
   rw [show p z = true from h1, zej (v := v) h2 (by simpa using hl) (fun j u y h3 h4 => hv (j + 1) u y (by simpa using h3) (by simpa using h4))]
   rfl
theorem zlg : ∀ {xs : List Dt} {g : Dt → Option (Int → Bool)} {ps : List (Int → Bool)} {v : List Int} {j : Nat} {u : Dt} {z : Int}, jz (xs.map g) = some ps → xs[j]? = some u → v[j]? = some z → vF (g u) z = false → uf ps v = false
 | [], g, ps, v, j, u, z, h, hu, hz, hv => by simp at hu
 | x :: xs, g, ps, [], j, u, z, h, hu, hz, hv => by simp at hz
 | x :: xs, g, ps, y :: v, j, u, z, h, hu, hz, hv => by
  have e := qba h
  rw [List.map_cons] at e
  cases ps with
  | nil => cases e
  | cons p ps =>
   rw [List.map_cons, List.cons.injEq] at e
   have h2 : jz (xs.map g) = some ps := by rw [List.map_cons, e.1, jz] at h; obtain ⟨cs, h3, h4⟩ := Option.map_eq_some_iff.1 h; cases h4; exact h3
   show (p y && uf ps v) = false
   cases j with
   | zero =>
    simp only [List.getElem?_cons_zero, Option.some.injEq] at hu hz
    subst hu hz
    rw [e.1] at hv
    rw [show p y = false from hv]; rfl
   | succ j =>
    rw [zlg h2 (by simpa using hu) (by simpa using hz) hv, Bool.and_false]
theorem kb {w : World} {t : Dt} (ht : t.rd w) (hs : xl zl t.tr = true) : Calls Tryz.prog 26 #[.agg (t.d.cells t.ts.length).toArray] w fun e w' => e = .returned (iV (nN (jb t.tr))) ∧ Below w.heap.size w w' := by
 have M : Mg w w ([]) := Mg.start w
 refine qx (l := [(0, .agg (t.d.cells t.ts.length).toArray)]) Tryz.func26 rfl Tryz.ntmps26 rfl rfl ?_
 intro Q hret hnorm hP a A
 refine wsk fun K1 hK1 => wrl (jl (vs := (t.d.cells t.ts.length)) (t := 30) A M rfl rfl rfl pg (zd rfl rfl) (by decide) ?_)
 intro g2 w3 M a A
 refine sda A λa A↦?_
 refine qa (hK1 _ _ (wsk fun K4 hK4 => wsk fun K5 hK5 => wrl (sdo (v := pA g2 0) A (qf vm rfl rfl) λa A↦?_)))
 refine sdo A (zi M o93 rfl 0 rfl rfl) λa A↦?_
 rcases tf ((t.d.k != 3)) with hb6 | hb6
 ·
  have hb6' := bne_iff_ne.1 hb6
  refine sdc A jm hb6 λa A↦?_
  refine qa (hK5 _ _ (ct A ?_))
  refine wsk fun K7 hK7 => wrl (sda A λa A↦?_)
  refine qa (hK7 _ _ (wr1 hret A ?_))
  exact ⟨by rw [zlc hs (by first | exact hb6' | (have h9 := hb6'; omega))]; rfl, M.bel⟩
 ·
  have hb6' := bne_eq_false_iff_eq.1 hb6
  refine sdc A jm hb6 λa A↦?_
  refine qa (hK5 _ _ (cf A ?_))
  refine wp_skip (hK4 _ _ (wsk fun K8 hK8 => wrl (sdo (v := pA g2 2) A (qf qab rfl rfl) λa A↦?_)))
  refine sdo A (zy M zrj rfl 0 rfl (cs := [bV t.d.y.q.b1, .slice t.d.y.o1 t.d.y.q.t1.length t.d.y.c1, .slice t.d.y.o2 t.d.y.q.q1.length t.d.y.c2, bV t.d.y.q.b2, .slice t.d.y.o3 t.d.y.q.t2.length t.d.y.c3, .slice t.d.y.o4 t.d.y.q.q2.length t.d.y.c4]) rfl rfl) λa A↦?_
  refine gcl A M (ef rfl rfl) (qyi (Nu.below (zeg ht).num M.bel) (zeg ht).len) fun w9 hbs M a A => ?_
  refine sdm A λa A↦?_
  iterate 2 refine sdo A (qi (vs := [iV ((zu t.d.y.q).1), iV ((zu t.d.y.q).2)]) rfl rfl) λa A↦?_
  iterate 2 refine sda A λa A↦?_
  refine qa (hK8 _ _ (wsk fun K10 hK10 => wsk fun K11 hK11 => wrl (sdm A λa A↦?_)))
  rcases tf (((zu t.d.y.q).2 != 0)) with hb12 | hb12
  ·
   have hb12' := bne_iff_ne.1 hb12
   refine sdc A jm hb12 λa A↦?_
   refine sdm A λa A↦?_
   iterate 2 refine qm A rfl rfl rfl λa A↦?_
   refine sdk (v := bV true) A λa A↦?_
   refine sdm A λa A↦?_
   iterate 2 refine qm A rfl rfl rfl λa A↦?_
   refine sdk (v := bV true) A λa A↦?_
   refine qa (hK11 _ _ (ct A ?_))
   refine wsk fun K13 hK13 => wrl (sda A λa A↦?_)
   refine qa (hK13 _ _ (wr1 hret A ?_))
   have hq9 : t.tr.q = t.d.y.q := by cases t; rw [Dt.tr_mk]; rfl
   exact ⟨by rw [show jb t.tr = none from by unfold jb vf; rw [hq9]; simp_all]; rfl, M.bel⟩
  ·
   have hb12' := bne_eq_false_iff_eq.1 hb12
   refine sdc A jm hb12 λa A↦?_
   iterate 2 refine sdm A λa A↦?_
   rcases tf (decide ((zu t.d.y.q).1 < 0)) with hb14 | hb14
   ·
    have hb14' := of_decide_eq_true hb14
    refine sdc A zh hb14 λa A↦?_
    refine sdk (v := bV true) A λa A↦?_
    refine sdm A λa A↦?_
    iterate 2 refine qm A rfl rfl rfl λa A↦?_
    refine sdk (v := bV true) A λa A↦?_
    refine qa (hK11 _ _ (ct A ?_))
    refine wsk fun K15 hK15 => wrl (sda A λa A↦?_)
    refine qa (hK15 _ _ (wr1 hret A ?_))
    have hq9 : t.tr.q = t.d.y.q := by cases t; rw [Dt.tr_mk]; rfl
    exact ⟨by rw [show jb t.tr = none from by unfold jb vf; rw [hq9]; simp_all]; rfl, M.bel⟩
   ·
    have hb14' := of_decide_eq_false hb14
    refine sdc A zh hb14 λa A↦?_
    refine sdk (v := bV false) A λa A↦?_
    iterate 2 refine sdm A λa A↦?_
    rcases tf (decide (2147483647 < (zu t.d.y.q).1)) with hb16 | hb16
    ·
     have hb16' := of_decide_eq_true hb16
     refine sdc A ji hb16 λa A↦?_
     refine sdk (v := bV true) A λa A↦?_
     refine qa (hK11 _ _ (ct A ?_))
     refine wsk fun K17 hK17 => wrl (sda A λa A↦?_)
     refine qa (hK17 _ _ (wr1 hret A ?_))
     have hq9 : t.tr.q = t.d.y.q := by cases t; rw [Dt.tr_mk]; rfl
     exact ⟨by rw [show jb t.tr = none from by unfold jb vf; rw [hq9]; simp_all]; rfl, M.bel⟩
    ·
     have hb16' := of_decide_eq_false hb16
     refine sdc A ji hb16 λa A↦?_
     refine sdk (v := bV false) A λa A↦?_
     refine qa (hK11 _ _ (cf A ?_))
     refine wp_skip (hK10 _ _ (wsk fun K18 hK18 => wrl (sdm A λa A↦?_)))
     refine sda A λa A↦?_
     refine qa (hK18 _ _ (wr1 hret A ?_))
     have hq9 : t.tr.q = t.d.y.q := by cases t; rw [Dt.tr_mk]; rfl
     exact ⟨by rw [show jb t.tr = some (zu t.d.y.q).1 from by unfold jb vf; rw [hq9]; simp_all]; rfl, M.bel⟩
theorem zcd {w0 w : World} {t : Dt} (h0 : Below w0.heap.size w0 w) (ht : t.rd w0) (hs : xl zl t.tr = true) (hb : t.tr.bulk ≤ 4000000) : Calls Tryz.prog 59 #[.agg (t.d.cells t.ts.length).toArray] w fun e w' => ∃ so' ca' xs, ∃ q : Dt, e = .returned (.tuple #[.slice so' (xs : List Dt).length ca', .agg (q.d.cells q.ts.length).toArray]) ∧ ((Its w0 t xs ∧ (q.d.k == 1) = (zw t.tr).isSome) ∧ q.rd w0) ∧ Mg w w' [.row 30 11 (.slice so' xs.length ca') xs.length (cellsOf xs)] := by
 have M : Mg w w ([]) := Mg.start w
 refine qx (l := [(0, .agg (t.d.cells t.ts.length).toArray)]) Tryz.func59 rfl Tryz.ntmps59 rfl rfl ?_
 intro Q hret hnorm hP a A
 refine wsk fun K1 hK1 => wrl (jl (vs := (t.d.cells t.ts.length)) (t := 30) A M rfl rfl rfl pg (zd rfl rfl) (by decide) ?_)
 intro g2 w3 M a A
 refine sda A λa A↦?_
 refine jl (vs := (xk.d.cells xk.ts.length)) (t := 30) A M rfl rfl rfl pg (zv (z := .agg (xk.d.cells xk.ts.length).toArray) (by kernel_rfl) rfl) (by decide) ?_
 intro g4 w5 M a A
 refine qa (hK1 _ _ (wsk fun K6 hK6 => wrl (kx (e := 30) (sz := 11) (m := 0) (vs := cellsOf []) A M rfl rfl rfl (zp rfl (by kernel_rfl)) rfl rfl (.inl (by decide)) ?_)))
 intro g7 w8 M a A
 refine sda A λa A↦?_
 refine qa (hK6 _ _ (wsk fun K9 hK9 => wp_block (jc (fun m_ a w1 => ∃ (p : Dt) (xs : List Dt) (so_ : Option Addr) (ca_ : Nat), m_ = 1 + p.tr.bulk ∧ (p.rd w0 ∧ xl zl p.tr = true ∧ ((∀ x ∈ xs, x.rd w0) ∧ (∀ x ∈ xs, xl zl x.tr = true) ∧ (∀ x ∈ xs, x.tr.bulk < t.tr.bulk)) ∧ t.tr = vj (xs.map Dt.tr) p.tr ∧ xs.length + p.tr.bulk ≤ t.tr.bulk) ∧ Sl a 22 [(0, .agg (t.d.cells t.ts.length).toArray), (1, pA g2 0), (2, .slice none 0 0), (3, pA g4 0), (4, .slice so_ xs.length ca_), (5, .slice (aO g7) 0 0)] ∧ Mg w w1 (.row 30 11 (.slice so_ xs.length ca_) xs.length (cellsOf xs) :: .obj g4 (.cells (xk.d.cells xk.ts.length).toArray 30) :: .obj g2 (.cells (p.d.cells p.ts.length).toArray 30) :: [])) _ ⟨t, [], some ⟨g7, 0, none⟩, 0, rfl, ⟨ht, hs, ⟨(fun x h => by cases h), (fun x h => by cases h), (fun x h => by cases h)⟩, rfl, (by show 0 + t.tr.bulk ≤ t.tr.bulk; omega)⟩, A.keep _ (by repeat' constructor), M⟩ ?_)))
 clear M A
 rintro m_ a w10 ⟨p, xs, so_, ca_, rfl, hinv12, A, M⟩ K11 hK11
 obtain ⟨hp, hps, hxs, htl, hbx⟩ := hinv12
 refine wsk fun K13 hK13 => wsk fun K14 hK14 => wrl (sdo (v := pA g2 0) A (qf vm rfl rfl) λa A↦?_)
 refine sdo A (zi M o93 rfl 2 rfl rfl) λa A↦?_
 rcases tf ((p.d.k == 8)) with hb15 | hb15
 ·
  have hb15' := eq_of_beq hb15
  refine sdc A qt hb15 λa A↦?_
  refine qa (hK14 _ _ (ct A ?_))
  refine wp_skip (hK13 _ _ (wp_block (wsk fun K16 hK16 => ?_)))
  have l2p := (qsc hps hb15').1
  have hbp := yp p
  obtain ⟨p0, bp0, op0, ip0, mp0, rp0_, lp0, Hp0⟩ := zna hp (i := 0) (by omega)
  obtain ⟨p1, bp1, op1, ip1, mp1, rp1_, lp1, Hp1⟩ := zna hp (i := 1) (by omega)
  replace Hp0 := Hp0.below h0
  replace Hp1 := Hp1.below h0
  refine wrl (sdm A λa A↦?_)
  refine sdo (v := pA g2 10) A (qf vt rfl rfl) λa A↦?_
  refine sdo A (zi M qdi rfl 2 rfl rfl) λa A↦?_
  refine sdo (v := pA bp0 (op0 + 0 * 11)) A (ze (k := 0) Tryz.underlying28 (by kernel_rfl) rfl rfl rfl lp0 (by omega)) λa A↦?_
  refine sdo A (jh M Hp0 xi rfl rfl) λa A↦?_
  refine kx (e := 30) (sz := 11) (m := 1) (vs := cellsOf [p0]) A M rfl rfl rfl (zp rfl (by kernel_rfl)) rfl rfl (.inl (by decide)) ?_
  intro g17 w18 M a A
  refine kf (e := 30) (sz := 11) (k := 1) (q := xs.length) (m := 1) (xs := cellsOf xs) (news := cellsOf [p0]) (L' := fun v19 => (.row 30 11 (.slice (aO g17) 1 1) 1 (cellsOf [p0]) :: .row 30 11 (v19) (xs.length + 1) (cellsOf xs ++ cellsOf [p0]) :: .obj g4 (.cells (xk.d.cells xk.ts.length).toArray 30) :: .obj g2 (.cells (p.d.cells p.ts.length).toArray 30) :: [])) A rfl rfl rfl (qdd (z := .agg #[iV 0, iV 0, bV false, .slice none 0 0, .slice none 0 0, bV false, .slice none 0 0, .slice none 0 0, .string ⟨#[]⟩, .slice none 0 0, .slice none 0 0]) (sz := 11) (by_ := 192) Tryz.underlying28 (by kernel_rfl) rfl rfl rfl M 1 rfl rfl rfl rfl (yb (M.has 0 rfl)) (qeh [p0]) (by omega)) (fun _ => rfl) ?_
  intro v19 w20 M a A
  replace M : Mg w w20 (.row 30 11 (.slice (aO g17) 1 1) 1 (cellsOf [p0]) :: .row 30 11 (v19) ((xs ++ [p0]).length) (cellsOf (xs ++ [p0])) :: .obj g4 (.cells (xk.d.cells xk.ts.length).toArray 30) :: .obj g2 (.cells (p.d.cells p.ts.length).toArray 30) :: []) := by
   rw [qag, List.length_append]; exact M
  obtain ⟨so21, ca22, rfl⟩ := qah (M.has 1 rfl)
  refine sda A λa A↦?_
  refine qa (hK16 _ _ (wrl (sdo (v := pA g2 10) A (qf vt rfl rfl) λa A↦?_)))
  refine sdo A (zi M qdi rfl 3 rfl rfl) λa A↦?_
  refine sdo (v := pA bp1 (op1 + 1 * 11)) A (ze (k := 1) Tryz.underlying28 (by kernel_rfl) rfl rfl rfl lp1 (by omega)) λa A↦?_
  refine sdo A (jh M Hp1 xi rfl rfl) λa A↦?_
  refine ja (L' := (.row 30 11 (.slice (aO g17) 1 1) 1 (cellsOf [p0]) :: .row 30 11 (.slice so21 ((xs ++ [p0]).length) ca22) ((xs ++ [p0]).length) (cellsOf (xs ++ [p0])) :: .obj g4 (.cells (xk.d.cells xk.ts.length).toArray 30) :: .obj g2 (.cells (p1.d.cells p1.ts.length).toArray 30) :: [])) A M rfl rfl (zq rfl rfl rfl (by kernel_rfl) M 3 rfl rfl rfl) 3 rfl rfl rfl ?_
  intro w23 M
  refine qa ?_
  replace M := M.sub (cN (cC (cC (cC (.refl _)))))
  have h7 := qpa mp0
  have h8 := qpa mp1
  refine hK11 _ _ _ (by have := qpa mp1; omega) ⟨p1, xs ++ [p0], so21, ca22, rfl, ⟨rp1_, (qde hps).2 _ mp1, ⟨ul hxs.1 rp0_, ul hxs.2.1 ((qde hps).2 _ mp0), ul hxs.2.2 (by omega)⟩, qpc htl hps hb15' ip0 ip1, by rw [List.length_append]; simp only [List.length_cons, List.length_nil]; omega⟩, A.keep _ (by repeat' constructor), M⟩
 ·
  have hb15' := ne_of_beq_false hb15
  refine sdc A qt hb15 λa A↦?_
  refine qa (hK14 _ _ (cf A ?_))
  refine wp_exit (hK9 _ _ (wsk fun K24 hK24 => vd (S := fun w1 => Mg w w1 (.obj g2 (.cells (p.d.cells p.ts.length).toArray 30) :: [])) (by kernel_rfl) ?_))
  replace M := M.drew
  refine atk A 0 rfl hP (M.sub (cN (cN (cC ns)))) (λ_ M↦qg rfl) λa A↦?_
  refine atk A 1 rfl hP (M.sub (cN (cN (cC ns)))) (λ_ M↦zy M xi rfl 0 rfl (cs := (p.d.cells p.ts.length)) rfl rfl) λa A↦?_
  refine atk A 2 rfl hP (M.sub (cN (cN (cC ns)))) (λ_ M↦qe rfl) λa A↦?_
  refine xn (by kernel_rfl) (zea (L' := (.row 30 11 (.slice so_ xs.length ca_) xs.length (cellsOf xs) :: .obj g4 (.cells (p.d.cells p.ts.length).toArray 30) :: .obj g2 (.cells (p.d.cells p.ts.length).toArray 30) :: [])) A M 3 rfl rfl rfl (zq rfl rfl rfl (by kernel_rfl) M 1 rfl rfl rfl) 1 rfl rfl rfl ?_)
  intro w25 M
  refine ⟨(M.sub (cN (cN (cC ns)))), ?_⟩
  refine xp (by kernel_rfl) ?_
  refine hK24 _ _ (wp_ret (hret _ _ (en2 A rfl (qj rfl) (qbd M xi rfl 1 rfl (cs := [iV p.d.k, iV p.d.n, bV p.d.y.q.b1, .slice p.d.y.o1 p.d.y.q.t1.length p.d.y.c1, .slice p.d.y.o2 p.d.y.q.q1.length p.d.y.c2, bV p.d.y.q.b2, .slice p.d.y.o3 p.d.y.q.t2.length p.d.y.c3, .slice p.d.y.o4 p.d.y.q.q2.length p.d.y.c4, .string p.d.s, .slice p.d.ro p.d.rl.length p.d.rc, .slice p.d.lo p.ts.length p.d.lc]) rfl rfl) ?_)))
  replace M := M.sub (cC (cN (cN (.refl _))))
  exact ⟨_, _, xs, p, rfl, ⟨zpi htl hps hb15' hxs.1 hxs.2.1 hxs.2.2 (by omega), hp⟩, M⟩
theorem kd {w0 w : World} {t : Dt} (h0 : Below w0.heap.size w0 w) (ht : t.rd w0) (hs : xl zl t.tr = true) (hb : t.tr.bulk ≤ 4000000) : Calls Tryz.prog 24 #[.agg (t.d.cells t.ts.length).toArray] w fun e w' => ∃ so' ca' xs, e = .returned (.tuple #[.slice so' (xs : List Dt).length ca', bV (zw t.tr).isSome]) ∧ Its w0 t xs ∧ Mg w w' [.row 30 11 (.slice so' xs.length ca') xs.length (cellsOf xs)] := by
 have M : Mg w w ([]) := Mg.start w
 refine qx (l := [(0, .agg (t.d.cells t.ts.length).toArray)]) Tryz.func24 rfl Tryz.ntmps24 rfl rfl ?_
 intro Q hret hnorm hP a A
 refine wsk fun K1 hK1 => wrl (jl (vs := (t.d.cells t.ts.length)) (t := 30) A M rfl rfl rfl pg (zd rfl rfl) (by decide) ?_)
 intro g2 w3 M a A
 iterate 2 refine sda A λa A↦?_
 refine qa (hK1 _ _ (wsk fun K4 hK4 => wrl (sdo A (zy M xi rfl 0 rfl (cs := (t.d.cells t.ts.length)) rfl rfl) λa A↦?_)))
 refine sct A (ef rfl rfl) (zcd (h0.trans (M.bel.mono h0.size)) ht hs hb) ?_
 rintro _ w8 ⟨so5, ca6, xs, q, rfl, ⟨⟨hIt, hq1⟩, hqr⟩, hM7⟩
 replace M : Mg w w8 (.row 30 11 (.slice so5 xs.length ca6) xs.length (cellsOf xs) :: .obj g2 (.cells (t.d.cells t.ts.length).toArray 30) :: []) := (M.both hM7 (qr (by simp) (qw za)) (qr (by simp) (qw za)))
 refine ⟨_, rfl, ?_⟩
 intro a A
 refine sdm A λa A↦?_
 iterate 2 refine sdo A (qi (vs := [.slice so5 xs.length ca6, .agg (q.d.cells q.ts.length).toArray]) rfl rfl) λa A↦?_
 refine jl (vs := (xk.d.cells xk.ts.length)) (t := 30) A M rfl rfl rfl pg (zv (z := .agg (xk.d.cells xk.ts.length).toArray) (by kernel_rfl) rfl) (by decide) ?_
 intro g9 w10 M a A
 refine sda A λa A↦?_
 refine ja (L' := (.obj g9 (.cells (q.d.cells q.ts.length).toArray 30) :: .row 30 11 (.slice so5 xs.length ca6) xs.length (cellsOf xs) :: .obj g2 (.cells (t.d.cells t.ts.length).toArray 30) :: [])) A M rfl rfl (zq rfl rfl rfl (by kernel_rfl) M 0 rfl rfl rfl) 0 rfl rfl rfl ?_
 intro w11 M
 refine qa (hK4 _ _ (wsk fun K12 hK12 => vd (S := fun w1 => Mg w w1 (.obj g9 (.cells (q.d.cells q.ts.length).toArray 30) :: [])) (by kernel_rfl) ?_))
 replace M := M.drew
 refine atk A 0 rfl hP (M.sub (cC (cN (cN ns)))) (λ_ M↦qg rfl) λa A↦?_
 refine atk (v := pA g9 0) A 1 rfl hP (M.sub (cC (cN (cN ns)))) (λ_ M↦qf vm rfl rfl) λa A↦?_
 refine atk A 2 rfl hP (M.sub (cC (cN (cN ns)))) (λ_ M↦zi M o93 rfl 0 rfl rfl) λa A↦?_
 refine atk (v := bV ((q.d.k == 1))) A 3 rfl hP (M.sub (cC (cN (cN ns)))) (λ_ M↦qh rfl rfl qt) λa A↦?_
 refine atk A 4 rfl hP (M.sub (cC (cN (cN ns)))) (λ_ M↦qe rfl) λa A↦?_
 refine atk A 5 rfl hP (M.sub (cC (cN (cN ns)))) (λ_ M↦qe rfl) λa A↦?_
 refine xp (by kernel_rfl) ?_
 refine hK12 _ _ (wp_ret (hret _ _ (en2 A rfl (qj rfl) (qj rfl) ?_)))
 replace M := M.sub (cN (cC (cN (.refl _))))
 exact ⟨_, _, xs, by rw [hq1], hIt, M⟩
theorem rword_any {w0 w : World} {t : Dt} (h0 : Below w0.heap.size w0 w) (ht : t.rd w0) (hs : xl zl t.tr = true) (hb : t.tr.bulk ≤ 4000000) : Calls Tryz.prog 25 #[.agg (t.d.cells t.ts.length).toArray] w fun e w' => e = .returned (.string (ky t.tr)) ∧ Below w.heap.size w w' := by
 have M : Mg w w ([]) := Mg.start w
 refine qx (l := [(0, .agg (t.d.cells t.ts.length).toArray)]) Tryz.func25 rfl Tryz.ntmps25 rfl rfl ?_
 intro Q hret hnorm hP a A
 refine wsk fun K1 hK1 => wrl (jl (vs := (t.d.cells t.ts.length)) (t := 30) A M rfl rfl rfl pg (zd rfl rfl) (by decide) ?_)
 intro g2 w3 M a A
 refine sda A λa A↦?_
 refine qa (hK1 _ _ (wsk fun K4 hK4 => wrl (sdo A (zy M xi rfl 0 rfl (cs := (t.d.cells t.ts.length)) rfl rfl) λa A↦?_)))
 rcases tf ((zw t.tr).isSome) with hb5 | hb5
 ·
  refine sct A (ef rfl rfl) ((hb5 ▸ kd (h0.trans (M.bel.mono h0.size)) ht hs (by omega))) ?_
  rintro _ w9 ⟨so6, ca7, xs, rfl, hIt, hM8⟩
  have hle9 := hIt.le
  replace M : Mg w w9 (.row 30 11 (.slice so6 xs.length ca7) xs.length (cellsOf xs) :: .obj g2 (.cells (t.d.cells t.ts.length).toArray 30) :: []) := (M.both hM8 (qr (by simp) (qw za)) (qr (by simp) (qw za)))
  refine ⟨_, rfl, ?_⟩
  intro a A
  refine sdm A λa A↦?_
  iterate 2 refine sdo A (qi (vs := [.slice so6 xs.length ca7, bV true]) rfl rfl) λa A↦?_
  iterate 2 refine sda A λa A↦?_
  refine qa (hK4 _ _ (wsk fun K10 hK10 => wsk fun K11 hK11 => wrl (sdm A λa A↦?_)))
  refine sdo (v := bV false) A (ql rfl qp) λa A↦?_
  iterate 2 refine sdm A λa A↦?_
  refine sdo A (qy Tryz.underlying28 rfl) λa A↦?_
  rcases tf ((((xs.length : Nat) : Int) == 0)) with hb12 | hb12
  ·
   have hb12' := eq_of_beq hb12
   refine sdc A qt hb12 λa A↦?_
   refine sdk (v := bV true) A λa A↦?_
   refine sdm A λa A↦?_
   iterate 5 refine qm A rfl rfl rfl λa A↦?_
   refine sdk (v := bV true) A λa A↦?_
   refine qa (hK11 _ _ (ct A ?_))
   refine wsk fun K13 hK13 => wrl (sda A λa A↦?_)
   refine qa (hK13 _ _ (wr1 hret A ?_))
   have ha9 := hIt.as hb5
   exact ⟨by rw [qlh ha9 (qih (by omega))], M.bel⟩
  ·
   have hb12' := ne_of_beq_false hb12
   refine sdc A qt hb12 λa A↦?_
   refine sdk (v := bV false) A λa A↦?_
   iterate 2 refine sdm A λa A↦?_
   obtain ⟨th, hith⟩ : ∃ t, xs[0]? = some t := ⟨_, List.getElem?_eq_getElem (by omega)⟩
   have hlth := (List.getElem?_eq_some_iff.1 hith).1
   have mth := List.mem_of_getElem? hith
   obtain ⟨bk14, ok15, lk16, Hk17⟩ := vg (jr (M.has 0 rfl)).1 (fun x hx => Dt.keep (h0.trans (M.bel.mono h0.size)) _ (hIt.rd x hx)) hith
   refine sdo (v := pA bk14 (ok15 + 0 * 11)) A (ze (k := 0) Tryz.underlying28 (by kernel_rfl) rfl rfl (by first | rfl | omega) lk16 hlth) λa A↦?_
   refine sdo (v := pA bk14 (ok15 + 0 * 11)) A (qf vm rfl rfl) λa A↦?_
   refine sdo A (vl (j := 0) (Mg.start _) Hk17 o93 rfl rfl rfl) λa A↦?_
   rcases tf ((th.d.k != 6)) with hb18 | hb18
   ·
    have hb18' := bne_iff_ne.1 hb18
    refine sdc A jm hb18 λa A↦?_
    refine sdk (v := bV true) A λa A↦?_
    refine qa (hK11 _ _ (ct A ?_))
    refine wsk fun K19 hK19 => wrl (sda A λa A↦?_)
    refine qa (hK19 _ _ (wr1 hret A ?_))
    have ha9 := hIt.as hb5
    exact ⟨by rw [qlh ha9 (qig hith (by first | exact hb18' | (have h9 := hb18'; omega)))], M.bel⟩
   ·
    have hb18' := bne_eq_false_iff_eq.1 hb18
    refine sdc A jm hb18 λa A↦?_
    refine sdk (v := bV false) A λa A↦?_
    refine qa (hK11 _ _ (cf A ?_))
    refine wp_skip (hK10 _ _ (wsk fun K20 hK20 => wrl (sdm A λa A↦?_)))
    obtain ⟨bk21, ok22, lk23, Hk24⟩ := vg (jr (M.has 0 rfl)).1 (fun x hx => Dt.keep (h0.trans (M.bel.mono h0.size)) _ (hIt.rd x hx)) hith
    refine sdo (v := pA bk21 (ok22 + 0 * 11)) A (ze (k := 0) Tryz.underlying28 (by kernel_rfl) rfl rfl (by first | rfl | omega) lk23 hlth) λa A↦?_
    refine sdo (v := pA bk21 (ok22 + 0 * 11 + 8)) A (qf ki rfl rfl) λa A↦?_
    refine sdo A (vl (j := 8) (Mg.start _) Hk24 o99 rfl rfl rfl) λa A↦?_
    refine sda A λa A↦?_
    refine qa (hK20 _ _ (wr1 hret A ?_))
    have ha9 := hIt.as hb5
    exact ⟨by rw [yq ha9 (xu hith (by have h9 := hb18'; omega)), zb hith], M.bel⟩
 ·
  refine sct A (ef rfl rfl) ((hb5 ▸ kd (h0.trans (M.bel.mono h0.size)) ht hs (by omega))) ?_
  rintro _ w28 ⟨so25, ca26, xs, rfl, hIt, hM27⟩
  have hle9 := hIt.le
  replace M : Mg w w28 (.row 30 11 (.slice so25 xs.length ca26) xs.length (cellsOf xs) :: .obj g2 (.cells (t.d.cells t.ts.length).toArray 30) :: []) := (M.both hM27 (qr (by simp) (qw za)) (qr (by simp) (qw za)))
  refine ⟨_, rfl, ?_⟩
  intro a A
  refine sdm A λa A↦?_
  iterate 2 refine sdo A (qi (vs := [.slice so25 xs.length ca26, bV false]) rfl rfl) λa A↦?_
  iterate 2 refine sda A λa A↦?_
  refine qa (hK4 _ _ (wsk fun K29 hK29 => wsk fun K30 hK30 => wrl (sdm A λa A↦?_)))
  refine sdo (v := bV true) A (ql rfl qp) λa A↦?_
  refine sdm A λa A↦?_
  iterate 3 refine qm A rfl rfl rfl λa A↦?_
  refine sdk (v := bV true) A λa A↦?_
  refine sdm A λa A↦?_
  iterate 5 refine qm A rfl rfl rfl λa A↦?_
  refine sdk (v := bV true) A λa A↦?_
  refine qa (hK30 _ _ (ct A ?_))
  refine wsk fun K31 hK31 => wrl (sda A λa A↦?_)
  refine qa (hK31 _ _ (wr1 hret A ?_))
  exact ⟨by rw [zld (vn hb5)], M.bel⟩
theorem qqd {w : World} {l : List Int} {sv : Option Addr} {cv : Nat} (hv : Rc w sv (izC l)) (hll : l.length ≤ 2000000) : Calls Tryz.prog 40 #[.slice sv l.length cv] w fun e w' => e = .returned (bV (!l.any vf)) ∧ Below w.heap.size w w' := by
 have M : Mg w w ([]) := Mg.start w
 refine qx (l := [(0, .slice sv l.length cv)]) Tryz.func40 rfl Tryz.ntmps40 rfl rfl ?_
 intro Q hret hnorm hP a A
 refine wsk fun K1 hK1 => wrl (sda A λa A↦?_)
 refine qa (hK1 _ _ (wsk fun K2 hK2 => wsk fun K3 hK3 => wrl (sda A λa A↦?_)))
 refine qa (hK3 _ _ (wp_block (jc (fun m_ a w1 => ∃ (i : Nat), m_ = 1 + (l.length - i) ∧ (i ≤ l.length ∧ ∀ (j : Nat) z, j < i → l[j]? = some z → vf z = false) ∧ Sl a 22 [(0, .slice sv l.length cv), (3, iV (((i : Nat) : Int)))] ∧ Mg w w1 ([])) _ ⟨0, rfl, ⟨Nat.zero_le _, fun j z h => absurd h (Nat.not_lt_zero _)⟩, A.keep _ ⟨rfl, rfl, trivial⟩, M⟩ ?_)))
 clear M A
 rintro m_ a w4 ⟨i, rfl, hinv6, A, M⟩ K5 hK5
 obtain ⟨hi0, hin9⟩ := hinv6
 refine wsk fun K7 hK7 => wsk fun K8 hK8 => wrl ?_
 iterate 2 refine sdm A λa A↦?_
 refine sdo A (qy Tryz.underlying38 rfl) λa A↦?_
 rcases tf (decide (((i : Nat) : Int) < ((l.length : Nat) : Int))) with hb9 | hb9
 ·
  have hb9' := of_decide_eq_true hb9
  refine sdc A zh hb9 λa A↦?_
  refine qa (hK8 _ _ (ct A ?_))
  refine wp_skip (hK7 _ _ (wsk fun K10 hK10 => wp_block (wsk fun K11 hK11 => wrl ?_)))
  iterate 2 refine sdm A λa A↦?_
  obtain ⟨bx12, ox13, ux14, hs15, hc16, hi17⟩ := hv.at1 (i := i) (by (try rw [uz]); omega)
  obtain ⟨z9, hz9, rfl⟩ := qse hi17
  refine sdo (v := pA bx12 (ox13 + i)) A (zf (k := i) Tryz.underlying38 (by kernel_rfl) rfl rfl (by first | rfl | omega) hs15 (by omega)) λa A↦?_
  refine sdo A (jt M hc16 o93 rfl) λa A↦?_
  rcases tf (decide (z9 < 0)) with hb18 | hb18
  ·
   have hb18' := of_decide_eq_true hb18
   refine sdc A zh hb18 λa A↦?_
   refine sdm A λa A↦?_
   iterate 5 refine qm A rfl rfl rfl λa A↦?_
   refine sdk (v := bV true) A λa A↦?_
   refine qa (hK11 _ _ (ct A ?_))
   refine wsk fun K19 hK19 => wrl (sda A λa A↦?_)
   refine qa (hK19 _ _ (wr1 hret A ?_))
   exact ⟨by rw [show l.any vf = true from List.any_eq_true.2 ⟨z9, List.mem_of_getElem? hz9, by unfold vf; simp_all⟩]; rfl, M.bel⟩
  ·
   have hb18' := of_decide_eq_false hb18
   refine sdc A zh hb18 λa A↦?_
   iterate 3 refine sdm A λa A↦?_
   refine sdo (v := pA bx12 (ox13 + i)) A (zf (k := i) Tryz.underlying38 (by kernel_rfl) rfl rfl (by first | rfl | omega) hs15 (by omega)) λa A↦?_
   refine sdo A (jt M hc16 o93 rfl) λa A↦?_
   rcases tf (decide (2147483647 < z9)) with hb20 | hb20
   ·
    have hb20' := of_decide_eq_true hb20
    refine sdc A ji hb20 λa A↦?_
    refine sdk (v := bV true) A λa A↦?_
    refine qa (hK11 _ _ (ct A ?_))
    refine wsk fun K21 hK21 => wrl (sda A λa A↦?_)
    refine qa (hK21 _ _ (wr1 hret A ?_))
    exact ⟨by rw [show l.any vf = true from List.any_eq_true.2 ⟨z9, List.mem_of_getElem? hz9, by unfold vf; simp_all⟩]; rfl, M.bel⟩
   ·
    have hb20' := of_decide_eq_false hb20
    refine sdc A ji hb20 λa A↦?_
    refine sdk (v := bV false) A λa A↦?_
    refine qa (hK11 _ _ (cf A ?_))
    refine wp_skip (hK10 _ _ (wrl (sdm A λa A↦?_)))
    refine sdo (v := iV (((i + 1 : Nat) : Int))) A (qh rfl rfl (ar_add ((in_i64 (by omega) (by omega)).trans (by omega)))) λa A↦?_
    refine sda A λa A↦?_
    refine qa ?_
    refine hK5 _ _ _ (by omega) ⟨i + 1, rfl, ⟨by omega, fun j z hj hz => if h9 : j < i then hin9 j z h9 hz else by have h8 : j = i := (by omega); subst h8; rw [hz9] at hz; rw [← Option.some.inj hz]; unfold vf; simp_all⟩, A.keep _ ⟨rfl, rfl, trivial⟩, M⟩
 ·
  have hb9' := of_decide_eq_false hb9
  refine sdc A zh hb9 λa A↦?_
  refine qa (hK8 _ _ (cf A ?_))
  refine wp_exit (hK2 _ _ (wsk fun K22 hK22 => wrl (sda A λa A↦?_)))
  refine qa (hK22 _ _ (wr1 hret A ?_))
  exact ⟨by rw [show l.any vf = false from List.any_eq_false.2 (fun z hz => (by obtain ⟨j, hj⟩ := List.mem_iff_getElem?.1 hz; rw [hin9 j z (by have := (List.getElem?_eq_some_iff.1 hj).1; omega) hj]; decide))]; rfl, M.bel⟩
theorem TrU_is1_21 : Is1 Tryz.prog 21 := ⟨⟨_, Tryz.underlying21, rfl⟩, by kernel_rfl⟩
theorem TrU_is1_5 : Is1 Tryz.prog 5 := ⟨⟨_, Tryz.underlying5, rfl⟩, by kernel_rfl⟩
open Go.Lib
theorem qhc {f p : Nat} {l : List UInt8} (hl : l ≠ []) : kn (f + 1) p l = ((p : Int), uR (decodeL l).1 (decodeL l).2) :: kn f (p + (decodeL l).2) (l.drop (decodeL l).2) := by
 conv => lhs; unfold kn
 rw [if_neg hl]
theorem zfa {w : World} {so : Option Addr} {l : List UInt8} {i : Nat} (h : Rb w so l) (hi : i < l.length) : ∃ b off, so = some ⟨b, off, none⟩ ∧ b < w.heap.size ∧ ∀ j, j < l.length → w.cell? ⟨b, off + j, none⟩ = some (.int .u8 (((l.getD j 0).toNat : Nat) : Int)) :=
 h.pos (fun k => by rw [k] at hi; exact absurd hi (Nat.not_lt_zero _))
def xm (us : List (Int × Int)) : List Value := us.flatMap fun u => if u.2 = -1 then [.int .i32 0, bV true, iV u.1] else [.int .i32 u.2, bV false, iV u.1]
theorem qti {x : Int} (i : Nat) (m : Int) (hm : m = ((2 ^ i - 1 : Nat) : Int)) (hs : m ≤ 255) (h0 : 0 ≤ x) (h1 : x ≤ 255) : bits .and .u8 x m = x % ((2 ^ i : Nat) : Int) := by
 obtain ⟨n, rfl⟩ : ∃ n : Nat, x = (n : Int) := ⟨x.toNat, by omega⟩
 subst hm
 have h2 : n &&& (2 ^ i - 1) = n % 2 ^ i := Nat.and_two_pow_sub_one_eq_mod n i
 have e : (BitVec.ofInt IntKind.u8.bits (n : Int) &&& BitVec.ofInt IntKind.u8.bits (((2 ^ i - 1 : Nat)) : Int)).toNat = n % 2 ^ i := by
  rw [← h2, BitVec.ofInt_natCast, BitVec.ofInt_natCast, BitVec.toNat_and, BitVec.toNat_ofNat, BitVec.toNat_ofNat]
  show n % 256 &&& (2 ^ i - 1) % 256 = _
  rw [Nat.mod_eq_of_lt (by omega), Nat.mod_eq_of_lt (by omega)]
 show IntKind.u8.wrap ((BitVec.ofInt IntKind.u8.bits (n : Int) &&& BitVec.ofInt IntKind.u8.bits (((2 ^ i - 1 : Nat)) : Int)).toNat : Int) = _
 rw [e]
 have := Nat.mod_le n (2 ^ i)
 exact (in_u8 (by omega) (by omega)).trans (Int.natCast_emod n (2 ^ i))
theorem zsh {c x : Int} (h0 : 0 ≤ c) (h1 : c ≤ 33554431) (h2 : 0 ≤ x) (h3 : x ≤ 63) : bits .or .i32 (c * 64) x = c * 64 + x := by
 obtain ⟨a, rfl⟩ : ∃ a : Nat, c = (a : Int) := ⟨c.toNat, by omega⟩
 obtain ⟨n, rfl⟩ : ∃ n : Nat, x = (n : Int) := ⟨x.toNat, by omega⟩
 have := Nat.two_pow_add_eq_or_of_lt (i := 6) (b := n) (by omega) a
 rw [show (2 : Nat) ^ 6 = 64 from rfl] at this
 have e := zrf (64 * a) n (by omega) (by omega)
 rw [show (((64 * a : Nat)) : Int) = (a : Int) * 64 from by omega] at e
 rw [e, ← this]
 omega
def qhd (l : List UInt8) (i : Nat) : List (Int × Int) := kn (l.length - i) i (l.drop i)
theorem zce (l : List UInt8) : qhd l 0 = xh l := by unfold qhd xh; rw [List.drop_zero, Nat.sub_zero]
theorem zcf {l : List UInt8} {i : Nat} (h : ¬ i < l.length) : qhd l i = [] := by unfold qhd; rw [show l.length - i = 0 from by omega]; rfl
theorem qli {l : List UInt8} {i r q : Nat} (h : i < l.length) (e : decodeN (l.length - i) (l.getD i 0).toNat (l.getD (i + 1) 0).toNat (l.getD (i + 2) 0).toNat (l.getD (i + 3) 0).toNat = (r, q)) : qhd l i = ((i : Int), uR r q) :: qhd l (i + q) := by
 have hne : l.drop i ≠ [] := fun k => by
  have := congrArg List.length k
  rw [List.length_drop, List.length_nil] at this
  omega
 have hd : decodeL (l.drop i) = (r, q) := by
  rw [decodeL_N, uw, uw, uw, uw, List.length_drop]
  exact e
 have hw := uh _ hne
 rw [hd, List.length_drop] at hw
 simp only at hw
 unfold qhd
 obtain ⟨m, hm⟩ : ∃ m, l.length - i = m + 1 := ⟨l.length - i - 1, by omega⟩
 rw [hm, qhc hne, hd, List.drop_drop]
 simp only
 rw [qgh m (l.length - (i + q)) _ _ (by rw [List.length_drop]; omega) (by rw [List.length_drop]; omega)]
def LeadU (x n : Nat) (r : Int) : Prop := (x < 128 ∧ n = 1 ∧ r = x) ∨ (192 ≤ x ∧ x < 224 ∧ n = 2 ∧ r = x % 32) ∨ (224 ≤ x ∧ x < 240 ∧ n = 3 ∧ r = x % 16) ∨ (240 ≤ x ∧ x < 248 ∧ n = 4 ∧ r = x % 8) ∨ ((128 ≤ x ∧ x < 192 ∨ 248 ≤ x) ∧ n = 0 ∧ r = 0)
def ContU (len i n : Nat) (b1 b2 b3 : Nat) (r : Int) (k : Nat) (rk : Int) (ok : Bool) : Prop := (ok = true ∧ 0 < n ∧ i + n ≤ len ∧ k ≤ n ∧ ((k = 1 ∧ rk = r) ∨ (k = 2 ∧ b1 / 64 = 2 ∧ rk = r * 64 + ((b1 % 64 : Nat) : Int)) ∨ (k = 3 ∧ b1 / 64 = 2 ∧ b2 / 64 = 2 ∧ rk = (r * 64 + ((b1 % 64 : Nat) : Int)) * 64 + ((b2 % 64 : Nat) : Int)) ∨ (k = 4 ∧ b1 / 64 = 2 ∧ b2 / 64 = 2 ∧ b3 / 64 = 2 ∧ rk = ((r * 64 + ((b1 % 64 : Nat) : Int)) * 64 + ((b2 % 64 : Nat) : Int)) * 64 + ((b3 % 64 : Nat) : Int)))) ∨
 (ok = false ∧ (¬ (0 < n ∧ i + n ≤ len) ∨ (1 < n ∧ b1 / 64 ≠ 2) ∨ (2 < n ∧ b2 / 64 ≠ 2) ∨ (3 < n ∧ b3 / 64 ≠ 2)))
def qdj (n : Nat) : Int := if n = 2 then 128 else if n = 3 then 2048 else 65536
theorem zlh {n : Nat} (h0 : 2 ≤ n) (h1 : n ≤ 4) : ([.int .i32 0, .int .i32 0, .int .i32 128, .int .i32 2048, .int .i32 65536] : List Value)[n * 1]? = some (.int .i32 (qdj n)) := by
 have h : n = 2 ∨ n = 3 ∨ n = 4 := by omega
 rcases h with rfl | rfl | rfl <;> rfl
theorem zsi {x n : Nat} {r : Int} (h : LeadU x n r) : n ≤ 4 ∧ 0 ≤ r ∧ r ≤ 127 ∧ (1 < n → r ≤ 31) := by unfold LeadU at h; omega
theorem zcg {len i n b1 b2 b3 : Nat} {r : Int} {ok : Bool} (h : ok = decide (0 < n ∧ i + n ≤ len)) : ContU len i n b1 b2 b3 r 1 r ok := by
 unfold ContU
 by_cases k : 0 < n ∧ i + n ≤ len
 ·
  exact .inl ⟨by rw [h, decide_eq_true k], k.1, k.2, by omega, .inl ⟨rfl, rfl⟩⟩
 ·
  exact .inr ⟨by rw [h, decide_eq_false k], .inl k⟩
theorem zgi {l : List UInt8} {i n k : Nat} {r rk : Int} (hn : n ≤ 4) (h : ContU l.length i n (l.getD (i + 1) 0).toNat (l.getD (i + 2) 0).toNat (l.getD (i + 3) 0).toNat r k rk true) (hk : k < n) : ContU l.length i n (l.getD (i + 1) 0).toNat (l.getD (i + 2) 0).toNat (l.getD (i + 3) 0).toNat r (k + 1) (rk * 64 + (((l.getD (i + k) 0).toNat : Nat) : Int) % 64) ((((l.getD (i + k) 0).toNat : Nat) : Int) / 64 == 2) := by
 rcases h with ⟨_, h1, h2, h3, h4⟩ | ⟨h, _⟩
 ·
  unfold ContU
  have e : k = 1 ∨ k = 2 ∨ k = 3 := by omega
  rcases e with rfl | rfl | rfl
  ·
   by_cases hb : (((l.getD (i + 1) 0).toNat : Nat) : Int) / 64 = 2
   ·
    exact .inl ⟨beq_iff_eq.2 hb, h1, h2, by omega, by omega⟩
   ·
    exact .inr ⟨beq_eq_false_iff_ne.2 hb, by omega⟩
  ·
   by_cases hb : (((l.getD (i + 2) 0).toNat : Nat) : Int) / 64 = 2
   ·
    exact .inl ⟨beq_iff_eq.2 hb, h1, h2, by omega, by omega⟩
   ·
    exact .inr ⟨beq_eq_false_iff_ne.2 hb, by omega⟩
  ·
   by_cases hb : (((l.getD (i + 3) 0).toNat : Nat) : Int) / 64 = 2
   ·
    exact .inl ⟨beq_iff_eq.2 hb, h1, h2, by omega, by omega⟩
   ·
    exact .inr ⟨beq_eq_false_iff_ne.2 hb, by omega⟩
 ·
  cases h
theorem yx {len i n b1 b2 b3 k : Nat} {r rk : Int} (h : ContU len i n b1 b2 b3 r k rk true) : 0 < n ∧ i + n ≤ len ∧ k ≤ n ∧ 1 ≤ k ∧ (0 ≤ r → r ≤ 31 → k ≤ 3 → 0 ≤ rk ∧ rk ≤ 200000) ∧ (0 ≤ r → r ≤ 31 → 0 ≤ rk ∧ rk ≤ 40000000) ∧ (k = 1 → rk = r) := by
 rcases h with ⟨_, h1, h2, h3, h4⟩ | ⟨h, _⟩
 ·
  omega
 ·
  cases h
def EndU (len i n : Nat) (b0 b1 b2 b3 : Nat) (rk : Int) (ok : Bool) : Prop := (ok = true ∧ decodeN (len - i) b0 b1 b2 b3 = (rk.toNat, n) ∧ uR rk.toNat n = rk ∧ 0 ≤ rk ∧ 1 ≤ n ∧ i + n ≤ len) ∨ (ok = false ∧ decodeN (len - i) b0 b1 b2 b3 = (65533, 1))
theorem zch {len i n b0 b1 b2 b3 : Nat} {r rk : Int} (hi : i < len) (h0 : b0 < 256) (hL : LeadU b0 n r) (hC : ContU len i n b1 b2 b3 r n rk true) (h : n = 1 ∨ (qdj n ≤ rk ∧ rk ≤ 1114111 ∧ (rk < 55296 ∨ 57343 < rk))) : EndU len i n b0 b1 b2 b3 rk true := by
 rcases hC with ⟨_, h1, h2, h3, h4⟩ | ⟨h, _⟩
 ·
  unfold LeadU at hL
  unfold qdj at h
  have hn : n = 1 ∨ n = 2 ∨ n = 3 ∨ n = 4 := by omega
  refine .inl ⟨rfl, ?_, ?_, by rcases hn with rfl | rfl | rfl | rfl <;> omega, h1, h2⟩
  ·
   unfold decodeN
   rcases hn with rfl | rfl | rfl | rfl
   ·
    rw [if_pos (by omega)]
    exact Prod.ext (by show b0 = rk.toNat; omega) rfl
   ·
    simp only [if_true] at h
    rw [if_neg (by omega), if_pos (by omega), if_pos (by omega)]
    exact Prod.ext (by show (_ : Nat) = rk.toNat; omega) rfl
   ·
    rw [if_neg (show ¬ 3 = 2 by decide), if_pos rfl] at h
    rw [if_neg (by omega), if_neg (by omega), if_pos (by omega), if_pos (by omega)]
    exact Prod.ext (by show (_ : Nat) = rk.toNat; omega) rfl
   ·
    rw [if_neg (show ¬ 4 = 2 by decide), if_neg (show ¬ 4 = 3 by decide)] at h
    rw [if_neg (by omega), if_neg (by omega), if_neg (by omega), if_pos (by omega), if_pos (by omega)]
    exact Prod.ext (by show (_ : Nat) = rk.toNat; omega) rfl
  ·
   unfold uR
   rw [if_neg (by rcases hn with rfl | rfl | rfl | rfl <;> omega)]
   rcases hn with rfl | rfl | rfl | rfl <;> omega
 ·
  cases h
theorem qtj {len i n b0 b1 b2 b3 k : Nat} {r rk : Int} {ok : Bool} (hi : i < len) (h0 : b0 < 256) (hL : LeadU b0 n r) (hC : ContU len i n b1 b2 b3 r k rk ok) (hk : ok = true → k = n) (h : ok = false ∨ (n ≠ 1 ∧ ¬ (qdj n ≤ rk ∧ rk ≤ 1114111 ∧ (rk < 55296 ∨ 57343 < rk)))) : EndU len i n b0 b1 b2 b3 rk false := by
 refine .inr ⟨rfl, ?_⟩
 unfold LeadU at hL
 unfold decodeN
 rcases hC with ⟨hb, h1, h2, h3, h4⟩ | ⟨hb, h4⟩
 ·
  have hkn := hk hb
  subst hkn
  rcases h with h | ⟨h5, h6⟩
  ·
   rw [hb] at h; cases h
  ·
   have hn : k = 2 ∨ k = 3 ∨ k = 4 := by omega
   unfold qdj at h6
   rcases hn with rfl | rfl | rfl
   ·
    simp only [if_true] at h6
    rw [if_neg (by omega), if_pos (by omega), if_neg (by omega)]
   ·
    rw [if_neg (show ¬ 3 = 2 by decide), if_pos rfl] at h6
    rw [if_neg (by omega), if_neg (by omega), if_pos (by omega), if_neg (by omega)]
   ·
    rw [if_neg (show ¬ 4 = 2 by decide), if_neg (show ¬ 4 = 3 by decide)] at h6
    rw [if_neg (by omega), if_neg (by omega), if_neg (by omega), if_pos (by omega), if_neg (by omega)]
 ·
  rw [if_neg (by omega), if_neg (by omega), if_neg (by omega), if_neg (by omega)]
theorem zgj {w : World} {so : Option Addr} {cap : Nat} {l : List UInt8} (hb : Rb w so l) (hlen : l.length ≤ 4000000) : Calls Tryz.prog 193 #[.slice so l.length cap] w fun e w' => ∃ v, e = .returned v ∧ Mg w w' [.row 219 3 v (xh l).length (xm (xh l))] := by
 have M : Mg w w ([]) := Mg.start w
 refine qx (l := [(0, .slice so l.length cap)]) Tryz.func193 rfl Tryz.ntmps193 rfl rfl ?_
 intro Q hret hnorm hP a A
 refine wsk fun K1 hK1 => wrl (sda A λa A↦?_)
 refine qa (hK1 _ _ (wsk fun K2 hK2 => wrl (kx (e := 219) (sz := 3) (m := 0) (vs := []) A M rfl rfl rfl (zp rfl (by kernel_rfl)) rfl rfl (.inl (by decide)) ?_)))
 intro g3 w4 M a A
 refine sda A λa A↦?_
 refine qa (hK2 _ _ (wsk fun K5 hK5 => wsk fun K6 hK6 => wrl (sda A λa A↦?_)))
 refine qa (hK6 _ _ (wp_block (jc (fun m_ a w1 => ∃ (i : Nat) (acc : List (Int × Int)) (vo : Value), m_ = l.length - i ∧ (acc ++ qhd l i = xh l ∧ i ≤ l.length ∧ acc.length ≤ i) ∧ Sl a 122 [(0, .slice so l.length cap), (2, .slice none 0 0), (3, vo), (4, iV (((i : Nat) : Int))), (12, .slice (aO g3) 0 0)] ∧ Mg w w1 (.row 219 3 (vo) acc.length ((xm acc)) :: [])) _ ⟨0, [], .slice (aO g3) 0 0, rfl, ⟨by rw [zce]; rfl, Nat.zero_le _, Nat.le_refl _⟩, A.keep _ ⟨rfl, rfl, rfl, rfl, rfl, trivial⟩, M⟩ ?_)))
 clear M A
 rintro m_ a w7 ⟨i, acc, vo, rfl, hinv9, A, M⟩ K8 hK8
 obtain ⟨hrun, hi9, hacc⟩ := hinv9
 refine wsk fun K10 hK10 => wsk fun K11 hK11 => wrl ?_
 iterate 2 refine sdm A λa A↦?_
 refine sdo A (qy Tryz.underlying27 rfl) λa A↦?_
 rcases tf (decide (((i : Nat) : Int) < ((l.length : Nat) : Int))) with hb12 | hb12
 ·
  have hb12' := of_decide_eq_true hb12
  refine sdc A zh hb12 λa A↦?_
  refine qa (hK11 _ _ (ct A ?_))
  refine wp_skip (hK10 _ _ (wp_block (wsk fun K13 hK13 => wrl ?_)))
  iterate 2 refine sda A λa A↦?_
  refine qa (hK13 _ _ (wsk fun K14 hK14 => ?_))
  have hi8 : i < l.length := by omega
  refine wrl ?_
  iterate 2 refine sdm A λa A↦?_
  obtain ⟨bx, ox, hx1, hx2, hx3⟩ := zfa (i := i) hb (by omega)
  have hu9 := (l.getD (i) 0).toNat_lt
  refine sdo (v := pA bx (ox + (i))) A (zf (k := i) Tryz.underlying27 (by kernel_rfl) rfl rfl rfl hx1 (by omega)) λa A↦?_
  refine sdo (v := .int .u8 ((((l.getD i 0).toNat : Nat) : Int))) A (zeb M hx2 (hx3 (i) (by omega)) TrU_is1_5 rfl) λa A↦?_
  refine sda A λa A↦?_
  refine qa (hK14 _ _ (wsk fun K15 hK15 => ?_))
  have hJ16 : ∀ a w1, (∃ (n : Nat) (r : Int), (LeadU (l.getD i 0).toNat n r) ∧ Sl a 122 [(0, .slice so l.length cap), (2, .slice none 0 0), (3, vo), (4, iV (((i : Nat) : Int))), (5, iV (((n : Nat) : Int))), (6, .int .i32 r), (12, .slice (aO g3) 0 0), (13, iV (((i : Nat) : Int))), (14, .slice so l.length cap), (15, iV (((l.length : Nat) : Int))), (16, bV true), (17, .slice so l.length cap), (18, iV (((i : Nat) : Int))), (19, pA bx (ox + (i))), (20, .int .u8 ((((l.getD i 0).toNat : Nat) : Int)))] ∧ Mg w w1 (.row 219 3 (vo) acc.length ((xm acc)) :: [])) → K15 a w1 := by
   clear A M
   rintro a w17 ⟨n, r, hf18, A, M⟩
   have hL := hf18
   have hn4 := zsi hL
   refine hK15 _ _ (wsk fun K19 hK19 => ?_)
   have hJ20 : ∀ a w1, (∃ (ok : Bool), (ok = decide (0 < n ∧ i + n ≤ l.length)) ∧ Sl a 122 [(0, .slice so l.length cap), (2, .slice none 0 0), (3, vo), (4, iV (((i : Nat) : Int))), (5, iV (((n : Nat) : Int))), (6, .int .i32 r), (8, bV ok), (12, .slice (aO g3) 0 0), (13, iV (((i : Nat) : Int))), (14, .slice so l.length cap), (15, iV (((l.length : Nat) : Int))), (16, bV true), (17, .slice so l.length cap), (18, iV (((i : Nat) : Int))), (19, pA bx (ox + (i))), (20, .int .u8 ((((l.getD i 0).toNat : Nat) : Int)))] ∧ Mg w w1 (.row 219 3 (vo) acc.length ((xm acc)) :: [])) → K19 a w1 := by
    clear A M
    rintro a w21 ⟨ok, hf22, A, M⟩
    have hok := hf22
    refine hK19 _ _ (wsk fun K23 hK23 => ?_)
    have hJ24 : ∀ a w1, (∃ (k : Nat) (rk : Int) (ok3 : Bool), (ContU l.length i n (l.getD (i + 1) 0).toNat (l.getD (i + 2) 0).toNat (l.getD (i + 3) 0).toNat r k rk ok3 ∧ (ok3 = true → k = n)) ∧ Sl a 122 [(0, .slice so l.length cap), (2, .slice none 0 0), (3, vo), (4, iV (((i : Nat) : Int))), (5, iV (((n : Nat) : Int))), (6, .int .i32 rk), (8, bV ok3), (12, .slice (aO g3) 0 0), (13, iV (((i : Nat) : Int))), (14, .slice so l.length cap), (15, iV (((l.length : Nat) : Int))), (16, bV true), (17, .slice so l.length cap), (18, iV (((i : Nat) : Int))), (19, pA bx (ox + (i))), (20, .int .u8 ((((l.getD i 0).toNat : Nat) : Int)))] ∧ Mg w w1 (.row 219 3 (vo) acc.length ((xm acc)) :: [])) → K23 a w1 := by
     clear A M
     rintro a w25 ⟨k, rk, ok3, hf26, A, M⟩
     obtain ⟨hC, hkn⟩ := hf26
     refine hK23 _ _ (wsk fun K27 hK27 => ?_)
     have hJ28 : ∀ a w1, (∃ (ok4 : Bool), (EndU l.length i n (l.getD i 0).toNat (l.getD (i + 1) 0).toNat (l.getD (i + 2) 0).toNat (l.getD (i + 3) 0).toNat rk ok4) ∧ Sl a 122 [(0, .slice so l.length cap), (2, .slice none 0 0), (3, vo), (4, iV (((i : Nat) : Int))), (5, iV (((n : Nat) : Int))), (6, .int .i32 rk), (8, bV ok4), (12, .slice (aO g3) 0 0), (13, iV (((i : Nat) : Int))), (14, .slice so l.length cap), (15, iV (((l.length : Nat) : Int))), (16, bV true), (17, .slice so l.length cap), (18, iV (((i : Nat) : Int))), (19, pA bx (ox + (i))), (20, .int .u8 ((((l.getD i 0).toNat : Nat) : Int)))] ∧ Mg w w1 (.row 219 3 (vo) acc.length ((xm acc)) :: [])) → K27 a w1 := by
      clear A M
      rintro a w29 ⟨ok4, hf30, A, M⟩
      have hE := hf30
      refine hK27 _ _ (wsk fun K31 hK31 => wrl (sdm A λa A↦?_))
      refine qa (hK31 _ _ ?_)
      refine wp_cond_split (t := ok4) (A.ev rfl) (fun hc32 => ?_) (fun hc32 => ?_)
      ·
       refine wsk fun K33 hK33 => wrl ?_
       iterate 3 refine sdm A λa A↦?_
       refine sdo (v := .agg #[.int .i32 rk, bV false, iV (((i : Nat) : Int))]) A (xr rfl (fun w => by kernel_rfl)) λa A↦?_
       refine kx (e := 219) (sz := 3) (m := 1) (vs := [.int .i32 rk, bV false, iV (((i : Nat) : Int))]) A M rfl rfl rfl (zp rfl (by kernel_rfl)) rfl rfl (.inl (by decide)) ?_
       intro g34 w35 M a A
       refine kf (e := 219) (sz := 3) (k := 1) (q := acc.length) (m := 1) (xs := (xm acc)) (news := [.int .i32 rk, bV false, iV (((i : Nat) : Int))]) (L' := fun v36 => (.row 219 3 (.slice (aO g34) 1 1) 1 ([.int .i32 rk, bV false, iV (((i : Nat) : Int))]) :: .row 219 3 (v36) (acc.length + 1) ((xm acc) ++ [.int .i32 rk, bV false, iV (((i : Nat) : Int))]) :: [])) A rfl rfl rfl (qoh (z := .agg #[.int .i32 0, bV false, iV 0]) (sz := 3) (by_ := 16) Tryz.underlying216 (by kernel_rfl) rfl rfl rfl M 1 rfl rfl 0 rfl rfl rfl rfl (by omega)) (fun _ => rfl) ?_
       intro v36 w37 M a A
       refine sda A λa A↦?_
       refine qa (hK33 _ _ (wrl ?_))
       iterate 2 refine sdm A λa A↦?_
       refine sdo (v := iV (((i + n : Nat) : Int))) A (qh rfl rfl (ar_add ((in_i64 (by omega) (by omega)).trans (by omega)))) λa A↦?_
       refine sda A λa A↦?_
       refine qa ?_
       obtain ⟨hd, hr9, hrk, hn1, hn2⟩ : decodeN (l.length - i) (l.getD i 0).toNat (l.getD (i + 1) 0).toNat (l.getD (i + 2) 0).toNat (l.getD (i + 3) 0).toNat = (rk.toNat, n) ∧ uR rk.toNat n = rk ∧ 0 ≤ rk ∧ 1 ≤ n ∧ i + n ≤ l.length := by
        rcases hE with ⟨_, h⟩ | ⟨h, _⟩
        ·
         exact h
        ·
         rw [hc32] at h; cases h
       have hs9 := qli hi8 hd
       rw [hr9] at hs9
       replace M : Mg w w37 [.row 219 3 v36 (acc ++ [((i : Int), rk)]).length (xm (acc ++ [((i : Int), rk)]))] := by
        have h9 := M.sub (cN (cC (.refl _)))
        have e9 : xm (acc ++ [((i : Int), rk)]) = xm acc ++ [.int .i32 rk, bV false, iV (((i : Nat) : Int))] := by
         unfold xm
         rw [List.flatMap_append, List.flatMap_singleton]
         rw [if_neg (show ¬ _ = (-1 : Int) by simp only; omega)]
        rw [e9, List.length_append]
        exact h9
       refine hK8 _ _ _ (by omega) ⟨i + n, acc ++ [((i : Int), rk)], v36, rfl, ⟨by rw [← hrun, hs9, List.append_assoc]; rfl, by omega, by rw [List.length_append]; simp only [List.length_cons, List.length_nil]; omega⟩, A.keep _ ⟨rfl, rfl, rfl, rfl, rfl, trivial⟩, M⟩
      ·
       refine wsk fun K38 hK38 => wrl ?_
       iterate 2 refine sdm A λa A↦?_
       refine sdo (v := .agg #[.int .i32 0, bV true, iV (((i : Nat) : Int))]) A (xr rfl (fun w => by kernel_rfl)) λa A↦?_
       refine kx (e := 219) (sz := 3) (m := 1) (vs := [.int .i32 0, bV true, iV (((i : Nat) : Int))]) A M rfl rfl rfl (zp rfl (by kernel_rfl)) rfl rfl (.inl (by decide)) ?_
       intro g39 w40 M a A
       refine kf (e := 219) (sz := 3) (k := 1) (q := acc.length) (m := 1) (xs := (xm acc)) (news := [.int .i32 0, bV true, iV (((i : Nat) : Int))]) (L' := fun v41 => (.row 219 3 (.slice (aO g39) 1 1) 1 ([.int .i32 0, bV true, iV (((i : Nat) : Int))]) :: .row 219 3 (v41) (acc.length + 1) ((xm acc) ++ [.int .i32 0, bV true, iV (((i : Nat) : Int))]) :: [])) A rfl rfl rfl (qoh (z := .agg #[.int .i32 0, bV false, iV 0]) (sz := 3) (by_ := 16) Tryz.underlying216 (by kernel_rfl) rfl rfl rfl M 1 rfl rfl 0 rfl rfl rfl rfl (by omega)) (fun _ => rfl) ?_
       intro v41 w42 M a A
       refine sda A λa A↦?_
       refine qa (hK38 _ _ (wrl (sdm A λa A↦?_)))
       refine sdo (v := iV (((i + 1 : Nat) : Int))) A (qh rfl rfl (ar_add ((in_i64 (by omega) (by omega)).trans (by omega)))) λa A↦?_
       refine sda A λa A↦?_
       refine qa ?_
       have hd : decodeN (l.length - i) (l.getD i 0).toNat (l.getD (i + 1) 0).toNat (l.getD (i + 2) 0).toNat (l.getD (i + 3) 0).toNat = (65533, 1) := by
        rcases hE with ⟨h, _⟩ | ⟨_, h⟩
        ·
         rw [hc32] at h; cases h
        ·
         exact h
       have hr9 : uR 65533 1 = -1 := by unfold uR; rw [if_pos ⟨rfl, by decide⟩]
       have hs9 := qli hi8 hd
       rw [hr9] at hs9
       replace M : Mg w w42 [.row 219 3 v41 (acc ++ [((i : Int), (-1))]).length (xm (acc ++ [((i : Int), (-1))]))] := by
        have h9 := M.sub (cN (cC (.refl _)))
        have e9 : xm (acc ++ [((i : Int), (-1))]) = xm acc ++ [.int .i32 0, bV true, iV (((i : Nat) : Int))] := by
         unfold xm
         rw [List.flatMap_append, List.flatMap_singleton]
         rw [if_pos rfl]
        rw [e9, List.length_append]
        exact h9
       refine hK8 _ _ _ (by omega) ⟨i + 1, acc ++ [((i : Int), (-1))], v41, rfl, ⟨by rw [← hrun, hs9, List.append_assoc]; rfl, by omega, by rw [List.length_append]; simp only [List.length_cons, List.length_nil]; omega⟩, A.keep _ ⟨rfl, rfl, rfl, rfl, rfl, trivial⟩, M⟩
     refine wsk fun K43 hK43 => wrl ?_
     iterate 2 refine sdm A λa A↦?_
     rcases ok3 with _ | _
     ·
      iterate 2 refine qm A rfl rfl rfl λa A↦?_
      refine sdk (v := bV false) A λa A↦?_
      refine qa (hK43 _ _ (cf A ?_))
      refine wp_skip ?_
      replace M : Mg w w25 (.row 219 3 (vo) acc.length ((xm acc)) :: []) := by
       have h9 := M.sub (cC (.refl _))
       exact h9
      exact hJ28 _ _ ⟨false, qtj hi8 ((l.getD i 0).toNat_lt) hL hC hkn (.inl rfl), A.keep _ (by repeat' constructor), M⟩
     ·
      refine sdm A λa A↦?_
      rcases tf (decide (1 < ((n : Nat) : Int))) with hb44 | hb44
      ·
       have hb44' := of_decide_eq_true hb44
       refine sdc A ji hb44 λa A↦?_
       refine sdk (v := bV true) A λa A↦?_
       refine qa (hK43 _ _ (ct A ?_))
       refine wsk fun K45 hK45 => wrl (kx (e := 21) (sz := 1) (m := 5) (vs := [.int .i32 0, .int .i32 0, .int .i32 128, .int .i32 2048, .int .i32 65536]) A M rfl rfl rfl (zp rfl (by kernel_rfl)) rfl rfl (.inl (by decide)) ?_)
       intro g46 w47 M a A
       refine sda A λa A↦?_
       refine qa (hK45 _ _ ?_)
       have hc9 := yx hC
       refine wrl ?_
       iterate 3 refine sdm A λa A↦?_
       refine sdo (v := pA g46 (n * 1)) A (vi (k := n) Tryz.underlying243 (by kernel_rfl) rfl rfl rfl (by omega)) λa A↦?_
       refine sdo (v := .int .i32 (qdj n)) A (qre M 0 rfl (zlh (by omega) (by omega)) TrU_is1_21 rfl) λa A↦?_
       rcases tf (decide (qdj n ≤ rk)) with hb48 | hb48
       ·
        have hb48' := of_decide_eq_true hb48
        refine sdc A ju hb48 λa A↦?_
        iterate 2 refine sdm A λa A↦?_
        rcases tf (decide (rk ≤ 1114111)) with hb49 | hb49
        ·
         have hb49' := of_decide_eq_true hb49
         refine sdc A vu hb49 λa A↦?_
         refine sdk (v := bV true) A λa A↦?_
         iterate 2 refine sdm A λa A↦?_
         rcases tf (decide (rk < 55296)) with hb50 | hb50
         ·
          have hb50' := of_decide_eq_true hb50
          refine sdc A zh hb50 λa A↦?_
          refine sdm A λa A↦?_
          iterate 2 refine qm A rfl rfl rfl λa A↦?_
          iterate 2 refine sdk (v := bV true) A λa A↦?_
          refine sda A λa A↦?_
          refine qa ?_
          replace M : Mg w w47 (.row 219 3 (vo) acc.length ((xm acc)) :: []) := by
           have h9 := M.sub (cN (cC (.refl _)))
           exact h9
          have hc8 := yx hC
          exact hJ28 _ _ ⟨true, zch hi8 ((l.getD i 0).toNat_lt) hL (hkn rfl ▸ hC) (by omega), A.keep _ (by repeat' constructor), M⟩
         ·
          have hb50' := of_decide_eq_false hb50
          refine sdc A zh hb50 λa A↦?_
          iterate 2 refine sdm A λa A↦?_
          rcases tf (decide (57343 < rk)) with hb51 | hb51
          ·
           have hb51' := of_decide_eq_true hb51
           refine sdc A ji hb51 λa A↦?_
           iterate 2 refine sdk (v := bV true) A λa A↦?_
           refine sda A λa A↦?_
           refine qa ?_
           replace M : Mg w w47 (.row 219 3 (vo) acc.length ((xm acc)) :: []) := by
            have h9 := M.sub (cN (cC (.refl _)))
            exact h9
           have hc8 := yx hC
           exact hJ28 _ _ ⟨true, zch hi8 ((l.getD i 0).toNat_lt) hL (hkn rfl ▸ hC) (by omega), A.keep _ (by repeat' constructor), M⟩
          ·
           have hb51' := of_decide_eq_false hb51
           refine sdc A ji hb51 λa A↦?_
           iterate 2 refine sdk (v := bV false) A λa A↦?_
           refine sda A λa A↦?_
           refine qa ?_
           replace M : Mg w w47 (.row 219 3 (vo) acc.length ((xm acc)) :: []) := by
            have h9 := M.sub (cN (cC (.refl _)))
            exact h9
           have hc8 := yx hC
           exact hJ28 _ _ ⟨false, qtj hi8 ((l.getD i 0).toNat_lt) hL hC hkn (.inr ⟨by omega, by omega⟩), A.keep _ (by repeat' constructor), M⟩
        ·
         have hb49' := of_decide_eq_false hb49
         refine sdc A vu hb49 λa A↦?_
         refine sdk (v := bV false) A λa A↦?_
         refine sdm A λa A↦?_
         iterate 3 refine qm A rfl rfl rfl λa A↦?_
         iterate 2 refine kz A rfl rfl rfl λa A↦?_
         refine qm A rfl rfl rfl λa A↦?_
         refine sdk (v := bV false) A λa A↦?_
         refine sda A λa A↦?_
         refine qa ?_
         replace M : Mg w w47 (.row 219 3 (vo) acc.length ((xm acc)) :: []) := by
          have h9 := M.sub (cN (cC (.refl _)))
          exact h9
         have hc8 := yx hC
         exact hJ28 _ _ ⟨false, qtj hi8 ((l.getD i 0).toNat_lt) hL hC hkn (.inr ⟨by omega, by omega⟩), A.keep _ (by repeat' constructor), M⟩
       ·
        have hb48' := of_decide_eq_false hb48
        refine sdc A ju hb48 λa A↦?_
        refine sdm A λa A↦?_
        iterate 2 refine qm A rfl rfl rfl λa A↦?_
        refine sdk (v := bV false) A λa A↦?_
        refine sdm A λa A↦?_
        iterate 3 refine qm A rfl rfl rfl λa A↦?_
        iterate 2 refine kz A rfl rfl rfl λa A↦?_
        refine qm A rfl rfl rfl λa A↦?_
        refine sdk (v := bV false) A λa A↦?_
        refine sda A λa A↦?_
        refine qa ?_
        replace M : Mg w w47 (.row 219 3 (vo) acc.length ((xm acc)) :: []) := by
         have h9 := M.sub (cN (cC (.refl _)))
         exact h9
        have hc8 := yx hC
        exact hJ28 _ _ ⟨false, qtj hi8 ((l.getD i 0).toNat_lt) hL hC hkn (.inr ⟨by omega, by omega⟩), A.keep _ (by repeat' constructor), M⟩
      ·
       have hb44' := of_decide_eq_false hb44
       refine sdc A ji hb44 λa A↦?_
       refine sdk (v := bV false) A λa A↦?_
       refine qa (hK43 _ _ (cf A ?_))
       refine wp_skip ?_
       replace M : Mg w w25 (.row 219 3 (vo) acc.length ((xm acc)) :: []) := by
        have h9 := M.sub (cC (.refl _))
        exact h9
       have hc8 := yx hC
       exact hJ28 _ _ ⟨true, zch hi8 ((l.getD i 0).toNat_lt) hL (hkn rfl ▸ hC) (by omega), A.keep _ (by repeat' constructor), M⟩
    refine wsk fun K52 hK52 => wrl (sda A λa A↦?_)
    refine qa (hK52 _ _ (wp_block (jc (fun m_ a w1 => ∃ (k : Nat) (rk : Int) (ok2 : Bool), m_ = 5 - k ∧ (ContU l.length i n (l.getD (i + 1) 0).toNat (l.getD (i + 2) 0).toNat (l.getD (i + 3) 0).toNat r k rk ok2) ∧ Sl a 122 [(0, .slice so l.length cap), (2, .slice none 0 0), (3, vo), (4, iV (((i : Nat) : Int))), (5, iV (((n : Nat) : Int))), (6, .int .i32 rk), (8, bV ok2), (9, iV (((k : Nat) : Int))), (12, .slice (aO g3) 0 0), (13, iV (((i : Nat) : Int))), (14, .slice so l.length cap), (15, iV (((l.length : Nat) : Int))), (16, bV true), (17, .slice so l.length cap), (18, iV (((i : Nat) : Int))), (19, pA bx (ox + (i))), (20, .int .u8 ((((l.getD i 0).toNat : Nat) : Int)))] ∧ Mg w w1 (.row 219 3 (vo) acc.length ((xm acc)) :: [])) _ ⟨1, r, ok, rfl, zcg hok, A.keep _ (by repeat' constructor), M⟩ ?_)))
    clear M A
    rintro m_ a w53 ⟨k, rk, ok2, rfl, hinv55, A, M⟩ K54 hK54
    have hC := hinv55
    refine wsk fun K56 hK56 => wsk fun K57 hK57 => wrl ?_
    iterate 2 refine sdm A λa A↦?_
    rcases ok2 with _ | _
    ·
     iterate 3 refine qm A rfl rfl rfl λa A↦?_
     refine sdk (v := bV false) A λa A↦?_
     refine qa (hK57 _ _ (cf A ?_))
     refine wp_exit ?_
     exact hJ24 _ _ ⟨k, rk, false, ⟨hC, fun h => by cases h⟩, A.keep _ (by repeat' constructor), M⟩
    ·
     iterate 2 refine sdm A λa A↦?_
     rcases tf (decide (((k : Nat) : Int) < ((n : Nat) : Int))) with hb58 | hb58
     ·
      have hb58' := of_decide_eq_true hb58
      refine sdc A zh hb58 λa A↦?_
      refine sdk (v := bV true) A λa A↦?_
      refine qa (hK57 _ _ (ct A ?_))
      refine wp_skip (hK56 _ _ (wsk fun K59 hK59 => wp_block (wsk fun K60 hK60 => ?_)))
      have hc9 := yx hC
      refine wrl ?_
      iterate 3 refine sdm A λa A↦?_
      refine sdo (v := iV (((i + k : Nat) : Int))) A (qh rfl rfl (ar_add ((in_i64 (by omega) (by omega)).trans (by omega)))) λa A↦?_
      obtain ⟨bx, ox, hx1, hx2, hx3⟩ := zfa (i := i + k) hb (by omega)
      have hu9 := (l.getD (i + k) 0).toNat_lt
      refine sdo (v := pA bx (ox + (i + k))) A (zf (k := i + k) Tryz.underlying27 (by kernel_rfl) rfl rfl rfl hx1 (by omega)) λa A↦?_
      refine sdo (v := .int .u8 ((((l.getD (i + k) 0).toNat : Nat) : Int))) A (zeb M hx2 (hx3 (i + k) (by omega)) TrU_is1_5 rfl) λa A↦?_
      refine sda A λa A↦?_
      refine qa (hK60 _ _ (wsk fun K61 hK61 => wrl (sdm A λa A↦?_)))
      refine sdo (v := .int .u8 (((((l.getD (i + k) 0).toNat : Nat) : Int)) / 64)) A (qh rfl rfl (ar_shr (n := 6) rfl rfl rfl)) λa A↦?_
      refine sdo (v := bV ((((((l.getD (i + k) 0).toNat : Nat) : Int)) / 64 == 2))) A (qh rfl rfl qt) λa A↦?_
      refine sda A λa A↦?_
      refine qa (hK61 _ _ (wrl (sdm A λa A↦?_)))
      refine sdo (v := .int .i32 (rk * 64)) A (qh rfl rfl (ar_shl (n := 6) rfl rfl (in_i32 (by omega) (by omega)))) λa A↦?_
      refine sdm A λa A↦?_
      refine sdo (v := .int .u8 (((((l.getD (i + k) 0).toNat : Nat) : Int)) % 64)) A (qh rfl rfl (ar_and (qti 6 63 rfl (by decide) (by omega) (by omega)))) λa A↦?_
      refine sdo (v := .int .i32 (((((l.getD (i + k) 0).toNat : Nat) : Int)) % 64)) A (zk rfl (ar_conv Tryz.underlying5 Tryz.underlying21 (in_i32 (by omega) (by omega)))) λa A↦?_
      refine sdo (v := .int .i32 (rk * 64 + (((((l.getD (i + k) 0).toNat : Nat) : Int)) % 64))) A (qh rfl rfl (ar_or (zsh (by omega) (by omega) (by omega) (by omega)))) λa A↦?_
      refine sda A λa A↦?_
      refine qa (hK59 _ _ (wrl (sdm A λa A↦?_)))
      refine sdo (v := iV (((k + 1 : Nat) : Int))) A (qh rfl rfl (ar_add ((in_i64 (by omega) (by omega)).trans (by omega)))) λa A↦?_
      refine sda A λa A↦?_
      refine qa ?_
      refine hK54 _ _ _ (by omega) ⟨k + 1, rk * 64 + (((((l.getD (i + k) 0).toNat : Nat) : Int)) % 64), (((((l.getD (i + k) 0).toNat : Nat) : Int)) / 64 == 2), rfl, zgi (by omega) hC (by omega), A.keep _ (by repeat' constructor), M⟩
     ·
      have hb58' := of_decide_eq_false hb58
      refine sdc A zh hb58 λa A↦?_
      refine sdk (v := bV false) A λa A↦?_
      refine qa (hK57 _ _ (cf A ?_))
      refine wp_exit ?_
      exact hJ24 _ _ ⟨k, rk, true, ⟨hC, fun _ => by have := yx hC; omega⟩, A.keep _ (by repeat' constructor), M⟩
   refine wrl (sdm A λa A↦?_)
   rcases tf (decide (0 < ((n : Nat) : Int))) with hb62 | hb62
   ·
    have hb62' := of_decide_eq_true hb62
    refine sdc A ji hb62 λa A↦?_
    iterate 3 refine sdm A λa A↦?_
    refine sdo (v := iV (((i + n : Nat) : Int))) A (qh rfl rfl (ar_add ((in_i64 (by omega) (by omega)).trans (by omega)))) λa A↦?_
    refine sdm A λa A↦?_
    refine sdo A (qy Tryz.underlying27 rfl) λa A↦?_
    rcases tf (decide (((i + n : Nat) : Int) ≤ ((l.length : Nat) : Int))) with hb63 | hb63
    ·
     have hb63' := of_decide_eq_true hb63
     refine sdc A vu hb63 λa A↦?_
     refine sdk (v := bV true) A λa A↦?_
     refine sda A λa A↦?_
     refine qa ?_
     exact hJ20 _ _ ⟨true, (decide_eq_true (by omega)).symm, A.keep _ (by repeat' constructor), M⟩
    ·
     have hb63' := of_decide_eq_false hb63
     refine sdc A vu hb63 λa A↦?_
     refine sdk (v := bV false) A λa A↦?_
     refine sda A λa A↦?_
     refine qa ?_
     exact hJ20 _ _ ⟨false, (decide_eq_false (by omega)).symm, A.keep _ (by repeat' constructor), M⟩
   ·
    have hb62' := of_decide_eq_false hb62
    refine sdc A ji hb62 λa A↦?_
    refine sdm A λa A↦?_
    iterate 6 refine qm A rfl rfl rfl λa A↦?_
    refine sdk (v := bV false) A λa A↦?_
    refine sda A λa A↦?_
    refine qa ?_
    exact hJ20 _ _ ⟨false, (decide_eq_false (by omega)).symm, A.keep _ (by repeat' constructor), M⟩
  refine wp_block (wsk fun K64 hK64 => wrl (sdm A λa A↦?_))
  rcases tf (decide ((((l.getD i 0).toNat : Nat) : Int) < 128)) with hb65 | hb65
  ·
   have hb65' := of_decide_eq_true hb65
   refine sdc A zh hb65 λa A↦?_
   refine sda A λa A↦?_
   refine qa (hK64 _ _ (ct A ?_))
   refine wrl (sdm A λa A↦?_)
   refine sdo (v := .int .i32 ((((l.getD i 0).toNat : Nat) : Int))) A (zk rfl (ar_conv Tryz.underlying5 Tryz.underlying21 (in_i32 (by omega) (by omega)))) λa A↦?_
   iterate 2 refine sda A λa A↦?_
   refine qa ?_
   exact hJ16 _ _ ⟨1, (((l.getD i 0).toNat : Nat) : Int), (by unfold LeadU; omega), A.keep _ (by repeat' constructor), M⟩
  ·
   have hb65' := of_decide_eq_false hb65
   refine sdc A zh hb65 λa A↦?_
   refine sda A λa A↦?_
   refine qa (hK64 _ _ (cf A ?_))
   refine wsk fun K66 hK66 => wrl (sdm A λa A↦?_)
   refine sdo (v := .int .u8 (((((l.getD i 0).toNat : Nat) : Int)) / 32)) A (qh rfl rfl (ar_shr (n := 5) rfl rfl rfl)) λa A↦?_
   rcases tf ((((((l.getD i 0).toNat : Nat) : Int)) / 32 == 6)) with hb67 | hb67
   ·
    have hb67' := eq_of_beq hb67
    refine sdc A qt hb67 λa A↦?_
    refine sda A λa A↦?_
    refine qa (hK66 _ _ (ct A ?_))
    refine wrl (sdm A λa A↦?_)
    refine sdo (v := .int .u8 (((((l.getD i 0).toNat : Nat) : Int)) % 32)) A (qh rfl rfl (ar_and (qti 5 31 rfl (by decide) (by omega) (by omega)))) λa A↦?_
    refine sdo (v := .int .i32 (((((l.getD i 0).toNat : Nat) : Int)) % 32)) A (zk rfl (ar_conv Tryz.underlying5 Tryz.underlying21 (in_i32 (by omega) (by omega)))) λa A↦?_
    iterate 2 refine sda A λa A↦?_
    refine qa ?_
    exact hJ16 _ _ ⟨2, ((((l.getD i 0).toNat : Nat) : Int)) % 32, (by unfold LeadU; omega), A.keep _ (by repeat' constructor), M⟩
   ·
    have hb67' := ne_of_beq_false hb67
    refine sdc A qt hb67 λa A↦?_
    refine sda A λa A↦?_
    refine qa (hK66 _ _ (cf A ?_))
    refine wsk fun K68 hK68 => wrl (sdm A λa A↦?_)
    refine sdo (v := .int .u8 (((((l.getD i 0).toNat : Nat) : Int)) / 16)) A (qh rfl rfl (ar_shr (n := 4) rfl rfl rfl)) λa A↦?_
    rcases tf ((((((l.getD i 0).toNat : Nat) : Int)) / 16 == 14)) with hb69 | hb69
    ·
     have hb69' := eq_of_beq hb69
     refine sdc A qt hb69 λa A↦?_
     refine sda A λa A↦?_
     refine qa (hK68 _ _ (ct A ?_))
     refine wrl (sdm A λa A↦?_)
     refine sdo (v := .int .u8 (((((l.getD i 0).toNat : Nat) : Int)) % 16)) A (qh rfl rfl (ar_and (qti 4 15 rfl (by decide) (by omega) (by omega)))) λa A↦?_
     refine sdo (v := .int .i32 (((((l.getD i 0).toNat : Nat) : Int)) % 16)) A (zk rfl (ar_conv Tryz.underlying5 Tryz.underlying21 (in_i32 (by omega) (by omega)))) λa A↦?_
     iterate 2 refine sda A λa A↦?_
     refine qa ?_
     exact hJ16 _ _ ⟨3, ((((l.getD i 0).toNat : Nat) : Int)) % 16, (by unfold LeadU; omega), A.keep _ (by repeat' constructor), M⟩
    ·
     have hb69' := ne_of_beq_false hb69
     refine sdc A qt hb69 λa A↦?_
     refine sda A λa A↦?_
     refine qa (hK68 _ _ (cf A ?_))
     refine wsk fun K70 hK70 => wrl (sdm A λa A↦?_)
     refine sdo (v := .int .u8 (((((l.getD i 0).toNat : Nat) : Int)) / 8)) A (qh rfl rfl (ar_shr (n := 3) rfl rfl rfl)) λa A↦?_
     rcases tf ((((((l.getD i 0).toNat : Nat) : Int)) / 8 == 30)) with hb71 | hb71
     ·
      have hb71' := eq_of_beq hb71
      refine sdc A qt hb71 λa A↦?_
      refine sda A λa A↦?_
      refine qa (hK70 _ _ (ct A ?_))
      refine wrl (sdm A λa A↦?_)
      refine sdo (v := .int .u8 (((((l.getD i 0).toNat : Nat) : Int)) % 8)) A (qh rfl rfl (ar_and (qti 3 7 rfl (by decide) (by omega) (by omega)))) λa A↦?_
      refine sdo (v := .int .i32 (((((l.getD i 0).toNat : Nat) : Int)) % 8)) A (zk rfl (ar_conv Tryz.underlying5 Tryz.underlying21 (in_i32 (by omega) (by omega)))) λa A↦?_
      iterate 2 refine sda A λa A↦?_
      refine qa ?_
      exact hJ16 _ _ ⟨4, ((((l.getD i 0).toNat : Nat) : Int)) % 8, (by unfold LeadU; omega), A.keep _ (by repeat' constructor), M⟩
     ·
      have hb71' := ne_of_beq_false hb71
      refine sdc A qt hb71 λa A↦?_
      refine sda A λa A↦?_
      refine qa (hK70 _ _ (cf A ?_))
      refine wp_skip ?_
      exact hJ16 _ _ ⟨0, 0, (by unfold LeadU; omega), A.keep _ (by repeat' constructor), M⟩
 ·
  have hb12' := of_decide_eq_false hb12
  refine sdc A zh hb12 λa A↦?_
  refine qa (hK11 _ _ (cf A ?_))
  refine wp_exit (hK5 _ _ (wsk fun K72 hK72 => wrl (sdm A λa A↦?_)))
  refine sda A λa A↦?_
  refine qa (hK72 _ _ (wr1 hret A ?_))
  rw [zcf (by omega), List.append_nil] at hrun
  subst hrun
  exact ⟨_, rfl, M⟩
open Go.RowKit Go.Lib
theorem qza {w : World} {B : Nat} {e : TypeId} {sz : Nat} {v : Value} {n : Nat} {xs : List Value} (h : w.ownsRow B e sz v n xs) : ∃ so cap, v = .slice so n cap := by
  rcases h.2 with ⟨rfl, rfl⟩ | ⟨g, cap, cur, rfl, _⟩
  · exact ⟨none, 0, rfl⟩
  · exact ⟨_, cap, rfl⟩
section
variable {P : Program} {w0 w : World} {L : List Ck} {l : List (Nat × Value)} {dst : Option Tmp} {ty : TypeId} {pos : String} {after : Array Edge} {guard : Option (Nat × Bool)} {v : Value}
theorem zci {w' : World} {s d : TypeId} {x : Operand} {u : Value} (hx : ev l x = some u) (hr : (convert s d u).run P w = .ok v w') : Does P l ⟨dst, .convert s d x, ty, pos, after, guard⟩ w v w' := fun ρ h => by
  simp only [execOp, h x _ hx, Sem.run_bind, hr, Result.andThen_ok, Sem.run_pure]
theorem zli (hM : Mg w0 w L) (k : Nat) {e : TypeId} {sz n cap : Nat} {so : Option Addr} {xs : List Value} (hk : L[k]? = some (.row e sz (.slice so n cap) n xs)) (hn : 0 < n) : ∃ g, so = some ⟨g, 0, none⟩ := by
  rcases (hM.has k hk).2 with ⟨_, h0⟩ | ⟨g, cap', cur, he, _⟩
  · omega
  · cases he; exact ⟨g, rfl⟩
theorem qzb {t e : TypeId} {sz : Nat} (hu : P.underlying t = some (.slice e)) (he : (P.info? e).map (·.size) = some sz) {x i : Operand} {so : Option Addr} {g n c k : Nat} {z : Int} (hx : ev l x = some (.slice so n c)) (hi : ev l i = some (.int .i64 z)) (hz : z = (k : Nat)) (hso : so = some ⟨g, 0, none⟩) (hk : k < n) :
    Does P l ⟨dst, .indexAddr t x i, ty, pos, after, guard⟩ w (.pointer (some ⟨g, k * sz, none⟩)) w := by
  subst hso
  exact vi hu he hx hi hz hk
theorem zfb (hM : Mg w0 w L) (k : Nat) {e : TypeId} {sz g n c j : Nat} {so : Option Addr} {xs : List Value} (hk : L[k]? = some (.row e sz (.slice so n c) n xs)) (hso : so = some ⟨g, 0, none⟩) (hj : xs[j]? = some v) {t : TypeId} (ht : Is1 P t) {x : Operand} (hx : ev l x = some (.pointer (some ⟨g, j, none⟩))) : Does P l ⟨dst, .load t x, ty, pos, after, guard⟩ w v w := by
  subst hso
  exact qre hM k hk hj ht hx
end
section
variable {P : Program} {w0 w : World} {L : List Ck} {l : List (Nat × Value)} {ops : List Oper} {Q : Exit → Act → World → Prop} {a : Act} {n : Nat} {rest : List Oper} {d : Nat} {dst : Option Tmp} {ty : TypeId} {pos : String} {after : Array Edge} {guard : Option (Nat × Bool)}
theorem zpj (hA : Sl a n l) (hM : Mg w0 w L) {t t' : TypeId} {x : Operand} {s : ByteArray} {o : Oper} (ho : o = ⟨dst, .convert t t' x, ty, pos, after, guard⟩) (ht : P.underlying t = some .string) (hd : P.underlying t' = some (.slice BY)) (he : P.underlying BY = some (.int .u8)) (hx : ev l x = some (.string s)) (hg : jd l ops o = true) (hdst : o.dst = some d) (hdn : Nat.blt d n = true)
    (hk : ∀ so cap w', Rb w' so s.data.toList → Mg w0 w' L → ∀ a', Sl a' n ((d, .slice so s.data.toList.length cap) :: l) → wpList P ops.toArray Q rest a' w') : wpList P ops.toArray Q (o :: rest) a w := by
  subst ho
  have hr := Go.Lib.run_convert_string_bytes (P := P) w t t' BY s ht hd he
  have hb : Below w.heap.size w (bytesWorld w BY s) := ⟨rfl, rfl, rfl, by rw [bytesWorld_size]; omega, fun j hj => bytesWorld_at_old w BY s j hj⟩
  refine qb hA hg hdst hdn (v := .slice (some ⟨w.heap.size, 0, none⟩) s.data.toList.length (grownCap w s.size 0 BY)) (w' := bytesWorld w BY s) (zci hx (by rw [ui]; exact hr)) (hk _ _ _ ⟨fun _ => ⟨w.heap.size, 0, rfl, by rw [bytesWorld_size]; omega, fun j hj => ?_⟩⟩ (hM.call hb))
  rw [ui] at hj
  rw [Nat.zero_add]
  exact bytesWorld_cell w BY s j hj
end
theorem qlj (u : Int × Int) (us : List (Int × Int)) : xm (u :: us) = (if u.2 = -1 then [.int .i32 0, .bool true, .int .i64 u.1] else [.int .i32 u.2, .bool false, .int .i64 u.1]) ++ xm us := rfl
theorem qma : ∀ (us : List (Int × Int)) (i f : Nat) (u : Int × Int), us[i]? = some u → f < 3 → (xm us)[i * 3 + f]? = (if u.2 = -1 then [Value.int .i32 0, .bool true, .int .i64 u.1] else [.int .i32 u.2, .bool false, .int .i64 u.1])[f]?
  | [], i, f, u, h, hf => by simp at h
  | v :: us, 0, f, u, h, hf => by
    simp only [List.getElem?_cons_zero, Option.some.injEq] at h
    subst h
    rw [qlj, Nat.zero_mul, Nat.zero_add, List.getElem?_append_left]
    split <;> exact hf
  | v :: us, i + 1, f, u, h, hf => by
    rw [List.getElem?_cons_succ] at h
    rw [qlj, List.getElem?_append_right (by split <;> (simp only [List.length_cons, List.length_nil]; omega))]
    have e : (i + 1) * 3 + f - (if v.2 = -1 then [Value.int .i32 0, .bool true, .int .i64 v.1] else [.int .i32 v.2, .bool false, .int .i64 v.1]).length = i * 3 + f := by
      split <;> (simp only [List.length_cons, List.length_nil]; omega)
    rw [e]
    exact qma us i f u h hf
theorem zlj {us : List (Int × Int)} {i : Nat} (h : i < us.length) : ∃ ua ur, us[i]? = some (ua, ur) := ⟨_, _, List.getElem?_eq_getElem h⟩
theorem qmb : ∀ (f p : Nat) (l : List UInt8), (kn f p l).length ≤ l.length
  | 0, _, _ => Nat.zero_le _
  | f + 1, p, l => by
    by_cases hl : l = []
    · subst hl; simp [kn]
    · rw [qhc hl, List.length_cons]
      have h1 := qmb f (p + (decodeL l).2) (l.drop (decodeL l).2)
      have h2 := uh l hl
      rw [List.length_drop] at h1
      omega
theorem zma (l : List UInt8) (h : (decodeL l).1 = 65533) : (decodeL l).2 = 1 ∨ (decodeL l).2 = 3 ∨ (decodeL l).2 = 0 := by
  rw [decodeL_N] at h ⊢
  generalize (l.getD 0 0).toNat = b0 at h ⊢
  generalize (l.getD 1 0).toNat = b1 at h ⊢
  generalize (l.getD 2 0).toNat = b2 at h ⊢
  generalize (l.getD 3 0).toNat = b3 at h ⊢
  unfold decodeN at h ⊢
  repeat' split
  all_goals (simp_all)
  all_goals omega
theorem qch : ∀ (f p : Nat) (l : List UInt8), validGoD f l = (kn f p l).all (fun u => !decide (u.2 = -1))
  | 0, p, l => rfl
  | f + 1, p, l => by
    unfold validGoD kn
    by_cases hl : l = []
    · rw [if_pos hl, if_pos hl]; rfl
    · rw [if_neg hl, if_neg hl, List.all_cons]
      have hw := uh l hl
      have h3 := zma l
      by_cases hb : (decodeL l).1 = 65533 ∧ (decodeL l).2 = 1
      · rw [if_pos hb]
        have : uR (decodeL l).1 (decodeL l).2 = -1 := by unfold uR; rw [if_pos ⟨hb.1, by omega⟩]
        rw [this]; rfl
      · rw [if_neg hb]
        have : ¬ uR (decodeL l).1 (decodeL l).2 = -1 := by
          unfold uR
          by_cases h9 : (decodeL l).1 = 65533
          · rw [if_neg (by have := h3 h9; omega)]; omega
          · rw [if_neg (fun e => h9 e.1)]; omega
        rw [decide_eq_false this, qch f (p + (decodeL l).2)]
        simp
theorem qqe (s : ByteArray) : okS s = (xh s.data.toList).all (fun u => !decide (u.2 = -1)) := qch _ 0 _
theorem zqa {s : ByteArray} {i : Nat} {ua ur : Int} (h : (xh s.data.toList)[i]? = some (ua, ur)) (hr : ur = -1) : okS s = false := by
  rw [qqe]
  apply Bool.eq_false_iff.2
  intro k
  have := List.all_eq_true.1 k _ (List.mem_of_getElem? h)
  simp [hr] at this
theorem zmb {s : ByteArray} (h : ∀ (i : Nat) (ua ur : Int), (xh s.data.toList)[i]? = some (ua, ur) → ur ≠ -1) : okS s = true := by
  rw [qqe, List.all_eq_true]
  intro u hu
  obtain ⟨i, hi⟩ := List.mem_iff_getElem?.1 hu
  simp [h i u.1 u.2 hi]
theorem qzc {w : World} {so : Option Addr} {cap : Nat} {l : List UInt8} (hb : Rb w so l) (hlen : l.length ≤ 4000000) : Calls Tryz.prog 171 #[iV 1, .slice so l.length cap] w fun e w' => ∃ v, e = .returned v ∧ Mg w w' [.row 219 3 v (xh l).length (xm (xh l))] := by
 have M : Mg w w ([]) := Mg.start w
 refine qx (l := [(0, iV 1), (1, .slice so l.length cap)]) Tryz.func171 rfl Tryz.ntmps171 rfl rfl ?_
 intro Q hret hnorm hP a A
 refine wsk fun K1 hK1 => wrl (sda A λa A↦?_)
 refine qa (hK1 _ _ (wsk fun K2 hK2 => wsk fun K3 hK3 => wrl (sdm A λa A↦?_)))
 refine sdo (v := bV true) A dbK λa A↦?_
 refine qa (hK3 _ _ (ct A ?_))
 refine wsk fun K4 hK4 => wrl (sdm A λa A↦?_)
 refine sct A (ef rfl rfl) (zgj (hb.below M.bel) hlen) ?_
 rintro _ w5 ⟨v9, rfl, hM9⟩
 replace M : Mg w w5 (.row 219 3 (v9) ((xh l).length) ((xm (xh l))) :: []) := (M.both hM9 (qw za) (qr (by simp) (qw za)))
 refine ⟨_, rfl, ?_⟩
 intro a A
 refine sda A λa A↦?_
 refine qa (hK4 _ _ (wr1 hret A ?_))
 exact ⟨_, rfl, M⟩
theorem qmc {w : World} {s : ByteArray} (hs : s.size ≤ 4000000) {r : Bool} (hr : okS s = r) : Calls Tryz.prog 135 #[.string s] w fun e w' => e = .returned (bV r) ∧ Below w.heap.size w w' := by
 have hul : (xh s.data.toList).length ≤ s.data.toList.length := qmb _ _ _
 have hsl : s.data.toList.length ≤ 4000000 := by rw [ui]; exact hs
 have M : Mg w w ([]) := Mg.start w
 refine qx (l := [(0, .string s)]) Tryz.func135 rfl Tryz.ntmps135 rfl rfl ?_
 intro Q hret hnorm hP a A
 refine wsk fun K1 hK1 => wrl (sda A λa A↦?_)
 refine qa (hK1 _ _ (wsk fun K2 hK2 => wrl (sdm A λa A↦?_)))
 refine zpj A M rfl Tryz.underlying9 Tryz.underlying27 Tryz.underlying5 rfl rfl rfl rfl ?_
 intro so3 ca4 w5 hrb6 M a A
 refine sct A (ef rfl rfl) (qzc hrb6 (by rw [ui]; exact hs)) ?_
 rintro _ w10 ⟨v9, rfl, hM7⟩
 obtain ⟨so8, ca9, rfl⟩ := qza (hM7.has 0 rfl)
 replace M : Mg w w10 (.row 219 3 (.slice so8 ((xh s.data.toList).length) ca9) ((xh s.data.toList).length) ((xm (xh s.data.toList))) :: []) := (M.both hM7 (qw za) (qr (by simp) (qw za)))
 refine ⟨_, rfl, ?_⟩
 intro a A
 refine sda A λa A↦?_
 refine qa (hK2 _ _ (wsk fun K11 hK11 => wsk fun K12 hK12 => wrl (sda A λa A↦?_)))
 refine qa (hK12 _ _ (wp_block (jc (fun m_ a w1 => ∃ (i : Nat), m_ = 1 + ((xh s.data.toList).length - i) ∧ (i ≤ (xh s.data.toList).length ∧ ∀ j ua ur, j < i → (xh s.data.toList)[j]? = some (ua, ur) → ur ≠ -1) ∧ Sl a 19 [(0, .string s), (3, .slice so8 ((xh s.data.toList).length) ca9), (4, iV (((i : Nat) : Int))), (5, .string s), (6, .slice so3 s.data.toList.length ca4), (7, .slice so8 ((xh s.data.toList).length) ca9)] ∧ Mg w w1 (.row 219 3 (.slice so8 ((xh s.data.toList).length) ca9) ((xh s.data.toList).length) ((xm (xh s.data.toList))) :: [])) _ ⟨0, rfl, ⟨Nat.zero_le _, fun j ua ur hj => absurd hj (Nat.not_lt_zero _)⟩, A.keep _ (by repeat' constructor), M⟩ ?_)))
 clear M A
 rintro m_ a w13 ⟨i, rfl, hinv15, A, M⟩ K14 hK14
 obtain ⟨hi0, hin9⟩ := hinv15
 refine wsk fun K16 hK16 => wsk fun K17 hK17 => wrl ?_
 iterate 2 refine sdm A λa A↦?_
 refine sdo A (qy Tryz.underlying216 rfl) λa A↦?_
 rcases tf (decide (((i : Nat) : Int) < (((xh s.data.toList).length : Nat) : Int))) with hb18 | hb18
 ·
  have hb18' := of_decide_eq_true hb18
  refine sdc A zh hb18 λa A↦?_
  refine qa (hK17 _ _ (ct A ?_))
  refine wp_skip (hK16 _ _ (wsk fun K19 hK19 => wp_block (wsk fun K20 hK20 => wrl ?_)))
  iterate 2 refine sdm A λa A↦?_
  obtain ⟨gu, hgu⟩ := zli M 0 rfl (by omega)
  obtain ⟨ua, ur, hu⟩ := zlj (us := xh s.data.toList) (i := i) (by omega)
  refine sdo (v := pA gu (i * 3)) A (qzb Tryz.underlying216 (by kernel_rfl) rfl rfl rfl hgu (show i < (xh s.data.toList).length by omega)) λa A↦?_
  refine sdo (v := pA gu (i * 3 + 1)) A (qf zpb rfl rfl) λa A↦?_
  by_cases hf : ur = -1
  ·
   refine sdo (v := bV true) A (zfb M 0 rfl hgu ((qma _ i 1 _ hu (by decide)).trans (by rw [if_pos hf]; rfl)) o94 rfl) λa A↦?_
   refine qa (hK20 _ _ (ct A ?_))
   refine wsk fun K21 hK21 => wrl (sda A λa A↦?_)
   refine qa (hK21 _ _ (wr1 hret A ?_))
   subst hr
   exact ⟨by rw [zqa hu hf], M.bel⟩
  ·
   refine sdo (v := bV false) A (zfb M 0 rfl hgu ((qma _ i 1 _ hu (by decide)).trans (by rw [if_neg hf]; rfl)) o94 rfl) λa A↦?_
   refine qa (hK20 _ _ (cf A ?_))
   refine wp_skip (hK19 _ _ (wrl (sdm A λa A↦?_)))
   refine sdo (v := iV (((i + 1 : Nat) : Int))) A (qh rfl rfl (fun w => (kw (yk (by omega) (by omega)) w).trans (by rw [show (((i : Nat) : Int) + 1 : Int) = ((i + 1 : Nat) : Int) from by omega]))) λa A↦?_
   refine sda A λa A↦?_
   refine qa ?_
   refine hK14 _ _ _ (by omega) ⟨i + 1, rfl, ⟨by omega, fun j va vr hj hv => if h9 : j < i then hin9 j va vr h9 hv else by have h8 : j = i := (by omega); subst h8; rw [hu] at hv; injection hv with h7; injection h7 with _ h6; rw [← h6]; exact hf⟩, A.keep _ (by repeat' constructor), M⟩
 ·
  have hb18' := of_decide_eq_false hb18
  refine sdc A zh hb18 λa A↦?_
  refine qa (hK17 _ _ (cf A ?_))
  refine wp_exit (hK11 _ _ (wsk fun K22 hK22 => wrl (sda A λa A↦?_)))
  refine qa (hK22 _ _ (wr1 hret A ?_))
  subst hr
  exact ⟨by rw [zmb (fun j ua ur hj => hin9 j ua ur (by have := (List.getElem?_eq_some_iff.1 hj).1; omega) hj)], M.bel⟩
theorem qqf {w : World} {n : Int} {r : Bool} (hr : yn n = r) : Calls Tryz.prog 137 #[iV n] w fun e w' => e = .returned (bV r) ∧ Below w.heap.size w w' := by
 have M : Mg w w ([]) := Mg.start w
 refine qx (l := [(0, iV n)]) Tryz.func137 rfl Tryz.ntmps137 rfl rfl ?_
 intro Q hret hnorm hP a A
 refine wsk fun K1 hK1 => wrl (sda A λa A↦?_)
 refine qa (hK1 _ _ (wsk fun K2 hK2 => wrl (sdm A λa A↦?_)))
 rcases tf (decide (0 ≤ n)) with hb3 | hb3
 ·
  have hb3' := of_decide_eq_true hb3
  refine sdc A ju hb3 λa A↦?_
  iterate 2 refine sdm A λa A↦?_
  rcases tf (decide (n ≤ 1114111)) with hb4 | hb4
  ·
   have hb4' := of_decide_eq_true hb4
   refine sdc A vu hb4 λa A↦?_
   refine sdk (v := bV true) A λa A↦?_
   iterate 2 refine sdm A λa A↦?_
   rcases tf (decide (n < 55296)) with hb5 | hb5
   ·
    have hb5' := of_decide_eq_true hb5
    refine sdc A zh hb5 λa A↦?_
    refine sdm A λa A↦?_
    iterate 2 refine qm A rfl rfl rfl λa A↦?_
    iterate 2 refine sdk (v := bV true) A λa A↦?_
    refine sda A λa A↦?_
    refine qa (hK2 _ _ (wr1 hret A ?_))
    subst hr
    exact ⟨by rw [show yn n = true from by unfold yn; apply decide_eq_true; omega], M.bel⟩
   ·
    have hb5' := of_decide_eq_false hb5
    refine sdc A zh hb5 λa A↦?_
    iterate 2 refine sdm A λa A↦?_
    rcases tf (decide (57343 < n)) with hb6 | hb6
    ·
     have hb6' := of_decide_eq_true hb6
     refine sdc A ji hb6 λa A↦?_
     iterate 2 refine sdk (v := bV true) A λa A↦?_
     refine sda A λa A↦?_
     refine qa (hK2 _ _ (wr1 hret A ?_))
     subst hr
     exact ⟨by rw [show yn n = true from by unfold yn; apply decide_eq_true; omega], M.bel⟩
    ·
     have hb6' := of_decide_eq_false hb6
     refine sdc A ji hb6 λa A↦?_
     iterate 2 refine sdk (v := bV false) A λa A↦?_
     refine sda A λa A↦?_
     refine qa (hK2 _ _ (wr1 hret A ?_))
     subst hr
     exact ⟨by rw [show yn n = false from by unfold yn; apply decide_eq_false; omega], M.bel⟩
  ·
   have hb4' := of_decide_eq_false hb4
   refine sdc A vu hb4 λa A↦?_
   refine sdk (v := bV false) A λa A↦?_
   refine sdm A λa A↦?_
   iterate 3 refine qm A rfl rfl rfl λa A↦?_
   iterate 2 refine kz A rfl rfl rfl λa A↦?_
   refine qm A rfl rfl rfl λa A↦?_
   refine sdk (v := bV false) A λa A↦?_
   refine sda A λa A↦?_
   refine qa (hK2 _ _ (wr1 hret A ?_))
   subst hr
   exact ⟨by rw [show yn n = false from by unfold yn; apply decide_eq_false; omega], M.bel⟩
 ·
  have hb3' := of_decide_eq_false hb3
  refine sdc A ju hb3 λa A↦?_
  refine sdm A λa A↦?_
  iterate 2 refine qm A rfl rfl rfl λa A↦?_
  refine sdk (v := bV false) A λa A↦?_
  refine sdm A λa A↦?_
  iterate 3 refine qm A rfl rfl rfl λa A↦?_
  iterate 2 refine kz A rfl rfl rfl λa A↦?_
  refine qm A rfl rfl rfl λa A↦?_
  refine sdk (v := bV false) A λa A↦?_
  refine sda A λa A↦?_
  refine qa (hK2 _ _ (wr1 hret A ?_))
  subst hr
  exact ⟨by rw [show yn n = false from by unfold yn; apply decide_eq_false; omega], M.bel⟩
def kj (k n : Int) (q : Q6) (s : ByteArray) (mr ml : Nat) : Bool :=
 if k < 1 ∨ 11 < k ∨ okS s = false then false
 else if k = 3 ∧ jp q = false then false
 else if k ≠ 3 ∧ (ku q.b1 q.t1.length q.q1.length = false ∨ ku q.b2 q.t2.length q.q2.length = false) then false
 else if s ≠ ⟨#[]⟩ ∧ k ≠ 5 ∧ k ≠ 6 ∧ k ≠ 11 then false
 else if 0 < mr ∧ k ≠ 7 then false
 else if k = 2 ∧ n ≠ 0 ∧ n ≠ 1 then false
 else if k = 4 ∧ yn n = false then false
 else if k ≠ 2 ∧ k ≠ 4 ∧ n ≠ 0 then false
 else if k = 8 then decide (ml = 2)
 else decide (k = 9 ∨ ml = 0)
theorem zqb : okS ⟨#[]⟩ = true := by unfold okS; rfl
theorem jx (k n : Int) (q : Q6) (s : ByteArray) (mr ml : Nat) : jw k n q s mr ml = kj k n q s mr ml := by
 have hv : s = ⟨#[]⟩ → okS s = true := by rintro rfl; exact zqb
 have hn0 : ku false 0 0 = true := rfl
 unfold jw kj
 by_cases hk : k < 1 ∨ 11 < k
 ·
  rw [if_pos (show k < 1 ∨ 11 < k ∨ okS s = false by omega)]
  repeat (rw [if_neg (by omega)])
 ·
  have h11 : k = 1 ∨ k = 2 ∨ k = 3 ∨ k = 4 ∨ k = 5 ∨ k = 6 ∨ k = 7 ∨ k = 8 ∨ k = 9 ∨ k = 10 ∨ k = 11 := by omega
  simp only [vw, hn0]
  generalize ku q.b1 q.t1.length q.q1.length = B1
  generalize ku q.b2 q.t2.length q.q2.length = B2
  generalize jp q = S1
  generalize yn n = S2
  by_cases hs : s = ⟨#[]⟩
  ·
   rw [hv hs]
   have hs2 : ¬ s ≠ ⟨#[]⟩ := fun h => h hs
   rcases h11 with h | h | h | h | h | h | h | h | h | h | h <;> subst h <;> cases B1 <;> cases B2 <;> cases S1 <;> cases S2 <;> simp [hs] <;> by_cases hm : mr = 0 <;> simp [hm] <;> by_cases hn : n = 0 <;> simp [hn] <;> first | omega | (by_cases hn1 : n = 1 <;> simp [hn1]) | skip
  ·
   cases hV : okS s <;> rcases h11 with h | h | h | h | h | h | h | h | h | h | h <;> subst h <;> cases B1 <;> cases B2 <;> cases S1 <;> cases S2 <;> simp [hs] <;> by_cases hm : mr = 0 <;> simp [hm] <;> by_cases hn : n = 0 <;> simp [hn] <;> first | omega | skip
section
variable {k n : Int} {q : Q6} {s : ByteArray} {mr ml : Nat}
def ShA (k : Int) (s : ByteArray) : Prop := 1 ≤ k ∧ k ≤ 11 ∧ okS s = true
def ShB (k : Int) (q : Q6) : Prop := (k = 3 → jp q = true) ∧ (k ≠ 3 → ku q.b1 q.t1.length q.q1.length = true ∧ ku q.b2 q.t2.length q.q2.length = true)
def ShC (k : Int) (s : ByteArray) : Prop := s = ⟨#[]⟩ ∨ k = 5 ∨ k = 6 ∨ k = 11
def ShD (k : Int) (mr : Nat) : Prop := mr = 0 ∨ k = 7
def ShE (k n : Int) : Prop := (k = 2 → n = 0 ∨ n = 1) ∧ (k = 4 → yn n = true) ∧ (k ≠ 2 → k ≠ 4 → n = 0)
theorem sh1 (h : k < 1 ∨ 11 < k ∨ okS s = false) : kj k n q s mr ml = false := by unfold kj; rw [if_pos h]
theorem shA (a : ShA k s) : ¬ (k < 1 ∨ 11 < k ∨ okS s = false) := fun e => by
 rcases e with e | e | e
 ·
  have := a.1; omega
 ·
  have := a.2.1; omega
 ·
  rw [a.2.2] at e; cases e
theorem sh2 (a : ShA k s) (h : k = 3) (S : jp q = false) : kj k n q s mr ml = false := by unfold kj; rw [if_neg (shA a), if_pos ⟨h, S⟩]
theorem sh3 (a : ShA k s) (h : k ≠ 3) (S : ku q.b1 q.t1.length q.q1.length = false ∨ ku q.b2 q.t2.length q.q2.length = false) : kj k n q s mr ml = false := by unfold kj; rw [if_neg (shA a), if_neg (fun e => h e.1), if_pos ⟨h, S⟩]
theorem zqc (b : ShB k q) : ¬ (k = 3 ∧ jp q = false) := fun e => by have := b.1 e.1; rw [e.2] at this; cases this
theorem zqd (b : ShB k q) : ¬ (k ≠ 3 ∧ (ku q.b1 q.t1.length q.q1.length = false ∨ ku q.b2 q.t2.length q.q2.length = false)) := fun e => by
 have := b.2 e.1
 rcases e.2 with h | h
 ·
  rw [this.1] at h; cases h
 ·
  rw [this.2] at h; cases h
theorem sh4 (a : ShA k s) (b : ShB k q) (h : s ≠ ⟨#[]⟩ ∧ k ≠ 5 ∧ k ≠ 6 ∧ k ≠ 11) : kj k n q s mr ml = false := by unfold kj; rw [if_neg (shA a), if_neg (zqc b), if_neg (zqd b), if_pos h]
theorem shC (c : ShC k s) : ¬ (s ≠ ⟨#[]⟩ ∧ k ≠ 5 ∧ k ≠ 6 ∧ k ≠ 11) := fun e => by rcases c with h | h | h | h <;> first | exact e.1 h | exact e.2.1 h | exact e.2.2.1 h | exact e.2.2.2 h
theorem sh5 (a : ShA k s) (b : ShB k q) (c : ShC k s) (h : 0 < mr ∧ k ≠ 7) : kj k n q s mr ml = false := by unfold kj; rw [if_neg (shA a), if_neg (zqc b), if_neg (zqd b), if_neg (shC c), if_pos h]
theorem shD (d : ShD k mr) : ¬ (0 < mr ∧ k ≠ 7) := fun e => by rcases d with h | h <;> omega
theorem sh6 (a : ShA k s) (b : ShB k q) (c : ShC k s) (d : ShD k mr) (h : (k = 2 ∧ n ≠ 0 ∧ n ≠ 1) ∨ (k = 4 ∧ yn n = false) ∨ (k ≠ 2 ∧ k ≠ 4 ∧ n ≠ 0)) : kj k n q s mr ml = false := by
 unfold kj
 rw [if_neg (shA a), if_neg (zqc b), if_neg (zqd b), if_neg (shC c), if_neg (shD d)]
 rcases h with h | h | h
 ·
  rw [if_pos h]
 ·
  rw [if_neg (by omega), if_pos h]
 ·
  rw [if_neg (by omega), if_neg (fun e => h.2.1 e.1), if_pos h]
theorem sh9 (a : ShA k s) (b : ShB k q) (c : ShC k s) (d : ShD k mr) (e : ShE k n) : kj k n q s mr ml = if k = 8 then decide (ml = 2) else decide (k = 9 ∨ ml = 0) := by
 unfold kj
 have e1 := e.1
 have e3 := e.2.2
 rw [if_neg (shA a), if_neg (zqc b), if_neg (zqd b), if_neg (shC c), if_neg (shD d), if_neg (fun h => by have := e1 h.1; omega), if_neg (fun h => by have := e.2.1 h.1; rw [h.2] at this; cases this), if_neg (fun h => by have := e3 h.1 h.2.1; omega)]
end
theorem qmd {w : World} {d : Nd} {ts : List Dt} (hok : NdOk w d) (hs2 : d.s.size ≤ 4000000) (hlen : ts.length ≤ 9223372036854775807) {r : Bool} (hr : jw d.k d.n d.y.q d.s d.rl.length ts.length = r) : Calls Tryz.prog 91 #[.agg (d.cells ts.length).toArray] w fun e w' => e = .returned (bV r) ∧ Below w.heap.size w w' := by
 have hrl : d.rl.length ≤ 9223372036854775807 := Nat.le_trans hok.rcap hok.rmax
 have M : Mg w w ([]) := Mg.start w
 refine qx (l := [(0, .agg (d.cells ts.length).toArray)]) Tryz.func91 rfl Tryz.ntmps91 rfl rfl ?_
 intro Q hret hnorm hP a A
 refine wsk fun K1 hK1 => wrl (jl (vs := [iV d.k, iV d.n, bV d.y.q.b1, .slice d.y.o1 d.y.q.t1.length d.y.c1, .slice d.y.o2 d.y.q.q1.length d.y.c2, bV d.y.q.b2, .slice d.y.o3 d.y.q.t2.length d.y.c3, .slice d.y.o4 d.y.q.q2.length d.y.c4, .string d.s, .slice d.ro d.rl.length d.rc, .slice d.lo ts.length d.lc]) (t := 30) A M rfl rfl rfl pg (zd rfl rfl) (by decide) ?_)
 intro g2 w3 M a A
 refine sda A λa A↦?_
 refine qa (hK1 _ _ (wsk fun K4 hK4 => ?_))
 have hJ5 : ∀ a w1, ((ShA d.k d.s) ∧ Sl a 100 [(0, .agg (d.cells ts.length).toArray), (1, pA g2 0)] ∧ Mg w w1 (.obj g2 (.cells (d.cells ts.length).toArray 30) :: [])) → K4 a w1 := by
  clear A M
  rintro a w6 ⟨hf7, A, M⟩
  have hSA := hf7
  refine hK4 _ _ (wsk fun K8 hK8 => ?_)
  have hJ9 : ∀ a w1, ((ShB d.k d.y.q) ∧ Sl a 100 [(0, .agg (d.cells ts.length).toArray), (1, pA g2 0)] ∧ Mg w w1 (.obj g2 (.cells (d.cells ts.length).toArray 30) :: [])) → K8 a w1 := by
   clear A M
   rintro a w10 ⟨hf11, A, M⟩
   have hSB := hf11
   refine hK8 _ _ (wsk fun K12 hK12 => ?_)
   have hJ13 : ∀ a w1, ((ShC d.k d.s) ∧ Sl a 100 [(0, .agg (d.cells ts.length).toArray), (1, pA g2 0)] ∧ Mg w w1 (.obj g2 (.cells (d.cells ts.length).toArray 30) :: [])) → K12 a w1 := by
    clear A M
    rintro a w14 ⟨hf15, A, M⟩
    have hSC := hf15
    refine hK12 _ _ (wsk fun K16 hK16 => ?_)
    have hJ17 : ∀ a w1, ((ShD d.k d.rl.length) ∧ Sl a 100 [(0, .agg (d.cells ts.length).toArray), (1, pA g2 0)] ∧ Mg w w1 (.obj g2 (.cells (d.cells ts.length).toArray 30) :: [])) → K16 a w1 := by
     clear A M
     rintro a w18 ⟨hf19, A, M⟩
     have hSD := hf19
     refine hK16 _ _ (wsk fun K20 hK20 => ?_)
     have hJ21 : ∀ a w1, ((ShE d.k d.n) ∧ Sl a 100 [(0, .agg (d.cells ts.length).toArray), (1, pA g2 0)] ∧ Mg w w1 (.obj g2 (.cells (d.cells ts.length).toArray 30) :: [])) → K20 a w1 := by
      clear A M
      rintro a w22 ⟨hf23, A, M⟩
      have hSE := hf23
      refine hK20 _ _ (wsk fun K24 hK24 => wsk fun K25 hK25 => wrl (sdo (v := pA g2 0) A (qf vm rfl rfl) λa A↦?_))
      refine sdo A (zi M o93 rfl 0 rfl rfl) λa A↦?_
      rcases tf ((d.k == 8)) with hb26 | hb26
      ·
       have hb26' := eq_of_beq hb26
       refine sdc A qt hb26 λa A↦?_
       refine qa (hK25 _ _ (ct A ?_))
       refine wsk fun K27 hK27 => wrl (sdo (v := pA g2 10) A (qf vt rfl rfl) λa A↦?_)
       refine sdo A (zi M qdi rfl 0 rfl rfl) λa A↦?_
       refine sdo A (qy Tryz.underlying28 rfl) λa A↦?_
       rcases tf ((((ts.length : Nat) : Int) == 2)) with hb28 | hb28
       ·
        have hb28' := eq_of_beq hb28
        refine sdc A qt hb28 λa A↦?_
        refine sda A λa A↦?_
        refine qa (hK27 _ _ (wr1 hret A ?_))
        exact ⟨by rw [← hr, jx, sh9 hSA hSB hSC hSD hSE, if_pos (by omega), decide_eq_true (show (ts.length = 2) by omega)], M.bel⟩
       ·
        have hb28' := ne_of_beq_false hb28
        refine sdc A qt hb28 λa A↦?_
        refine sda A λa A↦?_
        refine qa (hK27 _ _ (wr1 hret A ?_))
        exact ⟨by rw [← hr, jx, sh9 hSA hSB hSC hSD hSE, if_pos (by omega), decide_eq_false (show ¬ (ts.length = 2) by omega)], M.bel⟩
      ·
       have hb26' := ne_of_beq_false hb26
       refine sdc A qt hb26 λa A↦?_
       refine qa (hK25 _ _ (cf A ?_))
       refine wp_skip (hK24 _ _ (wsk fun K29 hK29 => wrl (sdo (v := pA g2 0) A (qf vm rfl rfl) λa A↦?_)))
       refine sdo A (zi M o93 rfl 0 rfl rfl) λa A↦?_
       rcases tf ((d.k == 9)) with hb30 | hb30
       ·
        have hb30' := eq_of_beq hb30
        refine sdc A qt hb30 λa A↦?_
        refine sdm A λa A↦?_
        iterate 4 refine qm A rfl rfl rfl λa A↦?_
        refine sdk (v := bV true) A λa A↦?_
        refine sda A λa A↦?_
        refine qa (hK29 _ _ (wr1 hret A ?_))
        exact ⟨by rw [← hr, jx, sh9 hSA hSB hSC hSD hSE, if_neg (by omega), decide_eq_true (show (d.k = 9 ∨ ts.length = 0) by omega)], M.bel⟩
       ·
        have hb30' := ne_of_beq_false hb30
        refine sdc A qt hb30 λa A↦?_
        refine sdm A λa A↦?_
        refine sdo (v := pA g2 10) A (qf vt rfl rfl) λa A↦?_
        refine sdo A (zi M qdi rfl 0 rfl rfl) λa A↦?_
        refine sdo A (qy Tryz.underlying28 rfl) λa A↦?_
        rcases tf ((((ts.length : Nat) : Int) == 0)) with hb31 | hb31
        ·
         have hb31' := eq_of_beq hb31
         refine sdc A qt hb31 λa A↦?_
         refine sdk (v := bV true) A λa A↦?_
         refine sda A λa A↦?_
         refine qa (hK29 _ _ (wr1 hret A ?_))
         exact ⟨by rw [← hr, jx, sh9 hSA hSB hSC hSD hSE, if_neg (by omega), decide_eq_true (show (d.k = 9 ∨ ts.length = 0) by omega)], M.bel⟩
        ·
         have hb31' := ne_of_beq_false hb31
         refine sdc A qt hb31 λa A↦?_
         refine sdk (v := bV false) A λa A↦?_
         refine sda A λa A↦?_
         refine qa (hK29 _ _ (wr1 hret A ?_))
         exact ⟨by rw [← hr, jx, sh9 hSA hSB hSC hSD hSE, if_neg (by omega), decide_eq_false (show ¬ (d.k = 9 ∨ ts.length = 0) by omega)], M.bel⟩
     refine wsk fun K32 hK32 => wrl (sdo (v := pA g2 0) A (qf vm rfl rfl) λa A↦?_)
     refine sdo A (zi M o93 rfl 0 rfl rfl) λa A↦?_
     refine qa (hK32 _ _ (wp_block (wsk fun K33 hK33 => wrl ?_)))
     rcases tf ((d.k == 2)) with hb34 | hb34
     ·
      have hb34' := eq_of_beq hb34
      refine sdc A qt hb34 λa A↦?_
      refine sda A λa A↦?_
      refine qa (hK33 _ _ (ct A ?_))
      refine wsk fun K35 hK35 => wrl (sdo (v := pA g2 1) A (qf ye rfl rfl) λa A↦?_)
      refine sdo A (zi M o93 rfl 0 rfl rfl) λa A↦?_
      rcases tf ((d.n != 0)) with hb36 | hb36
      ·
       have hb36' := bne_iff_ne.1 hb36
       refine sdc A jm hb36 λa A↦?_
       refine sdm A λa A↦?_
       refine sdo (v := pA g2 1) A (qf ye rfl rfl) λa A↦?_
       refine sdo A (zi M o93 rfl 0 rfl rfl) λa A↦?_
       rcases tf ((d.n != 1)) with hb37 | hb37
       ·
        have hb37' := bne_iff_ne.1 hb37
        refine sdc A jm hb37 λa A↦?_
        refine sdk (v := bV true) A λa A↦?_
        refine qa (hK35 _ _ (ct A ?_))
        refine wsk fun K38 hK38 => wrl (sda A λa A↦?_)
        refine qa (hK38 _ _ (wr1 hret A ?_))
        exact ⟨by rw [← hr, jx, sh6 hSA hSB hSC hSD (.inl ⟨by omega, by omega, by omega⟩)], M.bel⟩
       ·
        have hb37' := bne_eq_false_iff_eq.1 hb37
        refine sdc A jm hb37 λa A↦?_
        refine sdk (v := bV false) A λa A↦?_
        refine qa (hK35 _ _ (cf A ?_))
        refine wp_skip ?_
        exact hJ21 _ _ ⟨⟨fun h => by omega, fun h => absurd h (by omega), fun h h2 => by omega⟩, A.keep _ ⟨rfl, rfl, trivial⟩, M⟩
      ·
       have hb36' := bne_eq_false_iff_eq.1 hb36
       refine sdc A jm hb36 λa A↦?_
       refine sdm A λa A↦?_
       iterate 3 refine qm A rfl rfl rfl λa A↦?_
       refine sdk (v := bV false) A λa A↦?_
       refine qa (hK35 _ _ (cf A ?_))
       refine wp_skip ?_
       exact hJ21 _ _ ⟨⟨fun h => by omega, fun h => absurd h (by omega), fun h h2 => by omega⟩, A.keep _ ⟨rfl, rfl, trivial⟩, M⟩
     ·
      have hb34' := ne_of_beq_false hb34
      refine sdc A qt hb34 λa A↦?_
      refine sda A λa A↦?_
      refine qa (hK33 _ _ (cf A ?_))
      refine wsk fun K39 hK39 => wrl ?_
      rcases tf ((d.k == 4)) with hb40 | hb40
      ·
       have hb40' := eq_of_beq hb40
       refine sdc A qt hb40 λa A↦?_
       refine sda A λa A↦?_
       refine qa (hK39 _ _ (ct A ?_))
       refine wsk fun K41 hK41 => wrl (sdo (v := pA g2 1) A (qf ye rfl rfl) λa A↦?_)
       refine sdo A (zi M o93 rfl 0 rfl rfl) λa A↦?_
       rcases tf (yn d.n) with hb42 | hb42
       ·
        refine gcl A M (ef rfl rfl) (qqf hb42) fun w44 hb43 M a A => ?_
        refine sdo (v := bV false) A (ql rfl qp) λa A↦?_
        refine qa (hK41 _ _ (cf A ?_))
        refine wp_skip ?_
        exact hJ21 _ _ ⟨⟨fun h => by omega, fun h => hb42, fun h h2 => by omega⟩, A.keep _ ⟨rfl, rfl, trivial⟩, M⟩
       ·
        refine gcl A M (ef rfl rfl) (qqf hb42) fun w46 hb45 M a A => ?_
        refine sdo (v := bV true) A (ql rfl qp) λa A↦?_
        refine qa (hK41 _ _ (ct A ?_))
        refine wsk fun K47 hK47 => wrl (sda A λa A↦?_)
        refine qa (hK47 _ _ (wr1 hret A ?_))
        exact ⟨by rw [← hr, jx, sh6 hSA hSB hSC hSD (.inr (.inl ⟨by omega, hb42⟩))], M.bel⟩
      ·
       have hb40' := ne_of_beq_false hb40
       refine sdc A qt hb40 λa A↦?_
       refine sda A λa A↦?_
       refine qa (hK39 _ _ (cf A ?_))
       refine wsk fun K48 hK48 => wrl (sdo (v := pA g2 1) A (qf ye rfl rfl) λa A↦?_)
       refine sdo A (zi M o93 rfl 0 rfl rfl) λa A↦?_
       rcases tf ((d.n != 0)) with hb49 | hb49
       ·
        have hb49' := bne_iff_ne.1 hb49
        refine sdc A jm hb49 λa A↦?_
        refine qa (hK48 _ _ (ct A ?_))
        refine wsk fun K50 hK50 => wrl (sda A λa A↦?_)
        refine qa (hK50 _ _ (wr1 hret A ?_))
        exact ⟨by rw [← hr, jx, sh6 hSA hSB hSC hSD (.inr (.inr ⟨by omega, by omega, by omega⟩))], M.bel⟩
       ·
        have hb49' := bne_eq_false_iff_eq.1 hb49
        refine sdc A jm hb49 λa A↦?_
        refine qa (hK48 _ _ (cf A ?_))
        refine wp_skip ?_
        exact hJ21 _ _ ⟨⟨fun h => by omega, fun h => absurd h (by omega), fun h h2 => by omega⟩, A.keep _ ⟨rfl, rfl, trivial⟩, M⟩
    refine wsk fun K51 hK51 => wrl (sdo (v := pA g2 9) A (qf zca rfl rfl) λa A↦?_)
    refine sdo A (zi M ztg rfl 0 rfl rfl) λa A↦?_
    refine sdo A (qy Tryz.underlying27 rfl) λa A↦?_
    rcases tf (decide (0 < ((d.rl.length : Nat) : Int))) with hb52 | hb52
    ·
     have hb52' := of_decide_eq_true hb52
     refine sdc A ji hb52 λa A↦?_
     refine sdm A λa A↦?_
     refine sdo (v := pA g2 0) A (qf vm rfl rfl) λa A↦?_
     refine sdo A (zi M o93 rfl 0 rfl rfl) λa A↦?_
     rcases tf ((d.k != 7)) with hb53 | hb53
     ·
      have hb53' := bne_iff_ne.1 hb53
      refine sdc A jm hb53 λa A↦?_
      refine sdk (v := bV true) A λa A↦?_
      refine qa (hK51 _ _ (ct A ?_))
      refine wsk fun K54 hK54 => wrl (sda A λa A↦?_)
      refine qa (hK54 _ _ (wr1 hret A ?_))
      exact ⟨by rw [← hr, jx, sh5 hSA hSB hSC ⟨by omega, by omega⟩], M.bel⟩
     ·
      have hb53' := bne_eq_false_iff_eq.1 hb53
      refine sdc A jm hb53 λa A↦?_
      refine sdk (v := bV false) A λa A↦?_
      refine qa (hK51 _ _ (cf A ?_))
      refine wp_skip ?_
      exact hJ17 _ _ ⟨.inr (by omega), A.keep _ ⟨rfl, rfl, trivial⟩, M⟩
    ·
     have hb52' := of_decide_eq_false hb52
     refine sdc A ji hb52 λa A↦?_
     refine sdm A λa A↦?_
     iterate 3 refine qm A rfl rfl rfl λa A↦?_
     refine sdk (v := bV false) A λa A↦?_
     refine qa (hK51 _ _ (cf A ?_))
     refine wp_skip ?_
     exact hJ17 _ _ ⟨.inl (by omega), A.keep _ ⟨rfl, rfl, trivial⟩, M⟩
   refine wsk fun K55 hK55 => wrl (sdo (v := pA g2 8) A (qf ki rfl rfl) λa A↦?_)
   refine sdo A (zi M o99 rfl 0 rfl rfl) λa A↦?_
   rcases tf (decide (d.s = ⟨#[]⟩)) with hb56 | hb56
   ·
    have hb56' := of_decide_eq_true hb56
    refine sdo (v := bV false) A (qh rfl rfl (fun w => (uk Tryz.underlying9 w).trans (by rw [hb56] <;> rfl))) λa A↦?_
    refine sdm A λa A↦?_
    iterate 3 refine qm A rfl rfl rfl λa A↦?_
    refine sdk (v := bV false) A λa A↦?_
    refine sdm A λa A↦?_
    iterate 3 refine qm A rfl rfl rfl λa A↦?_
    refine sdk (v := bV false) A λa A↦?_
    refine sdm A λa A↦?_
    iterate 3 refine qm A rfl rfl rfl λa A↦?_
    refine sdk (v := bV false) A λa A↦?_
    refine qa (hK55 _ _ (cf A ?_))
    refine wp_skip ?_
    exact hJ13 _ _ ⟨.inl hb56', A.keep _ ⟨rfl, rfl, trivial⟩, M⟩
   ·
    have hb56' := of_decide_eq_false hb56
    refine sdo (v := bV true) A (qh rfl rfl (fun w => (uk Tryz.underlying9 w).trans (by rw [hb56] <;> rfl))) λa A↦?_
    refine sdm A λa A↦?_
    refine sdo (v := pA g2 0) A (qf vm rfl rfl) λa A↦?_
    refine sdo A (zi M o93 rfl 0 rfl rfl) λa A↦?_
    rcases tf ((d.k != 5)) with hb57 | hb57
    ·
     have hb57' := bne_iff_ne.1 hb57
     refine sdc A jm hb57 λa A↦?_
     refine sdk (v := bV true) A λa A↦?_
     refine sdm A λa A↦?_
     refine sdo (v := pA g2 0) A (qf vm rfl rfl) λa A↦?_
     refine sdo A (zi M o93 rfl 0 rfl rfl) λa A↦?_
     rcases tf ((d.k != 6)) with hb58 | hb58
     ·
      have hb58' := bne_iff_ne.1 hb58
      refine sdc A jm hb58 λa A↦?_
      refine sdk (v := bV true) A λa A↦?_
      refine sdm A λa A↦?_
      refine sdo (v := pA g2 0) A (qf vm rfl rfl) λa A↦?_
      refine sdo A (zi M o93 rfl 0 rfl rfl) λa A↦?_
      rcases tf ((d.k != 11)) with hb59 | hb59
      ·
       have hb59' := bne_iff_ne.1 hb59
       refine sdc A jm hb59 λa A↦?_
       refine sdk (v := bV true) A λa A↦?_
       refine qa (hK55 _ _ (ct A ?_))
       refine wsk fun K60 hK60 => wrl (sda A λa A↦?_)
       refine qa (hK60 _ _ (wr1 hret A ?_))
       exact ⟨by rw [← hr, jx, sh4 hSA hSB ⟨hb56', by omega, by omega, by omega⟩], M.bel⟩
      ·
       have hb59' := bne_eq_false_iff_eq.1 hb59
       refine sdc A jm hb59 λa A↦?_
       refine sdk (v := bV false) A λa A↦?_
       refine qa (hK55 _ _ (cf A ?_))
       refine wp_skip ?_
       exact hJ13 _ _ ⟨.inr (by omega), A.keep _ ⟨rfl, rfl, trivial⟩, M⟩
     ·
      have hb58' := bne_eq_false_iff_eq.1 hb58
      refine sdc A jm hb58 λa A↦?_
      refine sdk (v := bV false) A λa A↦?_
      refine sdm A λa A↦?_
      iterate 3 refine qm A rfl rfl rfl λa A↦?_
      refine sdk (v := bV false) A λa A↦?_
      refine qa (hK55 _ _ (cf A ?_))
      refine wp_skip ?_
      exact hJ13 _ _ ⟨.inr (by omega), A.keep _ ⟨rfl, rfl, trivial⟩, M⟩
    ·
     have hb57' := bne_eq_false_iff_eq.1 hb57
     refine sdc A jm hb57 λa A↦?_
     refine sdk (v := bV false) A λa A↦?_
     refine sdm A λa A↦?_
     iterate 3 refine qm A rfl rfl rfl λa A↦?_
     refine sdk (v := bV false) A λa A↦?_
     refine sdm A λa A↦?_
     iterate 3 refine qm A rfl rfl rfl λa A↦?_
     refine sdk (v := bV false) A λa A↦?_
     refine qa (hK55 _ _ (cf A ?_))
     refine wp_skip ?_
     exact hJ13 _ _ ⟨.inr (by omega), A.keep _ ⟨rfl, rfl, trivial⟩, M⟩
  refine wsk fun K61 hK61 => wrl (sdo (v := pA g2 0) A (qf vm rfl rfl) λa A↦?_)
  refine sdo A (zi M o93 rfl 0 rfl rfl) λa A↦?_
  rcases tf ((d.k == 3)) with hb62 | hb62
  ·
   have hb62' := eq_of_beq hb62
   refine sdc A qt hb62 λa A↦?_
   refine qa (hK61 _ _ (ct A ?_))
   refine wsk fun K63 hK63 => wrl (sdo (v := pA g2 2) A (qf qab rfl rfl) λa A↦?_)
   refine sdo A (zy M zrj rfl 0 rfl (cs := [bV d.y.q.b1, .slice d.y.o1 d.y.q.t1.length d.y.c1, .slice d.y.o2 d.y.q.q1.length d.y.c2, bV d.y.q.b2, .slice d.y.o3 d.y.q.t2.length d.y.c3, .slice d.y.o4 d.y.q.q2.length d.y.c4]) rfl rfl) λa A↦?_
   rcases tf (jp d.y.q) with hb64 | hb64
   ·
    refine gcl A M (ef rfl rfl) (jy (Nu.below hok.num M.bel) hok.len hb64) fun w66 hb65 M a A => ?_
    refine sdo (v := bV false) A (ql rfl qp) λa A↦?_
    refine qa (hK63 _ _ (cf A ?_))
    refine wp_skip ?_
    exact hJ9 _ _ ⟨⟨fun _ => hb64, fun h => absurd (show d.k = 3 by omega) h⟩, A.keep _ ⟨rfl, rfl, trivial⟩, M⟩
   ·
    refine gcl A M (ef rfl rfl) (jy (Nu.below hok.num M.bel) hok.len hb64) fun w68 hb67 M a A => ?_
    refine sdo (v := bV true) A (ql rfl qp) λa A↦?_
    refine qa (hK63 _ _ (ct A ?_))
    refine wsk fun K69 hK69 => wrl (sda A λa A↦?_)
    refine qa (hK69 _ _ (wr1 hret A ?_))
    exact ⟨by rw [← hr, jx, sh2 hSA (by omega) hb64], M.bel⟩
  ·
   have hb62' := ne_of_beq_false hb62
   refine sdc A qt hb62 λa A↦?_
   refine qa (hK61 _ _ (cf A ?_))
   refine wsk fun K70 hK70 => wrl (sdo (v := pA g2 2) A (qf qab rfl rfl) λa A↦?_)
   refine sdo (v := pA g2 2) A (qf zke rfl rfl) λa A↦?_
   refine sdo A (zy M zpa rfl 0 rfl (cs := [bV d.y.q.b1, .slice d.y.o1 d.y.q.t1.length d.y.c1, .slice d.y.o2 d.y.q.q1.length d.y.c2]) rfl rfl) λa A↦?_
   rcases tf (ku d.y.q.b1 d.y.q.t1.length d.y.q.q1.length) with hb71 | hb71
   ·
    refine gcl A M (ef rfl rfl) (qcb hok.len.l1 hok.len.l2 hb71) fun w73 hb72 M a A => ?_
    refine sdo (v := bV false) A (ql rfl qp) λa A↦?_
    refine sdm A λa A↦?_
    refine sdo (v := pA g2 2) A (qf qab rfl rfl) λa A↦?_
    refine sdo (v := pA g2 5) A (qf zkf rfl rfl) λa A↦?_
    refine sdo A (zy M zpa rfl 0 rfl (cs := [bV d.y.q.b2, .slice d.y.o3 d.y.q.t2.length d.y.c3, .slice d.y.o4 d.y.q.q2.length d.y.c4]) rfl rfl) λa A↦?_
    rcases tf (ku d.y.q.b2 d.y.q.t2.length d.y.q.q2.length) with hb74 | hb74
    ·
     refine gcl A M (ef rfl rfl) (qcb hok.len.l3 hok.len.l4 hb74) fun w76 hb75 M a A => ?_
     refine sdo (v := bV false) A (ql rfl qp) λa A↦?_
     refine sdk (v := bV false) A λa A↦?_
     refine qa (hK70 _ _ (cf A ?_))
     refine wp_skip ?_
     exact hJ9 _ _ ⟨⟨fun h => absurd h (by omega), fun _ => ⟨hb71, hb74⟩⟩, A.keep _ ⟨rfl, rfl, trivial⟩, M⟩
    ·
     refine gcl A M (ef rfl rfl) (qcb hok.len.l3 hok.len.l4 hb74) fun w78 hb77 M a A => ?_
     refine sdo (v := bV true) A (ql rfl qp) λa A↦?_
     refine sdk (v := bV true) A λa A↦?_
     refine qa (hK70 _ _ (ct A ?_))
     refine wsk fun K79 hK79 => wrl (sda A λa A↦?_)
     refine qa (hK79 _ _ (wr1 hret A ?_))
     exact ⟨by rw [← hr, jx, sh3 hSA (by omega) (.inr hb74)], M.bel⟩
   ·
    refine gcl A M (ef rfl rfl) (qcb hok.len.l1 hok.len.l2 hb71) fun w81 hb80 M a A => ?_
    refine sdo (v := bV true) A (ql rfl qp) λa A↦?_
    refine sdm A λa A↦?_
    iterate 5 refine qm A rfl rfl rfl λa A↦?_
    refine sdk (v := bV true) A λa A↦?_
    refine qa (hK70 _ _ (ct A ?_))
    refine wsk fun K82 hK82 => wrl (sda A λa A↦?_)
    refine qa (hK82 _ _ (wr1 hret A ?_))
    exact ⟨by rw [← hr, jx, sh3 hSA (by omega) (.inl hb71)], M.bel⟩
 refine wsk fun K83 hK83 => wrl (sdo (v := pA g2 0) A (qf vm rfl rfl) λa A↦?_)
 refine sdo A (zi M o93 rfl 0 rfl rfl) λa A↦?_
 rcases tf (decide (d.k < 1)) with hb84 | hb84
 ·
  have hb84' := of_decide_eq_true hb84
  refine sdc A zh hb84 λa A↦?_
  refine sdm A λa A↦?_
  iterate 3 refine qm A rfl rfl rfl λa A↦?_
  refine sdk (v := bV true) A λa A↦?_
  refine sdm A λa A↦?_
  iterate 4 refine qm A rfl rfl rfl λa A↦?_
  refine sdk (v := bV true) A λa A↦?_
  refine qa (hK83 _ _ (ct A ?_))
  refine wsk fun K85 hK85 => wrl (sda A λa A↦?_)
  refine qa (hK85 _ _ (wr1 hret A ?_))
  exact ⟨by rw [← hr, jx, sh1 (by omega)], M.bel⟩
 ·
  have hb84' := of_decide_eq_false hb84
  refine sdc A zh hb84 λa A↦?_
  refine sdm A λa A↦?_
  refine sdo (v := pA g2 0) A (qf vm rfl rfl) λa A↦?_
  refine sdo A (zi M o93 rfl 0 rfl rfl) λa A↦?_
  rcases tf (decide (11 < d.k)) with hb86 | hb86
  ·
   have hb86' := of_decide_eq_true hb86
   refine sdc A ji hb86 λa A↦?_
   refine sdk (v := bV true) A λa A↦?_
   refine sdm A λa A↦?_
   iterate 4 refine qm A rfl rfl rfl λa A↦?_
   refine sdk (v := bV true) A λa A↦?_
   refine qa (hK83 _ _ (ct A ?_))
   refine wsk fun K87 hK87 => wrl (sda A λa A↦?_)
   refine qa (hK87 _ _ (wr1 hret A ?_))
   exact ⟨by rw [← hr, jx, sh1 (by omega)], M.bel⟩
  ·
   have hb86' := of_decide_eq_false hb86
   refine sdc A ji hb86 λa A↦?_
   refine sdk (v := bV false) A λa A↦?_
   refine sdm A λa A↦?_
   refine sdo (v := pA g2 8) A (qf ki rfl rfl) λa A↦?_
   refine sdo A (zi M o99 rfl 0 rfl rfl) λa A↦?_
   rcases tf (okS d.s) with hb88 | hb88
   ·
    refine gcl A M (ef rfl rfl) (qmc hs2 hb88) fun w90 hb89 M a A => ?_
    refine sdo (v := bV false) A (ql rfl qp) λa A↦?_
    refine sdk (v := bV false) A λa A↦?_
    refine qa (hK83 _ _ (cf A ?_))
    refine wp_skip ?_
    exact hJ5 _ _ ⟨⟨by omega, by omega, hb88⟩, A.keep _ ⟨rfl, rfl, trivial⟩, M⟩
   ·
    refine gcl A M (ef rfl rfl) (qmc hs2 hb88) fun w92 hb91 M a A => ?_
    refine sdo (v := bV true) A (ql rfl qp) λa A↦?_
    refine sdk (v := bV true) A λa A↦?_
    refine qa (hK83 _ _ (ct A ?_))
    refine wsk fun K93 hK93 => wrl (sda A λa A↦?_)
    refine qa (hK93 _ _ (wr1 hret A ?_))
    exact ⟨by rw [← hr, jx, sh1 (.inr (.inr hb88))], M.bel⟩
def Counts (t : Dt) : Prop := ∀ {w : World} {dp left : Int}, t.rd w → t.tr.bulk ≤ 4000000 → 0 ≤ left → left ≤ 20000 → 0 ≤ dp → dp ≤ 201 → Calls Tryz.prog 52 #[.agg t.cells.toArray, iV dp, iV left] w fun e w' => e = .returned (iV (qcd zl dp left t.tr)) ∧ Below w.heap.size w w'
theorem zha : ∀ t : Dt, Counts t := Dt.indT fun d ts ih => by
 intro w dp left hrd hbk hl0 hl1 hd0 hd1
 have hok := (Dt.rd_iff.1 hrd)
 have hlen : ts.length ≤ 9223372036854775807 := Nat.le_trans hok.2.1 hok.2.2.1
 have M : Mg w w ([]) := Mg.start w
 refine qx (l := [(0, .agg (d.cells ts.length).toArray), (1, iV dp), (2, iV left)]) Tryz.func52 rfl Tryz.ntmps52 rfl rfl ?_
 intro Q hret hnorm hP a A
 refine wsk fun K1 hK1 => wrl (jl (vs := [iV d.k, iV d.n, bV d.y.q.b1, .slice d.y.o1 d.y.q.t1.length d.y.c1, .slice d.y.o2 d.y.q.q1.length d.y.c2, bV d.y.q.b2, .slice d.y.o3 d.y.q.t2.length d.y.c3, .slice d.y.o4 d.y.q.q2.length d.y.c4, .string d.s, .slice d.ro d.rl.length d.rc, .slice d.lo ts.length d.lc]) (t := 30) A M rfl rfl rfl pg (zd rfl rfl) (by decide) ?_)
 intro g2 w3 M a A
 refine sda A λa A↦?_
 refine qa (hK1 _ _ (wsk fun K4 hK4 => wsk fun K5 hK5 => wrl (sdm A λa A↦?_)))
 rcases tf (decide (200 < dp)) with hb6 | hb6
 ·
  have hb6' := of_decide_eq_true hb6
  refine sdc A ji hb6 λa A↦?_
  refine sdm A λa A↦?_
  iterate 2 refine qm A rfl rfl rfl λa A↦?_
  refine sdk (v := bV true) A λa A↦?_
  refine sdm A λa A↦?_
  iterate 3 refine qm A rfl rfl rfl λa A↦?_
  refine sdk (v := bV true) A λa A↦?_
  refine qa (hK5 _ _ (ct A ?_))
  refine wsk fun K7 hK7 => wrl (sda A λa A↦?_)
  refine qa (hK7 _ _ (wr1 hret A ?_))
  rw [qrj (by omega)]
  exact ⟨rfl, M.bel⟩
 ·
  have hb6' := of_decide_eq_false hb6
  refine sdc A ji hb6 λa A↦?_
  iterate 2 refine sdm A λa A↦?_
  rcases tf (decide (left ≤ 0)) with hb8 | hb8
  ·
   have hb8' := of_decide_eq_true hb8
   refine sdc A vu hb8 λa A↦?_
   refine sdk (v := bV true) A λa A↦?_
   refine sdm A λa A↦?_
   iterate 3 refine qm A rfl rfl rfl λa A↦?_
   refine sdk (v := bV true) A λa A↦?_
   refine qa (hK5 _ _ (ct A ?_))
   refine wsk fun K9 hK9 => wrl (sda A λa A↦?_)
   refine qa (hK9 _ _ (wr1 hret A ?_))
   rw [qrj (by omega)]
   exact ⟨rfl, M.bel⟩
  ·
   have hb8' := of_decide_eq_false hb8
   refine sdc A vu hb8 λa A↦?_
   refine sdk (v := bV false) A λa A↦?_
   refine sdm A λa A↦?_
   refine sdo A (zy M xi rfl 0 rfl (cs := [iV d.k, iV d.n, bV d.y.q.b1, .slice d.y.o1 d.y.q.t1.length d.y.c1, .slice d.y.o2 d.y.q.q1.length d.y.c2, bV d.y.q.b2, .slice d.y.o3 d.y.q.t2.length d.y.c3, .slice d.y.o4 d.y.q.q2.length d.y.c4, .string d.s, .slice d.ro d.rl.length d.rc, .slice d.lo ts.length d.lc]) rfl rfl) λa A↦?_
   rcases tf (jw d.k d.n d.y.q d.s d.rl.length ts.length) with hb10 | hb10
   ·
    refine gcl A M (ef rfl rfl) (qmd (hok.1.below M.bel) (Nat.le_trans qoj hbk) hlen hb10) fun w12 hb11 M a A => ?_
    refine sdo (v := bV false) A (ql rfl qp) λa A↦?_
    refine sdk (v := bV false) A λa A↦?_
    refine qa (hK5 _ _ (cf A ?_))
    refine wp_skip (hK4 _ _ (wsk fun K13 hK13 => wrl (sdm A λa A↦?_)))
    refine sdo (v := iV (left - 1)) A (qh rfl rfl (qhg (yk (by omega) (by omega)))) λa A↦?_
    refine sda A λa A↦?_
    refine qa (hK13 _ _ (wsk fun K14 hK14 => wsk fun K15 hK15 => wrl (sda A λa A↦?_)))
    refine qa (hK15 _ _ (wp_block (jc (fun m_ a w1 => ∃ (i : Nat) (m : Int), m_ = 1 + (ts.length - i) ∧ (i ≤ ts.length ∧ qed zl dp (decide (d.k = 8)) 0 (left - 1) ((ts.map Dt.tr).drop 0) = qed zl dp (decide (d.k = 8)) i m ((ts.map Dt.tr).drop i) ∧ -1 ≤ m ∧ m ≤ 20000) ∧ Sl a 52 [(0, .agg (d.cells ts.length).toArray), (1, iV dp), (2, iV m), (3, pA g2 0), (6, iV 0), (7, iV (((i : Nat) : Int))), (9, iV dp), (10, bV false), (11, bV false), (12, iV left), (13, bV false), (14, bV false), (15, bV false), (16, .agg (d.cells ts.length).toArray), (17, bV true), (18, bV false), (19, bV false), (20, iV left), (21, iV (left - 1))] ∧ Mg w w1 (.obj g2 (.cells (d.cells ts.length).toArray 30) :: [])) _ ⟨0, left - 1, rfl, ⟨Nat.zero_le _, rfl, by omega, by omega⟩, A.keep _ (by repeat' constructor), M⟩ ?_)))
    clear M A
    rintro m_ a w16 ⟨i, m, rfl, hinv18, A, M⟩ K17 hK17
    obtain ⟨hi0, hin9, hm0, hm1_⟩ := hinv18
    refine wsk fun K19 hK19 => wsk fun K20 hK20 => wrl (sdm A λa A↦?_)
    refine sdo (v := pA g2 10) A (qf vt rfl rfl) λa A↦?_
    refine sdo A (zi M qdi rfl 0 rfl rfl) λa A↦?_
    refine sdo A (qy Tryz.underlying28 rfl) λa A↦?_
    rcases tf (decide (((i : Nat) : Int) < ((ts.length : Nat) : Int))) with hb21 | hb21
    ·
     have hb21' := of_decide_eq_true hb21
     refine sdc A zh hb21 λa A↦?_
     iterate 2 refine sdm A λa A↦?_
     rcases tf (decide (0 ≤ m)) with hb22 | hb22
     ·
      have hb22' := of_decide_eq_true hb22
      refine sdc A ju hb22 λa A↦?_
      refine sdk (v := bV true) A λa A↦?_
      refine qa (hK20 _ _ (ct A ?_))
      refine wp_skip (hK19 _ _ (wsk fun K23 hK23 => wp_block (wsk fun K24 hK24 => wrl (sdm A λa A↦?_))))
      refine sdo (v := iV (dp + 1)) A (qh rfl rfl (kw (yk (by omega) (by omega)))) λa A↦?_
      refine sda A λa A↦?_
      refine qa (hK24 _ _ (wsk fun K25 hK25 => wsk fun K26 hK26 => wrl (sdo (v := pA g2 0) A (qf vm rfl rfl) λa A↦?_)))
      refine sdo A (zi M o93 rfl 0 rfl rfl) λa A↦?_
      rcases tf ((d.k == 8)) with hb27 | hb27
      ·
       have hb27' := eq_of_beq hb27
       refine sdc A qt hb27 λa A↦?_
       iterate 2 refine sdm A λa A↦?_
       rcases tf ((((i : Nat) : Int) == 1)) with hb28 | hb28
       ·
        have hb28' := eq_of_beq hb28
        refine sdc A qt hb28 λa A↦?_
        refine sdk (v := bV true) A λa A↦?_
        refine qa (hK26 _ _ (ct A ?_))
        refine wrl (sdm A λa A↦?_)
        refine sda A λa A↦?_
        refine qa (hK25 _ _ ?_)
        obtain ⟨t1, b1, o1, hi1, hm1, hr1, hl1, hH1⟩ := kid hrd (i := i) (by omega)
        have hD : (if decide (d.k = 8) = true ∧ i = 1 then dp else dp + 1) = dp := if_pos ⟨decide_eq_true hb27', by omega⟩
        refine wrl (sdo (v := pA g2 10) A (qf vt rfl rfl) λa A↦?_)
        refine sdo A (zi M qdi rfl 0 rfl rfl) λa A↦?_
        refine sdm A λa A↦?_
        refine sdo (v := pA b1 (o1 + i * 11)) A (ze (k := i) Tryz.underlying28 (by kernel_rfl) rfl rfl rfl hl1 (by omega)) λa A↦?_
        refine sdo A (jh M hH1 xi rfl rfl) λa A↦?_
        iterate 2 refine sdm A λa A↦?_
        refine gcl A M (ef rfl rfl) (ih t1 hm1 (Dt.keep M.bel _ hr1) (by have := qef (d := d) hm1; omega) (by omega) (by omega) (by omega) (by omega)) fun w30 hb29 M a A => ?_
        refine sda A λa A↦?_
        refine qa (hK23 _ _ (wrl (sdm A λa A↦?_)))
        refine sdo (v := iV (((i + 1 : Nat) : Int))) A (qh rfl rfl (fun w => (kw (yk (by omega) (by omega)) w).trans (by rw [show (((i : Nat) : Int) + 1 : Int) = ((i + 1 : Nat) : Int) from by omega]))) λa A↦?_
        refine sda A λa A↦?_
        refine qa ?_
        have hc9 := zaf zl t1.tr (dp) m (by omega)
        refine hK17 _ _ _ (by omega) ⟨i + 1, qcd zl (dp) m t1.tr, rfl, ⟨by omega, by rw [hin9, qsa hi1 (by omega) hD], by omega, by omega⟩, A.keep _ (by repeat' constructor), M⟩
       ·
        have hb28' := ne_of_beq_false hb28
        refine sdc A qt hb28 λa A↦?_
        refine sdk (v := bV false) A λa A↦?_
        refine qa (hK26 _ _ (cf A ?_))
        refine wp_skip (hK25 _ _ ?_)
        obtain ⟨t1, b1, o1, hi1, hm1, hr1, hl1, hH1⟩ := kid hrd (i := i) (by omega)
        have hD : (if decide (d.k = 8) = true ∧ i = 1 then dp else dp + 1) = dp + 1 := if_neg (fun e => by omega)
        refine wrl (sdo (v := pA g2 10) A (qf vt rfl rfl) λa A↦?_)
        refine sdo A (zi M qdi rfl 0 rfl rfl) λa A↦?_
        refine sdm A λa A↦?_
        refine sdo (v := pA b1 (o1 + i * 11)) A (ze (k := i) Tryz.underlying28 (by kernel_rfl) rfl rfl rfl hl1 (by omega)) λa A↦?_
        refine sdo A (jh M hH1 xi rfl rfl) λa A↦?_
        iterate 2 refine sdm A λa A↦?_
        refine gcl A M (ef rfl rfl) (ih t1 hm1 (Dt.keep M.bel _ hr1) (by have := qef (d := d) hm1; omega) (by omega) (by omega) (by omega) (by omega)) fun w32 hb31 M a A => ?_
        refine sda A λa A↦?_
        refine qa (hK23 _ _ (wrl (sdm A λa A↦?_)))
        refine sdo (v := iV (((i + 1 : Nat) : Int))) A (qh rfl rfl (fun w => (kw (yk (by omega) (by omega)) w).trans (by rw [show (((i : Nat) : Int) + 1 : Int) = ((i + 1 : Nat) : Int) from by omega]))) λa A↦?_
        refine sda A λa A↦?_
        refine qa ?_
        have hc9 := zaf zl t1.tr (dp + 1) m (by omega)
        refine hK17 _ _ _ (by omega) ⟨i + 1, qcd zl (dp + 1) m t1.tr, rfl, ⟨by omega, by rw [hin9, qsa hi1 (by omega) hD], by omega, by omega⟩, A.keep _ (by repeat' constructor), M⟩
      ·
       have hb27' := ne_of_beq_false hb27
       refine sdc A qt hb27 λa A↦?_
       refine sdm A λa A↦?_
       iterate 2 refine qm A rfl rfl rfl λa A↦?_
       refine sdk (v := bV false) A λa A↦?_
       refine qa (hK26 _ _ (cf A ?_))
       refine wp_skip (hK25 _ _ ?_)
       obtain ⟨t1, b1, o1, hi1, hm1, hr1, hl1, hH1⟩ := kid hrd (i := i) (by omega)
       have hD : (if decide (d.k = 8) = true ∧ i = 1 then dp else dp + 1) = dp + 1 := if_neg (fun e => hb27' (of_decide_eq_true e.1))
       refine wrl (sdo (v := pA g2 10) A (qf vt rfl rfl) λa A↦?_)
       refine sdo A (zi M qdi rfl 0 rfl rfl) λa A↦?_
       refine sdm A λa A↦?_
       refine sdo (v := pA b1 (o1 + i * 11)) A (ze (k := i) Tryz.underlying28 (by kernel_rfl) rfl rfl rfl hl1 (by omega)) λa A↦?_
       refine sdo A (jh M hH1 xi rfl rfl) λa A↦?_
       iterate 2 refine sdm A λa A↦?_
       refine gcl A M (ef rfl rfl) (ih t1 hm1 (Dt.keep M.bel _ hr1) (by have := qef (d := d) hm1; omega) (by omega) (by omega) (by omega) (by omega)) fun w34 hb33 M a A => ?_
       refine sda A λa A↦?_
       refine qa (hK23 _ _ (wrl (sdm A λa A↦?_)))
       refine sdo (v := iV (((i + 1 : Nat) : Int))) A (qh rfl rfl (fun w => (kw (yk (by omega) (by omega)) w).trans (by rw [show (((i : Nat) : Int) + 1 : Int) = ((i + 1 : Nat) : Int) from by omega]))) λa A↦?_
       refine sda A λa A↦?_
       refine qa ?_
       have hc9 := zaf zl t1.tr (dp + 1) m (by omega)
       refine hK17 _ _ _ (by omega) ⟨i + 1, qcd zl (dp + 1) m t1.tr, rfl, ⟨by omega, by rw [hin9, qsa hi1 (by omega) hD], by omega, by omega⟩, A.keep _ (by repeat' constructor), M⟩
     ·
      have hb22' := of_decide_eq_false hb22
      refine sdc A ju hb22 λa A↦?_
      refine sdk (v := bV false) A λa A↦?_
      refine qa (hK20 _ _ (cf A ?_))
      refine wp_exit (hK14 _ _ (wsk fun K35 hK35 => wrl (sdm A λa A↦?_)))
      refine sda A λa A↦?_
      refine qa (hK35 _ _ (wr1 hret A ?_))
      rw [zee (by omega) (by omega) (by rw [ya]; exact hb10), hin9, qje (by omega)]
      exact ⟨rfl, M.bel⟩
    ·
     have hb21' := of_decide_eq_false hb21
     refine sdc A zh hb21 λa A↦?_
     refine sdm A λa A↦?_
     iterate 2 refine qm A rfl rfl rfl λa A↦?_
     refine sdk (v := bV false) A λa A↦?_
     refine qa (hK20 _ _ (cf A ?_))
     refine wp_exit (hK14 _ _ (wsk fun K36 hK36 => wrl (sdm A λa A↦?_)))
     refine sda A λa A↦?_
     refine qa (hK36 _ _ (wr1 hret A ?_))
     rw [zee (by omega) (by omega) (by rw [ya]; exact hb10), hin9, qfj (by omega), qed]
     exact ⟨rfl, M.bel⟩
   ·
    refine gcl A M (ef rfl rfl) (qmd (hok.1.below M.bel) (Nat.le_trans qoj hbk) hlen hb10) fun w38 hb37 M a A => ?_
    refine sdo (v := bV true) A (ql rfl qp) λa A↦?_
    refine sdk (v := bV true) A λa A↦?_
    refine qa (hK5 _ _ (ct A ?_))
    refine wsk fun K39 hK39 => wrl (sda A λa A↦?_)
    refine qa (hK39 _ _ (wr1 hret A ?_))
    rw [qrj (.inr (.inr (by rw [ya]; exact hb10)))]
    exact ⟨rfl, M.bel⟩
theorem zhb {w : World} {d : Nd} {ts : List Dt} (hrd : (Dt.mk d ts).rd w) (hbk : (Dt.mk d ts).tr.bulk ≤ 4000000) : Calls Tryz.prog 20 #[.agg (d.cells ts.length).toArray] w fun e w' => e = .returned (bV (ve zl (Dt.mk d ts).tr)) ∧ Below w.heap.size w w' := by
 have M : Mg w w ([]) := Mg.start w
 refine qx (l := [(0, .agg (d.cells ts.length).toArray)]) Tryz.func20 rfl Tryz.ntmps20 rfl rfl ?_
 intro Q hret hnorm hP a A
 refine wsk fun K1 hK1 => wrl (jl (vs := [iV d.k, iV d.n, bV d.y.q.b1, .slice d.y.o1 d.y.q.t1.length d.y.c1, .slice d.y.o2 d.y.q.q1.length d.y.c2, bV d.y.q.b2, .slice d.y.o3 d.y.q.t2.length d.y.c3, .slice d.y.o4 d.y.q.q2.length d.y.c4, .string d.s, .slice d.ro d.rl.length d.rc, .slice d.lo ts.length d.lc]) (t := 30) A M rfl rfl rfl pg (zd rfl rfl) (by decide) ?_)
 intro g2 w3 M a A
 refine sda A λa A↦?_
 refine qa (hK1 _ _ (wsk fun K4 hK4 => wrl (sdo A (zy M xi rfl 0 rfl (cs := [iV d.k, iV d.n, bV d.y.q.b1, .slice d.y.o1 d.y.q.t1.length d.y.c1, .slice d.y.o2 d.y.q.q1.length d.y.c2, bV d.y.q.b2, .slice d.y.o3 d.y.q.t2.length d.y.c3, .slice d.y.o4 d.y.q.q2.length d.y.c4, .string d.s, .slice d.ro d.rl.length d.rc, .slice d.lo ts.length d.lc]) rfl rfl) λa A↦?_)))
 refine gcl A M (ef rfl rfl) (zha (Dt.mk d ts) (Dt.keep M.bel _ hrd) hbk (by omega) (by omega) (by omega) (by omega)) fun w5 hb9 M a A => ?_
 refine sdo (v := bV (decide (0 ≤ qcd zl 1 20000 (Dt.mk d ts).tr))) A (qh rfl rfl ju) λa A↦?_
 refine sda A λa A↦?_
 refine qa (hK4 _ _ (wr1 hret A ?_))
 exact ⟨by rw [← qui], M.bel⟩
theorem rsound_any {w : World} {t : Dt} (hrd : t.rd w) (hbk : t.tr.bulk ≤ 4000000) : Calls Tryz.prog 20 #[.agg t.cells.toArray] w fun e w' => e = .returned (bV (ve zl t.tr)) ∧ Below w.heap.size w w' := by
 obtain ⟨d, ts⟩ := t
 exact zhb hrd hbk
end Go.Proofs.YtoopkbedjbnhhaaGreatDoor.G
