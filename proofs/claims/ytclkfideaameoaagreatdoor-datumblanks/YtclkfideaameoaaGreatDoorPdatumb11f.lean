/- NumS NumZ NumH NumI -/
import Derived.Test.YtclkfideaameoaaGreatDoorPdatumb11
import Derived.Test.YtclkfideaameoaaGreatDoorPdatumb11
import Derived.Test.YtclkfideaameoaaGreatDoorPdatumb11u
import Derived.Test.YtclkfideaameoaaGreatDoorPdatumb11s
import Derived.Test.YtclkfideaameoaaGreatDoorProg
set_option linter.unusedVariables false
set_option linter.unusedSimpArgs false
set_option maxHeartbeats 1000000
namespace Go.Proofs.YtclkfideaameoaaGreatDoor.G
open Go.RowKit
theorem jm {W : World} {s : ByteArray} {z : Int} (hE : Env W) (hs : s.size ≤ 140737488351232) (h0 : 0 ≤ z) (h1 : z ≤ 255) : Calls Tryz.prog 5 #[.string s, .int .u8 z] W fun e w' => e = .returned (bV true) ∧ Below W.heap.size W w' := by
 obtain ⟨k, rfl⟩ := Int.eq_ofNat_of_zero_le h0
 have h := blanks_any (L := s.data.toList) (k := k) hE (by rw [Array.length_toList]; exact Nat.le_trans hs (by decide)) (by omega)
 have e : tx s.data.toList = s := xj s
 rwa [e] at h
end Go.Proofs.YtclkfideaameoaaGreatDoor.G
namespace Go.Proofs.YtclkfideaameoaaGreatDoor.G
open Go.RowKit
set_option maxRecDepth 100000
theorem RdA_is1_3 : Is1 Tryz.prog 3 := ⟨⟨_, Tryz.underlying3, rfl⟩, by kernel_rfl⟩
theorem RdA_is1_9 : Is1 Tryz.prog 9 := ⟨⟨_, Tryz.underlying9, rfl⟩, by kernel_rfl⟩
theorem RdA_fld_50_0 : FieldAt Tryz.prog 50 0 0 := ⟨_, _, Tryz.underlying50, rfl, rfl, by kernel_rfl⟩
theorem RdA_fld_50_1 : FieldAt Tryz.prog 50 1 1 := ⟨_, _, Tryz.underlying50, rfl, rfl, by kernel_rfl⟩
def flt : List PanicEntry := [{ v := .iface 47 (.agg #[]), recovered := false }]
theorem zy {P : Program} {w : World} {l : List (Nat × Value)} {dst : Option Tmp} {ty t : TypeId} {pos : String} {after : Array Edge} {guard : Option (Nat × Bool)} {x : Operand} {v : Value} (ht : P.concrete t = true) (hx : ev l x = some v) : Does P l ⟨dst, .makeInterface t x, ty, pos, after, guard⟩ w (.iface t v) w := fun ρ h => by
 simp [execOp, h x _ hx, run_makeInterface w t v ht]
theorem jn {w : World} : Calls Tryz.prog 23 #[bV true] w fun e w' => e = .returned (.tuple #[]) ∧ Below w.heap.size w w' := by
 have M : Mg w w ([]) := Mg.start w
 refine qr (l := [(0, bV true)]) Tryz.func23 rfl Tryz.ntmps23 rfl rfl ?_
 intro Q hret hnorm hP a A
 refine wsk fun K1 hK1 => wrl (sdm A λa A↦?_)
 refine sdo (v := bV false) A (zm rfl zr) λa A↦?_
 refine qa (hK1 _ _ (cf A ?_))
 refine wp_skip (hnorm _ _ (xk (v := .tuple #[]) A rfl .nil rfl ?_))
 exact ⟨rfl, M.bel⟩
theorem zw {w : World} : Calls Tryz.prog 23 #[bV false] w fun e w' => e = .panicked flt ∧ Below w.heap.size w w' := by
 have M : Mg w w ([]) := Mg.start w
 refine zx (l := [(0, bV false)]) Tryz.func23 rfl Tryz.ntmps23 rfl rfl ?_
 intro Q hret hnorm hP hX a A
 refine wsk fun K1 hK1 => wrl (sdm A λa A↦?_)
 refine sdo (v := bV true) A (zm rfl zr) λa A↦?_
 refine qa (hK1 _ _ (ct A ?_))
 refine wrl (sdo (v := .agg #[]) A (jl rfl (fun w => by kernel_rfl)) λa A↦?_)
 refine sdo (v := .iface 47 (.agg #[])) A (zy (by kernel_rfl) rfl) λa A↦?_
 refine jp (v := .iface 47 (.agg #[])) A rfl (fun ρ h => by simp only [execOp, h (.tmp 5) _ rfl]; rfl) ?_
 exact hX _ _ _ _ _ A ⟨rfl, M.bel⟩
theorem qz {w0 w : World} {g p : Nat} {lg : Bool} {L : List UInt8} {T : List Ck} (hp : p ≤ L.length) (hM0 : Mg w0 w (.obj g (rC L p lg) :: T)) : Calls Tryz.prog 21 #[pA g 0] w fun e w' => e = .returned (.string (tx (L.drop p))) ∧ Mg w0 w' (.obj g (rC L p lg) :: T) := by
 have M : Mg w0 w (.obj g (rC L p lg) :: T) := hM0
 refine qr (l := [(0, pA g 0)]) Tryz.func21 rfl Tryz.ntmps21 rfl rfl ?_
 intro Q hret hnorm hP a A
 refine wsk fun K1 hK1 => wrl (sda A λa A↦?_)
 refine qa (hK1 _ _ (wsk fun K2 hK2 => zi (S := fun w1 => Mg w0 w1 (.obj g (rC L p lg) :: [])) (by kernel_rfl) ?_))
 replace M := M.drew
 refine amv A 0 rfl hP (M.sub (cc ns)) λa A↦?_
 refine atk A 1 rfl hP (M.sub (cc ns)) (λ_ M↦zf rfl) λa A↦?_
 refine atk (v := pA g 0) A 2 rfl hP (M.sub (cc ns)) (λ_ M↦qj RdA_fld_50_0 rfl rfl) λa A↦?_
 refine atk A 3 rfl hP (M.sub (cc ns)) (λ_ M↦zt M RdA_is1_9 rfl 0 rfl rfl) λa A↦?_
 refine amv A 4 rfl hP (M.sub (cc ns)) λa A↦?_
 refine atk A 5 rfl hP (M.sub (cc ns)) (λ_ M↦zf rfl) λa A↦?_
 refine atk (v := pA g 1) A 6 rfl hP (M.sub (cc ns)) (λ_ M↦qj RdA_fld_50_1 rfl rfl) λa A↦?_
 refine atk A 7 rfl hP (M.sub (cc ns)) (λ_ M↦zt M RdA_is1_3 rfl 0 rfl rfl) λa A↦?_
 refine atk (v := .string ((tx (L.drop p)))) A 8 rfl hP (M.sub (cc ns)) (λ_ M↦qs (s := L) (p := p) Tryz.underlying9 rfl rfl rfl (by omega)) λa A↦?_
 refine atk A 9 rfl hP (M.sub (cc ns)) (λ_ M↦zd rfl) λa A↦?_
 refine qy (by kernel_rfl) ?_
 refine hK2 _ _ (wr1 hret A ?_)
 exact ⟨rfl, M⟩
end Go.Proofs.YtclkfideaameoaaGreatDoor.G
∧ Mg w0 w' (.obj g (rC L p lg) :: T) := by
 have M : Mg w0 w (.obj g (rC L p lg) :: T) := hM0
 refine qr (l := [(0, pA g 0), (1, .string ((tx t)))]) Tryz.func32 rfl Tryz.ntmps32 rfl rfl ?_
 intro Q hret hnorm hP a A
 refine wsk fun K1 hK1 => wrl (sda A λa A↦?_)
 refine qa (hK1 _ _ (wsk fun K2 hK2 => wsk fun K3 hK3 => wrl (sdm A λa A↦?_)))
 refine sct A (ef rfl rfl) (qz (p := p) (L := L) (T := (T)) (by omega) M) ?_
 rintro _ w5 ⟨rfl, hM4⟩
 replace M : Mg w0 w5 (.obj g (rC L p lg) :: T) := hM4
 refine ⟨_, rfl, ?_⟩
 intro a A
 refine sdm A λa A↦?_
 refine gcl A M (ef rfl rfl) ((hp_as hh)) fun w7 hb6 M a A => ?_
 refine sdo (v := bV true) A (zm rfl zr) λa A↦?_
 refine qa (hK3 _ _ (ct A ?_))
 refine wsk fun K8 hK8 => wrl (sda A λa A↦?_)
 refine qa (hK8 _ _ (wr1 hret A ?_))
 exact ⟨rfl, M⟩
theorem xa {w0 w : World} {g p : Nat} {lg : Bool} {L : List UInt8} {T : List Ck} (hT : Tb w0) (hp : p ≤ L.length) (hl : L.length ≤ 1000000000) (hne : L.drop p ≠ []) (hM0 : Mg w0 w (.obj g (rC L p lg) :: T)) : Calls Tryz.prog 53 #[pA g 0] w fun e w' => e = .returned (.int .i32 (((dcX (L.drop p)).1 : Nat) : Int)) ∧ Mg w0 w' (.obj g (rC L (p + (dcX (L.drop p)).2) lg) :: T) := by
 obtain ⟨hw1, hw2⟩ := dcX_wide hne
 rw [List.length_drop] at hw2
 have M : Mg w0 w (.obj g (rC L p lg) :: T) := hM0
 refine qr (l := [(0, pA g 0)]) Tryz.func53 rfl Tryz.ntmps53 rfl rfl ?_
 intro Q hret hnorm hP a A
 refine wsk fun K1 hK1 => wrl (sda A λa A↦?_)
 refine qa (hK1 _ _ (wsk fun K2 hK2 => wrl (sdm A λa A↦?_)))
 refine sct A (ef rfl rfl) (qz (p := p) (L := L) (T := (T)) (by omega) M) ?_
 rintro _ w4 ⟨rfl, hM3⟩
 replace M : Mg w0 w4 (.obj g (rC L p lg) :: T) := hM3
 refine ⟨_, rfl, ?_⟩
 intro a A
 refine gcl A M (ef rfl rfl) (dc_any (l := L.drop p) (hT.below M.bel)) fun w6 hb5 M a A => ?_
 refine sdm A λa A↦?_
 iterate 2 refine sdo A (qp (vs := [.int .i32 ((((dcX (L.drop p)).1 : Nat) : Int)), iV ((((dcX (L.drop p)).2 : Nat) : Int))]) rfl rfl) λa A↦?_
 iterate 2 refine sda A λa A↦?_
 refine qa (hK2 _ _ (wsk fun K7 hK7 => wrl (sdm A λa A↦?_)))
 refine sdo (v := bV true) A (qb rfl rfl (fun w => (qx w).trans (by rw [show (decide (0 < (((dcX (L.drop p)).2 : Nat) : Int))) = true from (decide_eq_true (by omega))]))) λa A↦?_
 refine gcl A M (ef rfl rfl) (jn) fun w9 hb8 M a A => ?_
 refine qa (hK7 _ _ (wsk fun K10 hK10 => wrl (sdm A λa A↦?_)))
 refine sdo A (zf rfl) λa A↦?_
 refine sdo (v := pA g 1) A (qj RdB_fld_50_1 rfl rfl) λa A↦?_
 refine sdo A (zt M RdB_is1_3 rfl 0 rfl rfl) λa A↦?_
 refine sdm A λa A↦?_
 refine sdo (v := iV (((p + (dcX (L.drop p)).2 : Nat) : Int))) A (qb rfl rfl (ar_add ((in_i64 (by omega) (by omega)).trans (by omega)))) λa A↦?_
 refine sdo A (zf rfl) λa A↦?_
 refine sdo (v := pA g 1) A (qj RdB_fld_50_1 rfl rfl) λa A↦?_
 refine jz (L' := (.obj g (rC L (p + (dcX (L.drop p)).2) lg) :: T)) A M rfl rfl (jy rfl rfl rfl (by kernel_rfl) M 0 rfl rfl rfl) 0 rfl rfl rfl ?_
 intro w11 M
 refine qa (hK10 _ _ (wsk fun K12 hK12 => wrl (sdm A λa A↦?_)))
 refine sda A λa A↦?_
 refine qa (hK12 _ _ (wr1 hret A ?_))
 exact ⟨rfl, M⟩
theorem jt {w0 w : World} {g p : Nat} {lg : Bool} {L : List UInt8} {T : List Ck} (hT : Tb w0) (hp : p ≤ L.length) (hl : L.length ≤ 1000000000) (hne : L.drop p = []) (hM0 : Mg w0 w (.obj g (rC L p lg) :: T)) : Calls Tryz.prog 53 #[pA g 0] w fun e w' => e = .panicked flt ∧ Mg w0 w' (.obj g (rC L p lg) :: T) := by
 have hw1 : (dcX (L.drop p)).2 = 0 := by rw [hne]; rfl
 have M : Mg w0 w (.obj g (rC L p lg) :: T) := hM0
 refine zx (l := [(0, pA g 0)]) Tryz.func53 rfl Tryz.ntmps53 rfl rfl ?_
 intro Q hret hnorm hP hX a A
 refine wsk fun K1 hK1 => wrl (sda A λa A↦?_)
 refine qa (hK1 _ _ (wsk fun K2 hK2 => wrl (sdm A λa A↦?_)))
 refine sct A (ef rfl rfl) (qz (p := p) (L := L) (T := (T)) (by omega) M) ?_
 rintro _ w4 ⟨rfl, hM3⟩
 replace M : Mg w0 w4 (.obj g (rC L p lg) :: T) := hM3
 refine ⟨_, rfl, ?_⟩
 intro a A
 refine gcl A M (ef rfl rfl) (dc_any (l := L.drop p) (hT.below M.bel)) fun w6 hb5 M a A => ?_
 refine sdm A λa A↦?_
 iterate 2 refine sdo A (qp (vs := [.int .i32 ((((dcX (L.drop p)).1 : Nat) : Int)), iV ((((dcX (L.drop p)).2 : Nat) : Int))]) rfl rfl) λa A↦?_
 iterate 2 refine sda A λa A↦?_
 refine qa (hK2 _ _ (wsk fun K7 hK7 => wrl (sdm A λa A↦?_)))
 refine sdo (v := bV false) A (qb rfl rfl (fun w => (qx w).trans (by rw [show (decide (0 < (((dcX (L.drop p)).2 : Nat) : Int))) = false from (decide_eq_false (by omega))]))) λa A↦?_
 refine zq A rfl rfl rfl (ef rfl rfl) (zw) ?_
 rintro _ w9 ⟨rfl, hp10⟩
 exact .inl ⟨_, rfl, hX _ _ _ _ _ A (⟨rfl, M.call hp10⟩)⟩
end Go.Proofs.YtclkfideaameoaaGreatDoor.G
true) A λa A↦?_
     refine sda A λa A↦?_
     refine qa (hK2 _ _ (wr1 hret A ?_))
     exact ⟨by unfold isHx; rw [hb3, hb4, hb5, hb6]; rfl, M.bel⟩
    ·
     have hb6' := of_decide_eq_false hb6
     refine sdc A qn hb6 λa A↦?_
     iterate 2 refine sdk (v := bV false) A λa A↦?_
     iterate 2 refine sdm A λa A↦?_
     rcases tf (decide (65 ≤ ((b.toNat : Nat) : Int))) with hb7 | hb7
     ·
      have hb7' := of_decide_eq_true hb7
      refine sdc A ql hb7 λa A↦?_
      iterate 2 refine sdm A λa A↦?_
      rcases tf (decide (((b.toNat : Nat) : Int) ≤ 70)) with hb8 | hb8
      ·
       have hb8' := of_decide_eq_true hb8
       refine sdc A qn hb8 λa A↦?_
       iterate 2 refine sdk (v := bV true) A λa A↦?_
       refine sda A λa A↦?_
       refine qa (hK2 _ _ (wr1 hret A ?_))
       exact ⟨by unfold isHx; rw [hb3, hb4, hb5, hb6, hb7, hb8]; rfl, M.bel⟩
      ·
       have hb8' := of_decide_eq_false hb8
       refine sdc A qn hb8 λa A↦?_
       iterate 2 refine sdk (v := bV false) A λa A↦?_
       refine sda A λa A↦?_
       refine qa (hK2 _ _ (wr1 hret A ?_))
       exact ⟨by unfold isHx; rw [hb3, hb4, hb5, hb6, hb7, hb8]; rfl, M.bel⟩
     ·
      have hb7' := of_decide_eq_false hb7
      refine sdc A ql hb7 λa A↦?_
      refine sdm A λa A↦?_
      iterate 2 refine qg A rfl rfl rfl λa A↦?_
      iterate 2 refine sdk (v := bV false) A λa A↦?_
      refine sda A λa A↦?_
      refine qa (hK2 _ _ (wr1 hret A ?_))
      exact ⟨by unfold isHx; rw [hb3, hb4, hb5, hb6, hb7]; rfl, M.bel⟩
   ·
    have hb5' := of_decide_eq_false hb5
    refine sdc A ql hb5 λa A↦?_
    refine sdm A λa A↦?_
    iterate 2 refine qg A rfl rfl rfl λa A↦?_
    iterate 2 refine sdk (v := bV false) A λa A↦?_
    iterate 2 refine sdm A λa A↦?_
    rcases tf (decide (65 ≤ ((b.toNat : Nat) : Int))) with hb9 | hb9
    ·
     have hb9' := of_decide_eq_true hb9
     refine sdc A ql hb9 λa A↦?_
     iterate 2 refine sdm A λa A↦?_
     rcases tf (decide (((b.toNat : Nat) : Int) ≤ 70)) with hb10 | hb10
     ·
      have hb10' := of_decide_eq_true hb10
      refine sdc A qn hb10 λa A↦?_
      iterate 2 refine sdk (v := bV true) A λa A↦?_
      refine sda A λa A↦?_
      refine qa (hK2 _ _ (wr1 hret A ?_))
      exact ⟨by unfold isHx; rw [hb3, hb4, hb5, hb9, hb10]; rfl, M.bel⟩
     ·
      have hb10' := of_decide_eq_false hb10
      refine sdc A qn hb10 λa A↦?_
      iterate 2 refine sdk (v := bV false) A λa A↦?_
      refine sda A λa A↦?_
      refine qa (hK2 _ _ (wr1 hret A ?_))
      exact ⟨by unfold isHx; rw [hb3, hb4, hb5, hb9, hb10]; rfl, M.bel⟩
    ·
     have hb9' := of_decide_eq_false hb9
     refine sdc A ql hb9 λa A↦?_
     refine sdm A λa A↦?_
     iterate 2 refine qg A rfl rfl rfl λa A↦?_
     iterate 2 refine sdk (v := bV false) A λa A↦?_
     refine sda A λa A↦?_
     refine qa (hK2 _ _ (wr1 hret A ?_))
     exact ⟨by unfold isHx; rw [hb3, hb4, hb5, hb9]; rfl, M.bel⟩
 ·
  have hb3' := of_decide_eq_false hb3
  refine sdc A ql hb3 λa A↦?_
  refine sdm A λa A↦?_
  iterate 2 refine qg A rfl rfl rfl λa A↦?_
  refine sdk (v := bV false) A λa A↦?_
  iterate 2 refine sdm A λa A↦?_
  rcases tf (decide (97 ≤ ((b.toNat : Nat) : Int))) with hb11 | hb11
  ·
   have hb11' := of_decide_eq_true hb11
   refine sdc A ql hb11 λa A↦?_
   iterate 2 refine sdm A λa A↦?_
   rcases tf (decide (((b.toNat : Nat) : Int) ≤ 102)) with hb12 | hb12
   ·
    have hb12' := of_decide_eq_true hb12
    refine sdc A qn hb12 λa A↦?_
    iterate 2 refine sdk (v := bV true) A λa A↦?_
    refine sdm A λa A↦?_
    iterate 3 refine qg A rfl rfl rfl λa A↦?_
    iterate 2 refine jq A rfl rfl rfl λa A↦?_
    refine qg A rfl rfl rfl λa A↦?_
    refine sdk (v := bV true) A λa A↦?_
    refine sda A λa A↦?_
    refine qa (hK2 _ _ (wr1 hret A ?_))
    exact ⟨by unfold isHx; rw [hb3, hb11, hb12]; rfl, M.bel⟩
   ·
    have hb12' := of_decide_eq_false hb12
    refine sdc A qn hb12 λa A↦?_
    iterate 2 refine sdk (v := bV false) A λa A↦?_
    iterate 2 refine sdm A λa A↦?_
    rcases tf (decide (65 ≤ ((b.toNat : Nat) : Int))) with hb13 | hb13
    ·
     have hb13' := of_decide_eq_true hb13
     refine sdc A ql hb13 λa A↦?_
     iterate 2 refine sdm A λa A↦?_
     rcases tf (decide (((b.toNat : Nat) : Int) ≤ 70)) with hb14 | hb14
     ·
      have hb14' := of_decide_eq_true hb14
      refine sdc A qn hb14 λa A↦?_
      iterate 2 refine sdk (v := bV true) A λa A↦?_
      refine sda A λa A↦?_
      refine qa (hK2 _ _ (wr1 hret A ?_))
      exact ⟨by unfold isHx; rw [hb3, hb11, hb12, hb13, hb14]; rfl, M.bel⟩
     ·
      have hb14' := of_decide_eq_false hb14
      refine sdc A qn hb14 λa A↦?_
      iterate 2 refine sdk (v := bV false) A λa A↦?_
      refine sda A λa A↦?_
      refine qa (hK2 _ _ (wr1 hret A ?_))
      exact ⟨by unfold isHx; rw [hb3, hb11, hb12, hb13, hb14]; rfl, M.bel⟩
    ·
     have hb13' := of_decide_eq_false hb13
     refine sdc A ql hb13 λa A↦?_
     refine sdm A λa A↦?_
     iterate 2 refine qg A rfl rfl rfl λa A↦?_
     iterate 2 refine sdk (v := bV false) A λa A↦?_
     refine sda A λa A↦?_
     refine qa (hK2 _ _ (wr1 hret A ?_))
     exact ⟨by unfold isHx; rw [hb3, hb11, hb12, hb13]; rfl, M.bel⟩
  ·
   have hb11' := of_decide_eq_false hb11
   refine sdc A ql hb11 λa A↦?_
   refine sdm A λa A↦?_
   iterate 2 refine qg A rfl rfl rfl λa A↦?_
   iterate 2 refine sdk (v := bV false) A λa A↦?_
   iterate 2 refine sdm A λa A↦?_
   rcases tf (decide (65 ≤ ((b.toNat : Nat) : Int))) with hb15 | hb15
   ·
    have hb15' := of_decide_eq_true hb15
    refine sdc A ql hb15 λa A↦?_
    iterate 2 refine sdm A λa A↦?_
    rcases tf (decide (((b.toNat : Nat) : Int) ≤ 70)) with hb16 | hb16
    ·
     have hb16' := of_decide_eq_true hb16
     refine sdc A qn hb16 λa A↦?_
     iterate 2 refine sdk (v := bV true) A λa A↦?_
     refine sda A λa A↦?_
     refine qa (hK2 _ _ (wr1 hret A ?_))
     exact ⟨by unfold isHx; rw [hb3, hb11, hb15, hb16]; rfl, M.bel⟩
    ·
     have hb16' := of_decide_eq_false hb16
     refine sdc A qn hb16 λa A↦?_
     iterate 2 refine sdk (v := bV false) A λa A↦?_
     refine sda A λa A↦?_
     refine qa (hK2 _ _ (wr1 hret A ?_))
     exact ⟨by unfold isHx; rw [hb3, hb11, hb15, hb16]; rfl, M.bel⟩
   ·
    have hb15' := of_decide_eq_false hb15
    refine sdc A ql hb15 λa A↦?_
    refine sdm A λa A↦?_
    iterate 2 refine qg A rfl rfl rfl λa A↦?_
    iterate 2 refine sdk (v := bV false) A λa A↦?_
    refine sda A λa A↦?_
    refine qa (hK2 _ _ (wr1 hret A ?_))
    exact ⟨by unfold isHx; rw [hb3, hb11, hb15]; rfl, M.bel⟩
theorem jb {w : World} {b : UInt8} {c : Bool} (h : isHx b = c) : Calls Tryz.prog 116 #[.int .u8 ((b.toNat : Nat) : Int)] w fun e w' => e = .returned (bV c) ∧ Below w.heap.size w w' := h ▸ hex_any
theorem jc {w : World} {l : List UInt8} (hT : Tb w) (hl : l.length ≤ 1000000000) : Calls Tryz.prog 86 #[.string (tx l)] w fun e w' => e = .returned (iV ((tiedN l : Nat) : Int)) ∧ Below w.heap.size w w' := by
 have M : Mg w w ([]) := Mg.start w
 refine qr (l := [(0, .string ((tx l)))]) Tryz.func86 rfl Tryz.ntmps86 rfl rfl ?_
 intro Q hret hnorm hP a A
 refine wsk fun K1 hK1 => wrl (sda A λa A↦?_)
 refine qa (hK1 _ _ (wsk fun K2 hK2 => wrl (sdm A λa A↦?_)))
 refine sct A (ef rfl rfl) (dc_any (l := l) (hT.below M.bel)) ?_
 rintro _ w4 ⟨rfl, hb3⟩
 obtain ⟨q, hq⟩ : ∃ q, (dcX l).2 = q := ⟨_, rfl⟩
 have hql := dcX_le l
 rw [hq] at hql ⊢
 replace M := M.call hb3
 refine ⟨_, rfl, ?_⟩
 intro a A
 refine sdm A λa A↦?_
 iterate 2 refine sdo A (qp (vs := [.int .i32 ((((dcX l).1 : Nat) : Int)), iV (((q : Nat) : Int))]) rfl rfl) λa A↦?_
 iterate 2 refine sda A λa A↦?_
 refine qa (hK2 _ _ (wsk fun K5 hK5 => wrl (sda A λa A↦?_)))
 refine qa (hK5 _ _ (wsk fun K6 hK6 => wp_block (zl (fun m_ a w1 => ∃ (j : Nat), m_ = 1 + (l.length - (q + j)) ∧ (q + j ≤ l.length ∧ hxN (l.drop q) = j + hxN (l.drop (q + j))) ∧ Sl a 41 [(0, .string ((tx l))), (2, iV 0), (3, .int .i32 ((((dcX l).1 : Nat) : Int))), (4, iV (((q : Nat) : Int))), (5, iV (((j : Nat) : Int))), (6, .tuple #[.int .i32 ((((dcX l).1 : Nat) : Int)), iV (((q : Nat) : Int))]), (7, .string ((tx l))), (8, .tuple #[.int .i32 ((((dcX l).1 : Nat) : Int)), iV (((q : Nat) : Int))]), (9, .int .i32 ((((dcX l).1 : Nat) : Int))), (10, iV (((q : Nat) : Int)))] ∧ Mg w w1 ([])) _ ⟨0, rfl, ⟨by omega, by rw [Nat.zero_add, Nat.add_zero]⟩, A.keep _ (by repeat' constructor), M⟩ ?_)))
 clear M A
 rintro m_ a w7 ⟨j, rfl, hinv9, A, M⟩ K8 hK8
 obtain ⟨hj0, hj⟩ := hinv9
 refine wsk fun K10 hK10 => wsk fun K11 hK11 => wrl ?_
 iterate 2 refine sdm A λa A↦?_
 refine sdo (v := iV (((q + j : Nat) : Int))) A (qb rfl rfl (ar_add ((in_i64 (by omega) (by omega)).trans (by omega)))) λa A↦?_
 refine sdm A λa A↦?_
 refine sdo (v := iV (((l.length : Nat) : Int))) A (zg (s := l) Tryz.underlying9 rfl) λa A↦?_
 rcases tf (decide (((q + j : Nat) : Int) < ((l.length : Nat) : Int))) with hb12 | hb12
 ·
  have hb12' := of_decide_eq_true hb12
  refine sdc A qw hb12 λa A↦?_
  iterate 4 refine sdm A λa A↦?_
  refine sdo (v := iV (((q + j : Nat) : Int))) A (qb rfl rfl (ar_add ((in_i64 (by omega) (by omega)).trans (by omega)))) λa A↦?_
  obtain ⟨b13, hb14⟩ : ∃ b, l[q + j]? = some b := ⟨_, List.getElem?_eq_getElem (show q + j < l.length by omega)⟩
  refine sdo (v := .int .u8 (((b13.toNat : Nat) : Int))) A (zb (s := l) (i := q + j) Tryz.underlying9 rfl rfl rfl hb14) λa A↦?_
  rcases tf (isHx b13) with hb15 | hb15
  ·
   refine gcl A M (ef rfl rfl) ((jb hb15)) fun w17 hb16 M a A => ?_
   refine sdk (v := bV true) A λa A↦?_
   refine qa (hK11 _ _ (ct A ?_))
   refine wp_skip (hK10 _ _ (wp_block (wrl (sdm A λa A↦?_))))
   refine sdo (v := iV (((j + 1 : Nat) : Int))) A (qb rfl rfl (ar_add ((in_i64 (by omega) (by omega)).trans (by omega)))) λa A↦?_
   refine sda A λa A↦?_
   refine qa ?_
   refine hK8 _ _ _ (by omega) ⟨j + 1, rfl, ⟨by omega, by rw [hj, hxN_hit hb14 hb15, Nat.add_assoc]; omega⟩, A.keep _ (by repeat' constructor), M⟩
  ·
   refine gcl A M (ef rfl rfl) ((jb hb15)) fun w19 hb18 M a A => ?_
   refine sdk (v := bV false) A λa A↦?_
   refine qa (hK11 _ _ (cf A ?_))
   refine wp_exit (hK6 _ _ (wsk fun K20 hK20 => wrl ?_))
   iterate 2 refine sdm A λa A↦?_
   refine sdo (v := iV (((q + j : Nat) : Int))) A (qb rfl rfl (ar_add ((in_i64 (by omega) (by omega)).trans (by omega)))) λa A↦?_
   refine sda A λa A↦?_
   refine qa (hK20 _ _ (wsk fun K21 hK21 => wsk fun K22 hK22 => wrl (sdm A λa A↦?_)))
   rcases tf (decide (0 < ((j : Nat) : Int))) with hb23 | hb23
   ·
    have hb23' := of_decide_eq_true hb23
    refine sdc A qx hb23 λa A↦?_
    iterate 3 refine sdm A λa A↦?_
    refine sdo (v := .string ((tx (l.drop (q + j))))) A (qs (s := l) (p := q + j) Tryz.underlying9 rfl rfl rfl (by omega)) λa A↦?_
    rcases tf (Lib.hasPrefix (l.drop (q + j)) [59]) with hb24 | hb24
    ·
     refine gcl A M (ef rfl rfl) ((hp_as hb24)) fun w26 hb25 M a A => ?_
     refine sdk (v := bV true) A λa A↦?_
     refine qa (hK22 _ _ (ct A ?_))
     refine wrl (sdm A λa A↦?_)
     refine sdo (v := iV (((q + j + 1 : Nat) : Int))) A (qb rfl rfl (ar_add ((in_i64 (by omega) (by omega)).trans (by omega)))) λa A↦?_
     refine sda A λa A↦?_
     refine qa (hK21 _ _ (wsk fun K27 hK27 => wrl (sdm A λa A↦?_)))
     refine sda A λa A↦?_
     refine qa (hK27 _ _ (wr1 hret A ?_))
     have hz : hxN (l.drop (q + j)) = 0 := by first | exact hxN_not (by assumption) (by assumption) | exact hxN_end (by omega)
     have hjj : hxN (l.drop q) = j := by omega
     exact ⟨by unfold tiedN; rw [hq, hjj, hb24, if_pos (by rw [decide_eq_true (by omega)]; rfl)], M.bel⟩
    ·
     refine gcl A M (ef rfl rfl) ((hp_as hb24)) fun w29 hb28 M a A => ?_
     refine sdk (v := bV false) A λa A↦?_
     refine qa (hK22 _ _ (cf A ?_))
     refine wp_skip (hK21 _ _ (wsk fun K30 hK30 => wrl (sdm A λa A↦?_)))
     refine sda A λa A↦?_
     refine qa (hK30 _ _ (wr1 hret A ?_))
     have hz : hxN (l.drop (q + j)) = 0 := by first | exact hxN_not (by assumption) (by assumption) | exact hxN_end (by omega)
     have hjj : hxN (l.drop q) = j := by omega
     exact ⟨by unfold tiedN; rw [hq, hjj, hb24, if_neg (by rw [Bool.and_false]; decide)]; rfl, M.bel⟩
   ·
    have hb23' := of_decide_eq_false hb23
    refine sdc A qx hb23 λa A↦?_
    refine sdm A λa A↦?_
    iterate 4 refine qg A rfl rfl rfl λa A↦?_
    refine sdk (v := bV false) A λa A↦?_
    refine qa (hK22 _ _ (cf A ?_))
    refine wp_skip (hK21 _ _ (wsk fun K31 hK31 => wrl (sdm A λa A↦?_)))
    refine sda A λa A↦?_
    refine qa (hK31 _ _ (wr1 hret A ?_))
    have hz : hxN (l.drop (q + j)) = 0 := by first | exact hxN_not (by assumption) (by assumption) | exact hxN_end (by omega)
    have hjj : hxN (l.drop q) = j := by omega
    exact ⟨by unfold tiedN; rw [hq, hjj, if_neg (by rw [decide_eq_false (by omega), Bool.false_and]; decide)]; rfl, M.bel⟩
 ·
  have hb12' := of_decide_eq_false hb12
  refine sdc A qw hb12 λa A↦?_
  refine sdm A λa A↦?_
  iterate 6 refine qg A rfl rfl rfl λa A↦?_
  refine sdk (v := bV false) A λa A↦?_
  refine qa (hK11 _ _ (cf A ?_))
  refine wp_exit (hK6 _ _ (wsk fun K32 hK32 => wrl ?_))
  iterate 2 refine sdm A λa A↦?_
  refine sdo (v := iV (((q + j : Nat) : Int))) A (qb rfl rfl (ar_add ((in_i64 (by omega) (by omega)).trans (by omega)))) λa A↦?_
  refine sda A λa A↦?_
  refine qa (hK32 _ _ (wsk fun K33 hK33 => wsk fun K34 hK34 => wrl (sdm A λa A↦?_)))
  rcases tf (decide (0 < ((j : Nat) : Int))) with hb35 | hb35
  ·
   have hb35' := of_decide_eq_true hb35
   refine sdc A qx hb35 λa A↦?_
   iterate 3 refine sdm A λa A↦?_
   refine sdo (v := .string ((tx (l.drop (q + j))))) A (qs (s := l) (p := q + j) Tryz.underlying9 rfl rfl rfl (by omega)) λa A↦?_
   rcases tf (Lib.hasPrefix (l.drop (q + j)) [59]) with hb36 | hb36
   ·
    refine gcl A M (ef rfl rfl) ((hp_as hb36)) fun w38 hb37 M a A => ?_
    refine sdk (v := bV true) A λa A↦?_
    refine qa (hK34 _ _ (ct A ?_))
    refine wrl (sdm A λa A↦?_)
    refine sdo (v := iV (((q + j + 1 : Nat) : Int))) A (qb rfl rfl (ar_add ((in_i64 (by omega) (by omega)).trans (by omega)))) λa A↦?_
    refine sda A λa A↦?_
    refine qa (hK33 _ _ (wsk fun K39 hK39 => wrl (sdm A λa A↦?_)))
    refine sda A λa A↦?_
    refine qa (hK39 _ _ (wr1 hret A ?_))
    have hz : hxN (l.drop (q + j)) = 0 := by first | exact hxN_not (by assumption) (by assumption) | exact hxN_end (by omega)
    have hjj : hxN (l.drop q) = j := by omega
    exact ⟨by unfold tiedN; rw [hq, hjj, hb36, if_pos (by rw [decide_eq_true (by omega)]; rfl)], M.bel⟩
   ·
    refine gcl A M (ef rfl rfl) ((hp_as hb36)) fun w41 hb40 M a A => ?_
    refine sdk (v := bV false) A λa A↦?_
    refine qa (hK34 _ _ (cf A ?_))
    refine wp_skip (hK33 _ _ (wsk fun K42 hK42 => wrl (sdm A λa A↦?_)))
    refine sda A λa A↦?_
    refine qa (hK42 _ _ (wr1 hret A ?_))
    have hz : hxN (l.drop (q + j)) = 0 := by first | exact hxN_not (by assumption) (by assumption) | exact hxN_end (by omega)
    have hjj : hxN (l.drop q) = j := by omega
    exact ⟨by unfold tiedN; rw [hq, hjj, hb36, if_neg (by rw [Bool.and_false]; decide)]; rfl, M.bel⟩
  ·
   have hb35' := of_decide_eq_false hb35
   refine sdc A qx hb35 λa A↦?_
   refine sdm A λa A↦?_
   iterate 4 refine qg A rfl rfl rfl λa A↦?_
   refine sdk (v := bV false) A λa A↦?_
   refine qa (hK34 _ _ (cf A ?_))
   refine wp_skip (hK33 _ _ (wsk fun K43 hK43 => wrl (sdm A λa A↦?_)))
   refine sda A λa A↦?_
   refine qa (hK43 _ _ (wr1 hret A ?_))
   have hz : hxN (l.drop (q + j)) = 0 := by first | exact hxN_not (by assumption) (by assumption) | exact hxN_end (by omega)
   have hjj : hxN (l.drop q) = j := by omega
   exact ⟨by unfold tiedN; rw [hq, hjj, if_neg (by rw [decide_eq_false (by omega), Bool.false_and]; decide)]; rfl, M.bel⟩
end Go.Proofs.YtclkfideaameoaaGreatDoor.G
 ((delim_as (okR_dc _) hb15)) fun w17 hb16 M a A => ?_
   refine qa (hK14 _ _ (ct A ?_))
   refine wp_exit (hK3 _ _ (wsk fun K18 hK18 => wrl ?_))
   iterate 2 refine sdm A λa A↦?_
   refine sdo (v := .string ((tx (l.take n)))) A (zs (s := l) (p := n) Tryz.underlying9 rfl rfl rfl (by omega)) λa A↦?_
   refine sda A λa A↦?_
   refine qa (hK18 _ _ (wr1 hret A ?_))
   exact ⟨by rw [hn, show tokN (f + 1) (l.drop n) = 0 from tok_stop hb15, Nat.add_zero], M.bel⟩
  ·
   refine gcl A M (ef rfl rfl) ((delim_as (okR_dc _) hb15)) fun w20 hb19 M a A => ?_
   refine qa (hK14 _ _ (cf A ?_))
   refine wp_skip (hK13 _ _ (wsk fun K21 hK21 => wrl ?_))
   iterate 2 refine sdm A λa A↦?_
   refine sdo (v := iV (((n + (dcX (l.drop n)).2 : Nat) : Int))) A (qb rfl rfl (ar_add ((in_i64 (by omega) (by omega)).trans (by omega)))) λa A↦?_
   refine sda A λa A↦?_
   refine qa (hK21 _ _ (wsk fun K22 hK22 => wrl (sdm A λa A↦?_)))
   rcases tf (((((dcX (l.drop n)).1 : Nat) : Int) == 92)) with hb23 | hb23
   ·
    have hb23' := eq_of_beq hb23
    refine sdc A ze hb23 λa A↦?_
    refine qa (hK22 _ _ (ct A ?_))
    refine wrl ?_
    iterate 3 refine sdm A λa A↦?_
    refine sdo (v := .string ((tx (l.drop (n + (dcX (l.drop n)).2))))) A (qs (s := l) (p := n + (dcX (l.drop n)).2) Tryz.underlying9 rfl rfl rfl (by omega)) λa A↦?_
    have ht25 := tiedN_le (l.drop (n + (dcX (l.drop n)).2))
    rw [List.length_drop] at ht25
    refine gcl A M (ef rfl rfl) (jc (l := l.drop (n + (dcX (l.drop n)).2)) (hT.below M.bel) (by rw [List.length_drop]; omega)) fun w26 hb24 M a A => ?_
    refine sdo (v := iV (((n + (dcX (l.drop n)).2 + tiedN (l.drop (n + (dcX (l.drop n)).2)) : Nat) : Int))) A (qb rfl rfl (ar_add ((in_i64 (by omega) (by omega)).trans (by omega)))) λa A↦?_
    refine sda A λa A↦?_
    refine qa ?_
    have e7 := tok_go (f := f) hne hb15 (if_pos (eq_of_beq hb23))
    simp only [List.drop_drop] at e7
    refine hK5 _ _ _ (by omega) ⟨n + (dcX (l.drop n)).2 + tiedN (l.drop (n + (dcX (l.drop n)).2)), f, rfl, ⟨by omega, by omega, by rw [hn, e7, Nat.add_assoc n (dcX (l.drop n)).2 _]; exact (Nat.add_assoc _ _ _).symm⟩, A.keep _ ⟨rfl, rfl, rfl, trivial⟩, M⟩
   ·
    have hb23' := ne_of_beq_false hb23
    refine sdc A ze hb23 λa A↦?_
    refine qa (hK22 _ _ (cf A ?_))
    refine wp_skip ?_
    refine hK5 _ _ _ (by omega) ⟨n + (dcX (l.drop n)).2, f, rfl, ⟨by omega, by omega, by rw [hn, tok_go hne hb15 (if_neg (ne_of_beq_false hb23)), List.drop_drop, Nat.add_assoc]⟩, A.keep _ ⟨rfl, rfl, rfl, trivial⟩, M⟩
 ·
  have hb9' := of_decide_eq_false hb9
  refine sdc A qw hb9 λa A↦?_
  refine qa (hK8 _ _ (cf A ?_))
  refine wp_exit (hK3 _ _ (wsk fun K27 hK27 => wrl ?_))
  iterate 2 refine sdm A λa A↦?_
  refine sdo (v := .string ((tx (l.take n)))) A (zs (s := l) (p := n) Tryz.underlying9 rfl rfl rfl (by omega)) λa A↦?_
  refine sda A λa A↦?_
  refine qa (hK27 _ _ (wr1 hret A ?_))
  exact ⟨by rw [hn, show tokN (f + 1) (l.drop n) = 0 from (by rw [List.drop_eq_nil_of_le (by omega)]; exact tok_end _), Nat.add_zero], M.bel⟩
end Go.Proofs.YtclkfideaameoaaGreatDoor.G
neg (of_decide_eq_false hb5), if_neg (of_decide_eq_false hb8), if_pos (of_decide_eq_true hb11)]; rfl, M.bel⟩
   ·
    have hb11' := of_decide_eq_false hb11
    refine sdo (v := bV false) A (qb rfl rfl (fun w => (qe (a := l) (b := [98, 97, 99, 107, 115, 112, 97, 99, 101]) Tryz.underlying9 w).trans (by rw [hb11] <;> rfl))) λa A↦?_
    refine sda A λa A↦?_
    refine qa (hK10 _ _ (cf A ?_))
    refine wsk fun K13 hK13 => wrl ?_
    rcases tf (decide (l = [116, 97, 98])) with hb14 | hb14
    ·
     have hb14' := of_decide_eq_true hb14
     refine sdo (v := bV true) A (qb rfl rfl (fun w => (qe (a := l) (b := [116, 97, 98]) Tryz.underlying9 w).trans (by rw [hb14] <;> rfl))) λa A↦?_
     refine sda A λa A↦?_
     refine qa (hK13 _ _ (ct A ?_))
     refine wsk fun K15 hK15 => wrl ?_
     iterate 2 refine sda A λa A↦?_
     refine qa (hK15 _ _ (wp_ret (hret _ _ (en2 A rfl (qf rfl) (qf rfl) ?_))))
     exact ⟨by unfold nmdX; rw [if_neg (of_decide_eq_false hb5), if_neg (of_decide_eq_false hb8), if_neg (of_decide_eq_false hb11), if_pos (of_decide_eq_true hb14)]; rfl, M.bel⟩
    ·
     have hb14' := of_decide_eq_false hb14
     refine sdo (v := bV false) A (qb rfl rfl (fun w => (qe (a := l) (b := [116, 97, 98]) Tryz.underlying9 w).trans (by rw [hb14] <;> rfl))) λa A↦?_
     refine sda A λa A↦?_
     refine qa (hK13 _ _ (cf A ?_))
     refine wsk fun K16 hK16 => wsk fun K17 hK17 => wrl ?_
     rcases tf (decide (l = [108, 105, 110, 101, 102, 101, 101, 100])) with hb18 | hb18
     ·
      have hb18' := of_decide_eq_true hb18
      refine sdo (v := bV true) A (qb rfl rfl (fun w => (qe (a := l) (b := [108, 105, 110, 101, 102, 101, 101, 100]) Tryz.underlying9 w).trans (by rw [hb18] <;> rfl))) λa A↦?_
      refine sda A λa A↦?_
      refine qa (hK17 _ _ (ct A ?_))
      refine wp_skip (hK16 _ _ (ct A ?_))
      refine wsk fun K19 hK19 => wrl ?_
      iterate 2 refine sda A λa A↦?_
      refine qa (hK19 _ _ (wp_ret (hret _ _ (en2 A rfl (qf rfl) (qf rfl) ?_))))
      exact ⟨by unfold nmdX; rw [if_neg (of_decide_eq_false hb5), if_neg (of_decide_eq_false hb8), if_neg (of_decide_eq_false hb11), if_neg (of_decide_eq_false hb14), if_pos (of_decide_eq_true hb18)]; rfl, M.bel⟩
     ·
      have hb18' := of_decide_eq_false hb18
      refine sdo (v := bV false) A (qb rfl rfl (fun w => (qe (a := l) (b := [108, 105, 110, 101, 102, 101, 101, 100]) Tryz.underlying9 w).trans (by rw [hb18] <;> rfl))) λa A↦?_
      refine sda A λa A↦?_
      refine qa (hK17 _ _ (cf A ?_))
      refine wrl ?_
      rcases tf (decide (l = [110, 101, 119, 108, 105, 110, 101])) with hb20 | hb20
      ·
       have hb20' := of_decide_eq_true hb20
       refine sdo (v := bV true) A (qb rfl rfl (fun w => (qe (a := l) (b := [110, 101, 119, 108, 105, 110, 101]) Tryz.underlying9 w).trans (by rw [hb20] <;> rfl))) λa A↦?_
       refine sda A λa A↦?_
       refine qa (hK16 _ _ (ct A ?_))
       refine wsk fun K21 hK21 => wrl ?_
       iterate 2 refine sda A λa A↦?_
       refine qa (hK21 _ _ (wp_ret (hret _ _ (en2 A rfl (qf rfl) (qf rfl) ?_))))
       exact ⟨by unfold nmdX; rw [if_neg (of_decide_eq_false hb5), if_neg (of_decide_eq_false hb8), if_neg (of_decide_eq_false hb11), if_neg (of_decide_eq_false hb14), if_neg (of_decide_eq_false hb18), if_pos (of_decide_eq_true hb20)]; rfl, M.bel⟩
      ·
       have hb20' := of_decide_eq_false hb20
       refine sdo (v := bV false) A (qb rfl rfl (fun w => (qe (a := l) (b := [110, 101, 119, 108, 105, 110, 101]) Tryz.underlying9 w).trans (by rw [hb20] <;> rfl))) λa A↦?_
       refine sda A λa A↦?_
       refine qa (hK16 _ _ (cf A ?_))
       refine wsk fun K22 hK22 => wrl ?_
       rcases tf (decide (l = [118, 116, 97, 98])) with hb23 | hb23
       ·
        have hb23' := of_decide_eq_true hb23
        refine sdo (v := bV true) A (qb rfl rfl (fun w => (qe (a := l) (b := [118, 116, 97, 98]) Tryz.underlying9 w).trans (by rw [hb23] <;> rfl))) λa A↦?_
        refine sda A λa A↦?_
        refine qa (hK22 _ _ (ct A ?_))
        refine wsk fun K24 hK24 => wrl ?_
        iterate 2 refine sda A λa A↦?_
        refine qa (hK24 _ _ (wp_ret (hret _ _ (en2 A rfl (qf rfl) (qf rfl) ?_))))
        exact ⟨by unfold nmdX; rw [if_neg (of_decide_eq_false hb5), if_neg (of_decide_eq_false hb8), if_neg (of_decide_eq_false hb11), if_neg (of_decide_eq_false hb14), if_neg (of_decide_eq_false hb18), if_neg (of_decide_eq_false hb20), if_pos (of_decide_eq_true hb23)]; rfl, M.bel⟩
       ·
        have hb23' := of_decide_eq_false hb23
        refine sdo (v := bV false) A (qb rfl rfl (fun w => (qe (a := l) (b := [118, 116, 97, 98]) Tryz.underlying9 w).trans (by rw [hb23] <;> rfl))) λa A↦?_
        refine sda A λa A↦?_
        refine qa (hK22 _ _ (cf A ?_))
        refine wsk fun K25 hK25 => wrl ?_
        rcases tf (decide (l = [112, 97, 103, 101])) with hb26 | hb26
        ·
         have hb26' := of_decide_eq_true hb26
         refine sdo (v := bV true) A (qb rfl rfl (fun w => (qe (a := l) (b := [112, 97, 103, 101]) Tryz.underlying9 w).trans (by rw [hb26] <;> rfl))) λa A↦?_
         refine sda A λa A↦?_
         refine qa (hK25 _ _ (ct A ?_))
         refine wsk fun K27 hK27 => wrl ?_
         iterate 2 refine sda A λa A↦?_
         refine qa (hK27 _ _ (wp_ret (hret _ _ (en2 A rfl (qf rfl) (qf rfl) ?_))))
         exact ⟨by unfold nmdX; rw [if_neg (of_decide_eq_false hb5), if_neg (of_decide_eq_false hb8), if_neg (of_decide_eq_false hb11), if_neg (of_decide_eq_false hb14), if_neg (of_decide_eq_false hb18), if_neg (of_decide_eq_false hb20), if_neg (of_decide_eq_false hb23), if_pos (of_decide_eq_true hb26)]; rfl, M.bel⟩
        ·
         have hb26' := of_decide_eq_false hb26
         refine sdo (v := bV false) A (qb rfl rfl (fun w => (qe (a := l) (b := [112, 97, 103, 101]) Tryz.underlying9 w).trans (by rw [hb26] <;> rfl))) λa A↦?_
         refine sda A λa A↦?_
         refine qa (hK25 _ _ (cf A ?_))
         refine wsk fun K28 hK28 => wrl ?_
         rcases tf (decide (l = [114, 101, 116, 117, 114, 110])) with hb29 | hb29
         ·
          have hb29' := of_decide_eq_true hb29
          refine sdo (v := bV true) A (qb rfl rfl (fun w => (qe (a := l) (b := [114, 101, 116, 117, 114, 110]) Tryz.underlying9 w).trans (by rw [hb29] <;> rfl))) λa A↦?_
          refine sda A λa A↦?_
          refine qa (hK28 _ _ (ct A ?_))
          refine wsk fun K30 hK30 => wrl ?_
          iterate 2 refine sda A λa A↦?_
          refine qa (hK30 _ _ (wp_ret (hret _ _ (en2 A rfl (qf rfl) (qf rfl) ?_))))
          exact ⟨by unfold nmdX; rw [if_neg (of_decide_eq_false hb5), if_neg (of_decide_eq_false hb8), if_neg (of_decide_eq_false hb11), if_neg (of_decide_eq_false hb14), if_neg (of_decide_eq_false hb18), if_neg (of_decide_eq_false hb20), if_neg (of_decide_eq_false hb23), if_neg (of_decide_eq_false hb26), if_pos (of_decide_eq_true hb29)]; rfl, M.bel⟩
         ·
          have hb29' := of_decide_eq_false hb29
          refine sdo (v := bV false) A (qb rfl rfl (fun w => (qe (a := l) (b := [114, 101, 116, 117, 114, 110]) Tryz.underlying9 w).trans (by rw [hb29] <;> rfl))) λa A↦?_
          refine sda A λa A↦?_
          refine qa (hK28 _ _ (cf A ?_))
          refine wsk fun K31 hK31 => wrl ?_
          rcases tf (decide (l = [101, 115, 99])) with hb32 | hb32
          ·
           have hb32' := of_decide_eq_true hb32
           refine sdo (v := bV true) A (qb rfl rfl (fun w => (qe (a := l) (b := [101, 115, 99]) Tryz.underlying9 w).trans (by rw [hb32] <;> rfl))) λa A↦?_
           refine sda A λa A↦?_
           refine qa (hK31 _ _ (ct A ?_))
           refine wsk fun K33 hK33 => wrl ?_
           iterate 2 refine sda A λa A↦?_
           refine qa (hK33 _ _ (wp_ret (hret _ _ (en2 A rfl (qf rfl) (qf rfl) ?_))))
           exact ⟨by unfold nmdX; rw [if_neg (of_decide_eq_false hb5), if_neg (of_decide_eq_false hb8), if_neg (of_decide_eq_false hb11), if_neg (of_decide_eq_false hb14), if_neg (of_decide_eq_false hb18), if_neg (of_decide_eq_false hb20), if_neg (of_decide_eq_false hb23), if_neg (of_decide_eq_false hb26), if_neg (of_decide_eq_false hb29), if_pos (of_decide_eq_true hb32)]; rfl, M.bel⟩
          ·
           have hb32' := of_decide_eq_false hb32
           refine sdo (v := bV false) A (qb rfl rfl (fun w => (qe (a := l) (b := [101, 115, 99]) Tryz.underlying9 w).trans (by rw [hb32] <;> rfl))) λa A↦?_
           refine sda A λa A↦?_
           refine qa (hK31 _ _ (cf A ?_))
           refine wsk fun K34 hK34 => wrl ?_
           rcases tf (decide (l = [115, 112, 97, 99, 101])) with hb35 | hb35
           ·
            have hb35' := of_decide_eq_true hb35
            refine sdo (v := bV true) A (qb rfl rfl (fun w => (qe (a := l) (b := [115, 112, 97, 99, 101]) Tryz.underlying9 w).trans (by rw [hb35] <;> rfl))) λa A↦?_
            refine sda A λa A↦?_
            refine qa (hK34 _ _ (ct A ?_))
            refine wsk fun K36 hK36 => wrl ?_
            iterate 2 refine sda A λa A↦?_
            refine qa (hK36 _ _ (wp_ret (hret _ _ (en2 A rfl (qf rfl) (qf rfl) ?_))))
            exact ⟨by unfold nmdX; rw [if_neg (of_decide_eq_false hb5), if_neg (of_decide_eq_false hb8), if_neg (of_decide_eq_false hb11), if_neg (of_decide_eq_false hb14), if_neg (of_decide_eq_false hb18), if_neg (of_decide_eq_false hb20), if_neg (of_decide_eq_false hb23), if_neg (of_decide_eq_false hb26), if_neg (of_decide_eq_false hb29), if_neg (of_decide_eq_false hb32), if_pos (of_decide_eq_true hb35)]; rfl, M.bel⟩
           ·
            have hb35' := of_decide_eq_false hb35
            refine sdo (v := bV false) A (qb rfl rfl (fun w => (qe (a := l) (b := [115, 112, 97, 99, 101]) Tryz.underlying9 w).trans (by rw [hb35] <;> rfl))) λa A↦?_
            refine sda A λa A↦?_
            refine qa (hK34 _ _ (cf A ?_))
            refine wsk fun K37 hK37 => wrl ?_
            rcases tf (decide (l = [100, 101, 108, 101, 116, 101])) with hb38 | hb38
            ·
             have hb38' := of_decide_eq_true hb38
             refine sdo (v := bV true) A (qb rfl rfl (fun w => (qe (a := l) (b := [100, 101, 108, 101, 116, 101]) Tryz.underlying9 w).trans (by rw [hb38] <;> rfl))) λa A↦?_
             refine sda A λa A↦?_
             refine qa (hK37 _ _ (ct A ?_))
             refine wsk fun K39 hK39 => wrl ?_
             iterate 2 refine sda A λa A↦?_
             refine qa (hK39 _ _ (wp_ret (hret _ _ (en2 A rfl (qf rfl) (qf rfl) ?_))))
             exact ⟨by unfold nmdX; rw [if_neg (of_decide_eq_false hb5), if_neg (of_decide_eq_false hb8), if_neg (of_decide_eq_false hb11), if_neg (of_decide_eq_false hb14), if_neg (of_decide_eq_false hb18), if_neg (of_decide_eq_false hb20), if_neg (of_decide_eq_false hb23), if_neg (of_decide_eq_false hb26), if_neg (of_decide_eq_false hb29), if_neg (of_decide_eq_false hb32), if_neg (of_decide_eq_false hb35), if_pos (of_decide_eq_true hb38)]; rfl, M.bel⟩
            ·
             have hb38' := of_decide_eq_false hb38
             refine sdo (v := bV false) A (qb rfl rfl (fun w => (qe (a := l) (b := [100, 101, 108, 101, 116, 101]) Tryz.underlying9 w).trans (by rw [hb38] <;> rfl))) λa A↦?_
             refine sda A λa A↦?_
             refine qa (hK37 _ _ (cf A ?_))
             refine wp_skip (hK2 _ _ (wsk fun K40 hK40 => wrl ?_))
             iterate 2 refine sda A λa A↦?_
             refine qa (hK40 _ _ (wp_ret (hret _ _ (en2 A rfl (qf rfl) (qf rfl) ?_))))
             exact ⟨by unfold nmdX; rw [if_neg (of_decide_eq_false hb5), if_neg (of_decide_eq_false hb8), if_neg (of_decide_eq_false hb11), if_neg (of_decide_eq_false hb14), if_neg (of_decide_eq_false hb18), if_neg (of_decide_eq_false hb20), if_neg (of_decide_eq_false hb23), if_neg (of_decide_eq_false hb26), if_neg (of_decide_eq_false hb29), if_neg (of_decide_eq_false hb32), if_neg (of_decide_eq_false hb35), if_neg (of_decide_eq_false hb38)]; rfl, M.bel⟩
theorem jr {w0 w : World} {g p : Nat} {lg : Bool} {L : List UInt8} {T : List Ck} (hT : Tb w0) (hp : p ≤ L.length) (hl : L.length ≤ 1000000000) (hd0 : dotB (L.drop p) = true) (hM0 : Mg w0 w (.obj g (rC L p lg) :: T)) : Calls Tryz.prog 55 #[pA g 0] w fun e w' => e = .returned (bV true) ∧ Mg w0 w' (.obj g (rC L (p + 1) lg) :: T) := by
 have hd : decide ((L.drop p).take (tokN ((L.drop p).length + 1) (L.drop p)) = [46]) = true := hd0
 have hpf := dot_pre (of_decide_eq_true hd)
 have M : Mg w0 w (.obj g (rC L p lg) :: T) := hM0
 refine qr (l := [(0, pA g 0)]) Tryz.func55 rfl Tryz.ntmps55 rfl rfl ?_
 intro Q hret hnorm hP a A
 refine wsk fun K1 hK1 => wrl (sda A λa A↦?_)
 refine qa (hK1 _ _ (wsk fun K2 hK2 => wrl (sdm A λa A↦?_)))
 refine sct A (ef rfl rfl) (qz (p := p) (L := L) (T := (T)) (by omega) M) ?_
 rintro _ w4 ⟨rfl, hM3⟩
 replace M : Mg w0 w4 (.obj g (rC L p lg) :: T) := hM3
 refine ⟨_, rfl, ?_⟩
 intro a A
 refine gcl A M (ef rfl rfl) (token_any (l := L.drop p) (hT.below M.bel) (by rw [List.length_drop]; omega)) fun w6 hb5 M a A => ?_
 refine sdo (v := bV true) A (qb rfl rfl (fun w => (qe (a := (L.drop p).take (tokN ((L.drop p).length + 1) (L.drop p))) (b := [46]) Tryz.underlying9 w).trans (by rw [hd] <;> rfl))) λa A↦?_
 iterate 2 refine sdm A λa A↦?_
 have htl9 : 1 ≤ (L.drop p).length := (List.isPrefixOf_iff_prefix.1 hpf).length_le
 rw [List.length_drop] at htl9
 refine sct A (ef rfl rfl) (take_y (p := p) (L := L) (T := (T)) (by omega) (by omega) hpf M) ?_
 rintro _ w10 ⟨rfl, hM8⟩
 replace M : Mg w0 w10 (.obj g (rC L (p + 1) lg) :: T) := hM8
 refine ⟨_, rfl, ?_⟩
 intro a A
 refine sdk (v := bV true) A λa A↦?_
 refine sda A λa A↦?_
 refine qa (hK2 _ _ (wr1 hret A ?_))
 exact ⟨rfl, M⟩
theorem js {w0 w : World} {g p : Nat} {lg : Bool} {L : List UInt8} {T : List Ck} (hT : Tb w0) (hp : p ≤ L.length) (hl : L.length ≤ 1000000000) (hd0 : dotB (L.drop p) = false) (hM0 : Mg w0 w (.obj g (rC L p lg) :: T)) : Calls Tryz.prog 55 #[pA g 0] w fun e w' => e = .returned (bV false) ∧ Mg w0 w' (.obj g (rC L p lg) :: T) := by
 have hd : decide ((L.drop p).take (tokN ((L.drop p).length + 1) (L.drop p)) = [46]) = false := hd0
 
 have M : Mg w0 w (.obj g (rC L p lg) :: T) := hM0
 refine qr (l := [(0, pA g 0)]) Tryz.func55 rfl Tryz.ntmps55 rfl rfl ?_
 intro Q hret hnorm hP a A
 refine wsk fun K1 hK1 => wrl (sda A λa A↦?_)
 refine qa (hK1 _ _ (wsk fun K2 hK2 => wrl (sdm A λa A↦?_)))
 refine sct A (ef rfl rfl) (qz (p := p) (L := L) (T := (T)) (by omega) M) ?_
 rintro _ w4 ⟨rfl, hM3⟩
 replace M : Mg w0 w4 (.obj g (rC L p lg) :: T) := hM3
 refine ⟨_, rfl, ?_⟩
 intro a A
 refine gcl A M (ef rfl rfl) (token_any (l := L.drop p) (hT.below M.bel) (by rw [List.length_drop]; omega)) fun w6 hb5 M a A => ?_
 refine sdo (v := bV false) A (qb rfl rfl (fun w => (qe (a := (L.drop p).take (tokN ((L.drop p).length + 1) (L.drop p))) (b := [46]) Tryz.underlying9 w).trans (by rw [hd] <;> rfl))) λa A↦?_
 refine sdm A λa A↦?_
 iterate 2 refine qg A rfl rfl rfl λa A↦?_
 refine sdk (v := bV false) A λa A↦?_
 refine sda A λa A↦?_
 refine qa (hK2 _ _ (wr1 hret A ?_))
 exact ⟨rfl, M⟩
end Go.Proofs.YtclkfideaameoaaGreatDoor.G
:= by
 have M : Mg w w ([]) := Mg.start w
 refine qr (l := [(0, iV 5)]) Tryz.func106 rfl Tryz.ntmps106 rfl rfl ?_
 intro Q hret hnorm hP a A
 refine wsk fun K1 hK1 => wrl (sda A λa A↦?_)
 refine qa (hK1 _ _ (wsk fun K2 hK2 => wrl (sdm A λa A↦?_)))
 refine sdo (v := iV 21) A (qb rfl rfl (ar_add rfl)) λa A↦?_
 refine sdo (v := iV 2) A (qb rfl rfl (ar_quo (by decide) (by decide))) λa A↦?_
 refine sda A λa A↦?_
 refine qa (hK2 _ _ (wr1 hret A ?_))
 exact ⟨rfl, M.bel⟩
theorem ju {w : World} : Calls Tryz.prog 106 #[iV 6] w fun e w' => e = .returned (iV 2) ∧ Below w.heap.size w w' := by
 have M : Mg w w ([]) := Mg.start w
 refine qr (l := [(0, iV 6)]) Tryz.func106 rfl Tryz.ntmps106 rfl rfl ?_
 intro Q hret hnorm hP a A
 refine wsk fun K1 hK1 => wrl (sda A λa A↦?_)
 refine qa (hK1 _ _ (wsk fun K2 hK2 => wrl (sdm A λa A↦?_)))
 refine sdo (v := iV 22) A (qb rfl rfl (ar_add rfl)) λa A↦?_
 refine sdo (v := iV 2) A (qb rfl rfl (ar_quo (by decide) (by decide))) λa A↦?_
 refine sda A λa A↦?_
 refine qa (hK2 _ _ (wr1 hret A ?_))
 exact ⟨rfl, M.bel⟩
theorem jv {w : World} : Calls Tryz.prog 106 #[iV 7] w fun e w' => e = .returned (iV 2) ∧ Below w.heap.size w w' := by
 have M : Mg w w ([]) := Mg.start w
 refine qr (l := [(0, iV 7)]) Tryz.func106 rfl Tryz.ntmps106 rfl rfl ?_
 intro Q hret hnorm hP a A
 refine wsk fun K1 hK1 => wrl (sda A λa A↦?_)
 refine qa (hK1 _ _ (wsk fun K2 hK2 => wrl (sdm A λa A↦?_)))
 refine sdo (v := iV 23) A (qb rfl rfl (ar_add rfl)) λa A↦?_
 refine sdo (v := iV 2) A (qb rfl rfl (ar_quo (by decide) (by decide))) λa A↦?_
 refine sda A λa A↦?_
 refine qa (hK2 _ _ (wr1 hret A ?_))
 exact ⟨rfl, M.bel⟩
def s7 : List UInt8 := [10, 13, 194, 133, 226, 128, 168]
theorem zj : s7.length = 7 := rfl
theorem jw {i k : Nat} (h1 : i < k) (h2 : k < 7) : s7.getD i 0 ≠ s7.getD k 0 := by
 have h : ∀ i k : Fin 7, i < k → s7.getD i 0 ≠ s7.getD k 0 := by decide
 exact h ⟨i, by omega⟩ ⟨k, h2⟩ h1
theorem zh {l : List UInt8} {i : Nat} (h : i < l.length) : l[i]? = some (l.getD i 0) := by
 rw [List.getD_eq_getElem?_getD, List.getElem?_eq_getElem h]; rfl
theorem zk {a b : UInt8} (h : ((a.toNat : Nat) : Int) = ((b.toNat : Nat) : Int)) : a = b := UInt8.toNat_inj.1 (by omega)
def atS (B : List UInt8) (k : Nat) : Prop := B.length - 1 ≤ k ∧ k < 7 ∧ ∀ t, t < B.length → s7.getD (k - t) 0 = B.getD (B.length - 1 - t) 0
theorem jx {B : List UInt8} {i : Nat} (hB : 2 ≤ B.length) (h : Lib.indexByte (s7.drop (i + 1)) (B.getD (B.length - 1) 0) = -1) (hn : s7.getD i 0 ≠ B.getD (B.length - 1) 0) (hlt : ∀ k, k < i → ¬ atS B k) : ∀ k, ¬ atS B k := fun k hk => by
 have h0 : s7.getD k 0 = B.getD (B.length - 1) 0 := hk.2.2 0 (by omega)
 have hk7 := hk.2.1
 by_cases h1 : k < i
 ·
  exact hlt k h1 hk
 by_cases h2 : k = i
 ·
  subst h2; exact hn h0
 refine Lib.indexByte_none h (k - (i + 1)) ?_
 rw [List.getElem?_drop, show i + 1 + (k - (i + 1)) = k by omega, zh (by rw [zj]; exact hk7), h0]
theorem jd {B : List UInt8} {i o : Nat} (hB : 2 ≤ B.length) (h : Lib.indexByte (s7.drop (i + 1)) (B.getD (B.length - 1) 0) = ((o : Nat) : Int)) (hn : s7.getD i 0 ≠ B.getD (B.length - 1) 0) (hlt : ∀ k, k < i → ¬ atS B k) : i + o + 1 < 7 ∧ s7.getD (i + o + 1) 0 = B.getD (B.length - 1) 0 ∧ ∀ k, k < i + o + 1 → ¬ atS B k := by
 obtain ⟨h1, h2⟩ := Lib.indexByte_some h
 rw [List.getElem?_drop, show i + 1 + o = i + o + 1 by omega] at h1
 obtain ⟨h3, h4⟩ := List.getElem?_eq_some_iff.1 h1
 rw [zj] at h3
 have h5 := h1
 rw [zh (by rw [zj]; exact h3)] at h5
 refine ⟨h3, Option.some.inj h5, fun k hk hs => ?_⟩
 have h0 : s7.getD k 0 = B.getD (B.length - 1) 0 := hs.2.2 0 (by omega)
 by_cases h6 : k < i
 ·
  exact hlt k h6 hs
 by_cases h7 : k = i
 ·
  subst h7; exact hn h0
 refine h2 (k - (i + 1)) (by omega) ?_
 rw [List.getElem?_drop, show i + 1 + (k - (i + 1)) = k by omega, zh (by rw [zj]; omega), h0]
theorem jj {w : World} {i : Nat} (h1 : 1 ≤ i) (h : i ≤ 7) : Calls Tryz.prog 106 #[iV ((i : Nat) : Int)] w fun e w' => e = .returned (iV 2) ∧ Below w.heap.size w w' := by
 match i, h1, h with
 | 1, _, _ => exact cut_1
 | 2, _, _ => exact cut_2
 | 3, _, _ => exact cut_3
 | 4, _, _ => exact cut_4
 | 5, _, _ => exact cut_5
 | 6, _, _ => exact ju
 | 7, _, _ => exact jv
theorem jk {w : World} {r : Int} {B : List UInt8} (h2 : 2 ≤ B.length) (h4 : B.length ≤ 4) (h0 : 128 ≤ r) (hne : r ≠ 65533) (hv : Lib.validRune r = true) (henc : Utf8.encode r = tx B) : Calls Tryz.prog 71 #[.string (tx s7), .int .i32 r] w fun e w' => ∃ v : Int, e = .returned (iV v) ∧ (0 ≤ v ∧ (∃ k, atS B k) ∨ v < 0 ∧ ∀ k, ¬ atS B k) ∧ Below w.heap.size w w' := by
 have hs7 := zj
 have M : Mg w w ([]) := Mg.start w
 refine qr (l := [(0, .string ((tx s7))), (1, .int .i32 r)]) Tryz.func71 rfl Tryz.ntmps71 rfl rfl ?_
 intro Q hret hnorm hP a A
 refine wsk fun K1 hK1 => wrl (sda A λa A↦?_)
 refine qa (hK1 _ _ (wp_block (wsk fun K2 hK2 => wrl (sdm A λa A↦?_))))
 refine sdo (v := bV true) A (qb rfl rfl (fun w => (qn w).trans (by rw [show (decide (0 ≤ r)) = true from (decide_eq_true (by omega))]))) λa A↦?_
 iterate 2 refine sdm A λa A↦?_
 refine sdo (v := bV false) A (qb rfl rfl (fun w => (qw w).trans (by rw [show (decide (r < 128)) = false from (decide_eq_false (by omega))]))) λa A↦?_
 refine sdk (v := bV false) A λa A↦?_
 refine sda A λa A↦?_
 refine qa (hK2 _ _ (cf A ?_))
 refine wsk fun K3 hK3 => wrl (sdm A λa A↦?_)
 refine sdo (v := bV false) A (qb rfl rfl (fun w => (ze w).trans (by rw [show ((r == 65533)) = false from (beq_eq_false_iff_ne.2 (by omega))]))) λa A↦?_
 refine sda A λa A↦?_
 refine qa (hK3 _ _ (cf A ?_))
 refine wsk fun K4 hK4 => wrl (sdm A λa A↦?_)
 refine gcl A M (ef rfl rfl) (vr_as hv) fun w6 hb5 M a A => ?_
 refine sdo (v := bV false) A (zm rfl zr) λa A↦?_
 refine sda A λa A↦?_
 refine qa (hK4 _ _ (cf A ?_))
 refine zn 1 rfl ?_
 refine wsk fun K7 hK7 => wrl (sdm A λa A↦?_)
 refine sdo (v := .string ((tx B))) A (jh rfl (fun w => (run_convert_int_string w _ _ .i32 r (by kernel_rfl) Tryz.underlying9).trans (by rw [henc]))) λa A↦?_
 refine sda A λa A↦?_
 refine qa (hK7 _ _ (wsk fun K8 hK8 => wrl (sdm A λa A↦?_)))
 refine sdo (v := iV (((B.length : Nat) : Int))) A (zg (s := B) Tryz.underlying9 rfl) λa A↦?_
 refine sdo (v := iV (((B.length - 1 : Nat) : Int))) A (qb rfl rfl (ar_sub ((in_i64 (by omega) (by omega)).trans (by omega)))) λa A↦?_
 refine sda A λa A↦?_
 refine qa (hK8 _ _ (wsk fun K9 hK9 => wrl (sdm A λa A↦?_)))
 refine sda A λa A↦?_
 refine qa (hK9 _ _ (wsk fun K10 hK10 => wrl (sda A λa A↦?_)))
 refine qa (hK10 _ _ (wsk fun K11 hK11 => wp_block (zl (fun m_ a w1 => ∃ (i : Nat) (f : Nat), m_ = 8 - i ∧ (B.length - 1 ≤ i ∧ i ≤ 7 ∧ (∀ k, k < i → ¬ atS B k) ∧ (f = 0 ∨ f = 1 ∧ ∀ k, i ≤ k → k < 7 → s7.getD k 0 ≠ B.getD (B.length - 1) 0)) ∧ Sl a 187 [(0, .string ((tx s7))), (1, .int .i32 r), (7, .string ((tx B))), (8, iV (((B.length - 1 : Nat) : Int))), (9, iV (((i : Nat) : Int))), (10, iV (((f : Nat) : Int))), (17, .int .i32 r), (18, .string ((tx B))), (19, .string ((tx B))), (20, iV (((B.length : Nat) : Int))), (21, iV (((B.length - 1 : Nat) : Int))), (22, iV (((B.length - 1 : Nat) : Int))), (160, bV false), (161, .int .i32 r), (162, bV true), (163, bV true), (164, .int .i32 r), (165, bV false), (166, bV false), (171, bV false), (172, .int .i32 r), (173, bV false), (183, bV false), (184, .int .i32 r), (185, bV true), (186, bV false)] ∧ Mg w w1 ([])) _ ⟨B.length - 1, 0, rfl, ⟨Nat.le_refl _, by omega, fun k hk hs => absurd hs.1 (by omega), .inl rfl⟩, A.keep _ (by repeat' constructor), M⟩ ?_)))
 clear M A
 rintro m_ a w12 ⟨i, f, rfl, hinv14, A, M⟩ K13 hK13
 obtain ⟨hi1, hi2, hi3, hi4⟩ := hinv14
 refine wsk fun K15 hK15 => wsk fun K16 hK16 => wrl ?_
 iterate 2 refine sdm A λa A↦?_
 refine sdo (v := iV (((s7.length : Nat) : Int))) A (zg (s := s7) Tryz.underlying9 rfl) λa A↦?_
 rcases tf (decide (((i : Nat) : Int) < ((s7.length : Nat) : Int))) with hb17 | hb17
 ·
  have hb17' := of_decide_eq_true hb17
  refine sdc A qw hb17 λa A↦?_
  refine qa (hK16 _ _ (ct A ?_))
  refine wp_skip (hK15 _ _ (wp_block (zn 0 rfl ?_)))
  refine wsk fun K18 hK18 => ?_
  have hJ19 : ∀ a w1, (∃ (q : Nat), (B.length - 1 ≤ q ∧ i ≤ q ∧ q < 7 ∧ s7.getD q 0 = B.getD (B.length - 1) 0 ∧ (∀ k, k < q → ¬ atS B k) ∧ f = 0) ∧ Sl a 187 [(0, .string ((tx s7))), (1, .int .i32 r), (7, .string ((tx B))), (8, iV (((B.length - 1 : Nat) : Int))), (9, iV (((q : Nat) : Int))), (10, iV (((f : Nat) : Int))), (17, .int .i32 r), (18, .string ((tx B))), (19, .string ((tx B))), (20, iV (((B.length : Nat) : Int))), (21, iV (((B.length - 1 : Nat) : Int))), (22, iV (((B.length - 1 : Nat) : Int))), (23, iV (((i : Nat) : Int))), (24, .string ((tx s7))), (25, iV (((s7.length : Nat) : Int))), (26, bV true), (160, bV false), (161, .int .i32 r), (162, bV true), (163, bV true), (164, .int .i32 r), (165, bV false), (166, bV false), (171, bV false), (172, .int .i32 r), (173, bV false), (183, bV false), (184, .int .i32 r), (185, bV true), (186, bV false)] ∧ Mg w w1 ([])) → K18 a w1 := by
   clear A M
   rintro a w20 ⟨q, hf21, A, M⟩
   obtain ⟨hq1, hqi, hq2, hq3, hq4, hf0⟩ := hf21
   refine hK18 _ _ (wsk fun K22 hK22 => wsk fun K23 hK23 => wrl (sda A λa A↦?_))
   refine qa (hK23 _ _ (wp_block (zl (fun m_ a w1 => ∃ (j : Nat), m_ = B.length - j ∧ (1 ≤ j ∧ j ≤ B.length ∧ ∀ t, t < j → s7.getD (q - t) 0 = B.getD (B.length - 1 - t) 0) ∧ Sl a 187 [(0, .string ((tx s7))), (1, .int .i32 r), (7, .string ((tx B))), (8, iV (((B.length - 1 : Nat) : Int))), (9, iV (((q : Nat) : Int))), (10, iV (((f : Nat) : Int))), (12, iV (((j : Nat) : Int))), (17, .int .i32 r), (18, .string ((tx B))), (19, .string ((tx B))), (20, iV (((B.length : Nat) : Int))), (21, iV (((B.length - 1 : Nat) : Int))), (22, iV (((B.length - 1 : Nat) : Int))), (23, iV (((i : Nat) : Int))), (24, .string ((tx s7))), (25, iV (((s7.length : Nat) : Int))), (26, bV true), (160, bV false), (161, .int .i32 r), (162, bV true), (163, bV true), (164, .int .i32 r), (165, bV false), (166, bV false), (171, bV false), (172, .int .i32 r), (173, bV false), (183, bV false), (184, .int .i32 r), (185, bV true), (186, bV false)] ∧ Mg w w1 ([])) _ ⟨1, rfl, ⟨Nat.le_refl _, by omega, fun t ht => by rw [show t = 0 by omega]; exact hq3⟩, A.keep _ (by repeat' constructor), M⟩ ?_)))
   clear M A
   rintro m_ a w24 ⟨j, rfl, hinv26, A, M⟩ K25 hK25
   obtain ⟨hj1, hj2, hj3⟩ := hinv26
   refine wsk fun K27 hK27 => wsk fun K28 hK28 => wrl ?_
   iterate 2 refine sdm A λa A↦?_
   refine sdo (v := iV (((B.length : Nat) : Int))) A (zg (s := B) Tryz.underlying9 rfl) λa A↦?_
   rcases tf (decide (((j : Nat) : Int) < ((B.length : Nat) : Int))) with hb29 | hb29
   ·
    have hb29' := of_decide_eq_true hb29
    refine sdc A qw hb29 λa A↦?_
    refine qa (hK28 _ _ (ct A ?_))
    refine wp_skip (hK27 _ _ (wsk fun K30 hK30 => wp_block (wsk fun K31 hK31 => zi (S := fun w1 => Mg w w1 ([])) (by kernel_rfl) ?_)))
    replace M := M.drew
    refine amv A 0 rfl hP (M.sub ns) λa A↦?_
    refine amv A 1 rfl hP (M.sub ns) λa A↦?_
    refine amv A 2 rfl hP (M.sub ns) λa A↦?_
    refine atk (v := iV (((q - j : Nat) : Int))) A 3 rfl hP (M.sub ns) (λ_ M↦qb rfl rfl (ar_sub ((in_i64 (by omega) (by omega)).trans (by omega)))) λa A↦?_
    refine atk (v := .int .u8 ((((s7.getD (q - j) 0).toNat : Nat) : Int))) A 4 rfl hP (M.sub ns) (λ_ M↦zb (s := s7) (i := q - j) (b := s7.getD (q - j) 0) Tryz.underlying9 rfl rfl rfl (zh (by omega))) λa A↦?_
    refine amv A 5 rfl hP (M.sub ns) λa A↦?_
    refine amv A 6 rfl hP (M.sub ns) λa A↦?_
    refine amv A 7 rfl hP (M.sub ns) λa A↦?_
    refine atk (v := iV (((B.length - 1 - j : Nat) : Int))) A 8 rfl hP (M.sub ns) (λ_ M↦qb rfl rfl (ar_sub ((in_i64 (by omega) (by omega)).trans (by omega)))) λa A↦?_
    refine atk (v := .int .u8 ((((B.getD (B.length - 1 - j) 0).toNat : Nat) : Int))) A 9 rfl hP (M.sub ns) (λ_ M↦zb (s := B) (i := B.length - 1 - j) (b := B.getD (B.length - 1 - j) 0) Tryz.underlying9 rfl rfl rfl (zh (by omega))) λa A↦?_
    rcases tf (((((s7.getD (q - j) 0).toNat : Nat) : Int) != (((B.getD (B.length - 1 - j) 0).toNat : Nat) : Int))) with hb32 | hb32
    ·
     have hb32' := bne_iff_ne.1 hb32
     refine atk (v := bV true) A 10 rfl hP (M.sub ns) (λ_ M↦qb rfl rfl (fun w => (za w).trans (by rw [hb32]))) λa A↦?_
     refine qy (by kernel_rfl) ?_
     refine hK31 _ _ (ct A ?_)
     refine wp_goto (And.intro rfl ?_)
     refine wsk fun K33 hK33 => wp_skip (hK33 _ _ (wsk fun K34 hK34 => wrl (sdm A λa A↦?_)))
     refine sdo (v := iV (((f + 1 : Nat) : Int))) A (qb rfl rfl (ar_add ((in_i64 (by omega) (by omega)).trans (by omega)))) λa A↦?_
     refine sda A λa A↦?_
     refine qa (hK34 _ _ (wsk fun K35 hK35 => wrl (sdm A λa A↦?_)))
     refine sdo (v := iV (((q + 1 : Nat) : Int))) A (qb rfl rfl (ar_add ((in_i64 (by omega) (by omega)).trans (by omega)))) λa A↦?_
     refine sda A λa A↦?_
     refine qa (hK35 _ _ (wsk fun K36 hK36 => wrl ?_))
     iterate 3 refine sdm A λa A↦?_
     refine gcl A M (ef rfl rfl) (jj (by omega) (by omega)) fun w38 hb37 M a A => ?_
     refine sdo (v := bV false) A (qb rfl rfl (fun w => (qx w).trans (by rw [show (decide (2 < ((f + 1 : Nat) : Int))) = false from (decide_eq_false (by omega))]))) λa A↦?_
     refine sdk (v := bV false) A λa A↦?_
     refine sdm A λa A↦?_
     iterate 4 refine qg A rfl rfl rfl λa A↦?_
     refine sdk (v := bV false) A λa A↦?_
     iterate 2 refine sdm A λa A↦?_
     iterate 5 refine qg A rfl rfl rfl λa A↦?_
     refine sdk (v := bV false) A λa A↦?_
     refine sdm A λa A↦?_
     iterate 4 refine qg A rfl rfl rfl λa A↦?_
     iterate 2 refine sdk (v := bV false) A λa A↦?_
     refine qa (hK36 _ _ (cf A ?_))
     refine wp_skip ?_
     refine hK13 _ _ _ (by omega) ⟨q + 1, f + 1, rfl, ⟨by omega, by omega, fun k hk hs => by by_cases h9 : k < q; exact hq4 k h9 hs; rw [show k = q by omega] at hs; exact bne_iff_ne.1 hb32 (by rw [hs.2.2 j (by omega)]), .inr ⟨by omega, fun k h8 h9 k9 => jw (i := q) (k := k) (by omega) h9 (hq3.trans k9.symm)⟩⟩, A.keep _ (by repeat' constructor), M⟩
    ·
     have hb32' := bne_eq_false_iff_eq.1 hb32
     refine atk (v := bV false) A 10 rfl hP (M.sub ns) (λ_ M↦qb rfl rfl (fun w => (za w).trans (by rw [hb32]))) λa A↦?_
     refine qy (by kernel_rfl) ?_
     refine hK31 _ _ (cf A ?_)
     refine wp_skip (hK30 _ _ (wrl (sdm A λa A↦?_)))
     refine sdo (v := iV (((j + 1 : Nat) : Int))) A (qb rfl rfl (ar_add ((in_i64 (by omega) (by omega)).trans (by omega)))) λa A↦?_
     refine sda A λa A↦?_
     refine qa ?_
     refine hK25 _ _ _ (by omega) ⟨j + 1, rfl, ⟨by omega, by omega, fun t ht => by by_cases h9 : t < j; exact hj3 t h9; rw [show t = j by omega]; exact zk (by simpa using hb32)⟩, A.keep _ (by repeat' constructor), M⟩
   ·
    have hb29' := of_decide_eq_false hb29
    refine sdc A qw hb29 λa A↦?_
    refine qa (hK28 _ _ (cf A ?_))
    refine wp_exit (hK22 _ _ (wsk fun K39 hK39 => wsk fun K40 hK40 => wrl ?_))
    iterate 2 refine sdm A λa A↦?_
    refine sdo (v := iV (((q - (B.length - 1) : Nat) : Int))) A (qb rfl rfl (ar_sub ((in_i64 (by omega) (by omega)).trans (by omega)))) λa A↦?_
    refine sda A λa A↦?_
    refine qa (hK40 _ _ (wr1 hret A ?_))
    exact ⟨_, rfl, .inl ⟨by omega, q, hq1, hq2, fun t ht => hj3 t (by have h9 := of_decide_eq_false hb29; omega)⟩, M.bel⟩
  refine wsk fun K41 hK41 => zi (S := fun w1 => Mg w w1 ([])) (by kernel_rfl) ?_
  replace M := M.drew
  refine amv A 0 rfl hP (M.sub ns) λa A↦?_
  refine amv A 1 rfl hP (M.sub ns) λa A↦?_
  refine atk (v := .int .u8 ((((s7.getD i 0).toNat : Nat) : Int))) A 2 rfl hP (M.sub ns) (λ_ M↦zb (s := s7) (i := i) (b := s7.getD i 0) Tryz.underlying9 rfl rfl rfl (zh (by omega))) λa A↦?_
  refine amv A 3 rfl hP (M.sub ns) λa A↦?_
  refine amv A 4 rfl hP (M.sub ns) λa A↦?_
  refine atk (v := .int .u8 ((((B.getD (B.length - 1) 0).toNat : Nat) : Int))) A 5 rfl hP (M.sub ns) (λ_ M↦zb (s := B) (i := B.length - 1) (b := B.getD (B.length - 1) 0) Tryz.underlying9 rfl rfl rfl (zh (by omega))) λa A↦?_
  rcases tf (((((s7.getD i 0).toNat : Nat) : Int) != (((B.getD (B.length - 1) 0).toNat : Nat) : Int))) with hb42 | hb42
  ·
   have hb42' := bne_iff_ne.1 hb42
   refine atk (v := bV true) A 6 rfl hP (M.sub ns) (λ_ M↦qb rfl rfl (fun w => (za w).trans (by rw [hb42]))) λa A↦?_
   refine qy (by kernel_rfl) ?_
   refine hK41 _ _ (ct A ?_)
   refine wsk fun K43 hK43 => zi (S := fun w1 => Mg w w1 ([])) (by kernel_rfl) ?_
   replace M := M.drew
   refine amv A 0 rfl hP (M.sub ns) λa A↦?_
   refine amv A 1 rfl hP (M.sub ns) λa A↦?_
   refine atk (v := iV (((i + 1 : Nat) : Int))) A 2 rfl hP (M.sub ns) (λ_ M↦qb rfl rfl (ar_add ((in_i64 (by omega) (by omega)).trans (by omega)))) λa A↦?_
   refine atk (v := .string ((tx (s7.drop (i + 1))))) A 3 rfl hP (M.sub ns) (λ_ M↦qs (s := s7) (p := i + 1) Tryz.underlying9 rfl rfl rfl (by omega)) λa A↦?_
   refine amv A 4 rfl hP (M.sub ns) λa A↦?_
   refine amv A 5 rfl hP (M.sub ns) λa A↦?_
   refine atk (v := .int .u8 ((((B.getD (B.length - 1) 0).toNat : Nat) : Int))) A 6 rfl hP (M.sub ns) (λ_ M↦zb (s := B) (i := B.length - 1) (b := B.getD (B.length - 1) 0) Tryz.underlying9 rfl rfl rfl (zh (by omega))) λa A↦?_
   rcases tf (decide (0 ≤ Lib.indexByte (s7.drop (i + 1)) (B.getD (B.length - 1) 0))) with hb45 | hb45
   ·
    have hb45' := of_decide_eq_true hb45
    obtain ⟨o, ho47⟩ := Int.eq_ofNat_of_zero_le (of_decide_eq_true hb45)
    have hoB := (jd h2 ho47 (fun k9 => bne_iff_ne.1 hb42 (by rw [k9])) hi3).1
    refine zv (by kernel_rfl) (ji A 7 rfl rfl rfl rfl (ef rfl rfl) (ib_as (l := s7.drop (i + 1)) (b := B.getD (B.length - 1) 0) ho47) ?_)
    rintro _ w48 ⟨rfl, hb46⟩
    replace M := M.call hb46
    refine ⟨_, rfl, (M.sub ns), ?_⟩
    intro a A
    refine atk A 8 rfl hP (M.sub ns) (λ_ M↦zd rfl) λa A↦?_
    refine qy (by kernel_rfl) ?_
    refine hK43 _ _ (wsk fun K49 hK49 => wsk fun K50 hK50 => wrl (sdm A λa A↦?_))
    refine sdo (v := bV false) A (qb rfl rfl (fun w => (qw w).trans (by rw [show (decide (((o : Nat) : Int) < 0)) = false from (decide_eq_false (by omega))]))) λa A↦?_
    refine qa (hK50 _ _ (cf A ?_))
    refine wp_skip (hK49 _ _ (wrl ?_))
    iterate 2 refine sdm A λa A↦?_
    refine sdo (v := iV (((o + 1 : Nat) : Int))) A (qb rfl rfl (ar_add ((in_i64 (by omega) (by omega)).trans (by omega)))) λa A↦?_
    refine sdo (v := iV (((i + o + 1 : Nat) : Int))) A (qb rfl rfl (ar_add ((in_i64 (by omega) (by omega)).trans (by omega)))) λa A↦?_
    refine sda A λa A↦?_
    refine qa ?_
    exact hJ19 _ _ ⟨i + o + 1, (by obtain ⟨y1, y2, y3⟩ := jd h2 ho47 (fun k9 => bne_iff_ne.1 hb42 (by rw [k9])) hi3; exact ⟨by omega, by omega, y1, y2, y3, hi4.elim id fun k => absurd y2 (k.2 _ (by omega) y1)⟩), A.keep _ (by repeat' constructor), M⟩
   ·
    have hb45' := of_decide_eq_false hb45
    have ho52 : Lib.indexByte (s7.drop (i + 1)) (B.getD (B.length - 1) 0) = -1 := by have h8 := Lib.indexByte_ge (s7.drop (i + 1)) (B.getD (B.length - 1) 0); have h9 := of_decide_eq_false hb45; omega
    refine zv (by kernel_rfl) (ji A 7 rfl rfl rfl rfl (ef rfl rfl) (ib_as (l := s7.drop (i + 1)) (b := B.getD (B.length - 1) 0) ho52) ?_)
    rintro _ w53 ⟨rfl, hb51⟩
    replace M := M.call hb51
    refine ⟨_, rfl, (M.sub ns), ?_⟩
    intro a A
    refine atk A 8 rfl hP (M.sub ns) (λ_ M↦zd rfl) λa A↦?_
    refine qy (by kernel_rfl) ?_
    refine hK43 _ _ (wsk fun K54 hK54 => wsk fun K55 hK55 => wrl (sdm A λa A↦?_))
    refine sdo (v := bV true) A dbK λa A↦?_
    refine qa (hK55 _ _ (ct A ?_))
    refine wsk fun K56 hK56 => wrl (sda A λa A↦?_)
    refine qa (hK56 _ _ (wr1 hret A ?_))
    exact ⟨_, rfl, .inr ⟨by decide, jx h2 ho52 (fun k9 => bne_iff_ne.1 hb42 (by rw [k9])) hi3⟩, M.bel⟩
  ·
   have hb42' := bne_eq_false_iff_eq.1 hb42
   refine atk (v := bV false) A 6 rfl hP (M.sub ns) (λ_ M↦qb rfl rfl (fun w => (za w).trans (by rw [hb42]))) λa A↦?_
   refine qy (by kernel_rfl) ?_
   refine hK41 _ _ (cf A ?_)
   refine wp_skip ?_
   exact hJ19 _ _ ⟨i, (by have y2 : s7.getD i 0 = B.getD (B.length - 1) 0 := zk (by simpa using hb42); exact ⟨hi1, Nat.le_refl _, by omega, y2, hi3, hi4.elim id fun k => absurd y2 (k.2 _ (Nat.le_refl _) (by omega))⟩), A.keep _ (by repeat' constructor), M⟩
 ·
  have hb17' := of_decide_eq_false hb17
  refine sdc A qw hb17 λa A↦?_
  refine qa (hK16 _ _ (cf A ?_))
  refine wp_exit (hK11 _ _ (wsk fun K57 hK57 => wsk fun K58 hK58 => wrl (sda A λa A↦?_)))
  refine qa (hK58 _ _ (wr1 hret A ?_))
  exact ⟨_, rfl, .inr ⟨by decide, fun k hk => hi3 k (by have h8 := hk.2.1; have h9 := of_decide_eq_false hb17; omega) hk⟩, M.bel⟩
theorem zp {w : World} {r : Int} {B : List UInt8} (h2 : 2 ≤ B.length) (h4 : B.length ≤ 4) (h0 : 128 ≤ r) (hne : r ≠ 65533) (hv : Lib.validRune r = true) (henc : Utf8.encode r = tx B) (hx : (∃ k, atS B k) ↔ ln7 r = true) : Calls Tryz.prog 71 #[.string (tx s7), .int .i32 r] w fun e w' => ∃ v : Int, e = .returned (iV v) ∧ decide (0 ≤ v) = ln7 r ∧ Below w.heap.size w w' := (jk h2 h4 h0 hne hv henc).mono fun e w' ⟨v, h1, h3, h5⟩ => by
 refine ⟨v, h1, ?_, h5⟩
 rcases h3 with ⟨h6, h7⟩ | ⟨h6, h7⟩
 ·
  rw [hx.1 h7]; exact decide_eq_true h6
 ·
  rw [show ln7 r = false from Bool.eq_false_iff.2 fun k => (hx.2 k).elim h7]; exact decide_eq_false (by omega)
theorem je {k : Nat} (h : k < 7) : k = 0 ∨ k = 1 ∨ k = 2 ∨ k = 3 ∨ k = 4 ∨ k = 5 ∨ k = 6 := by omega
theorem xe {r : Int} {b0 b1 : UInt8} (h0 : 128 ≤ r) (h1 : r ≤ 2047) (e0 : ((b0.toNat : Nat) : Int) = 192 + r / 64) (e1 : ((b1.toNat : Nat) : Int) = 128 + r % 64) : (∃ k, atS [b0, b1] k) ↔ ln7 r = true := by
 constructor
 ·
  rintro ⟨k, q1, q2, q3⟩
  have z1 : s7.getD k 0 = b1 := q3 0 (by simp)
  have z0 : s7.getD (k - 1) 0 = b0 := q3 1 (by simp)
  subst z1 z0
  apply decide_eq_true
  rcases je q2 with rfl | rfl | rfl | rfl | rfl | rfl | rfl <;> simp [s7] at e0 e1 <;> omega
 ·
  intro h
  have hr : r = 133 := by have := of_decide_eq_true h; omega
  subst hr
  obtain rfl : b0 = 194 := zk (e0.trans (by decide))
  obtain rfl : b1 = 133 := zk (e1.trans (by decide))
  exact ⟨3, by decide, by decide, by decide⟩
theorem xf {r : Int} {b0 b1 b2 : UInt8} (h0 : 2048 ≤ r) (h1 : r ≤ 65535) (e0 : ((b0.toNat : Nat) : Int) = 224 + r / 4096) (e1 : ((b1.toNat : Nat) : Int) = 128 + r / 64 % 64) (e2 : ((b2.toNat : Nat) : Int) = 128 + r % 64) : (∃ k, atS [b0, b1, b2] k) ↔ ln7 r = true := by
 constructor
 ·
  rintro ⟨k, q1, q2, q3⟩
  have z2 : s7.getD k 0 = b2 := q3 0 (by simp)
  have z1 : s7.getD (k - 1) 0 = b1 := q3 1 (by simp)
  have z0 : s7.getD (k - 2) 0 = b0 := q3 2 (by simp)
  subst z2 z1 z0
  apply decide_eq_true
  rcases je q2 with rfl | rfl | rfl | rfl | rfl | rfl | rfl <;> simp [s7] at e0 e1 e2 <;> omega
 ·
  intro h
  have hr : r = 8232 := by have := of_decide_eq_true h; omega
  subst hr
  obtain rfl : b0 = 226 := zk (e0.trans (by decide))
  obtain rfl : b1 = 128 := zk (e1.trans (by decide))
  obtain rfl : b2 = 168 := zk (e2.trans (by decide))
  exact ⟨6, by decide, by decide, by decide⟩
theorem xg {r : Int} {b0 b1 b2 b3 : UInt8} (h0 : 65536 ≤ r) (h1 : r ≤ 1114111) (e0 : ((b0.toNat : Nat) : Int) = 240 + r / 262144) : (∃ k, atS [b0, b1, b2, b3] k) ↔ ln7 r = true := by
 constructor
 ·
  rintro ⟨k, q1, q2, q3⟩
  have z0 : s7.getD (k - 3) 0 = b0 := q3 3 (by simp)
  subst z0
  exfalso
  rcases je q2 with rfl | rfl | rfl | rfl | rfl | rfl | rfl <;> simp [s7] at e0 <;> omega
 ·
  intro h
  have := of_decide_eq_true h
  omega
theorem jo {w : World} {r : Int} (h : C.OkR r) : Calls Tryz.prog 71 #[.string (tx [10, 13, 194, 133, 226, 128, 168]), .int .i32 r] w fun e w' => ∃ v : Int, e = .returned (iV v) ∧ decide (0 ≤ v) = ln7 r ∧ Below w.heap.size w w' := by
 by_cases h128 : r < 128
 ·
  have h0 : 0 ≤ r := by unfold C.OkR at h; omega
  refine (Tryz.strings_IndexRune_ascii (tx [10, 13, 194, 133, 226, 128, 168]) r w h0 h128).mono ?_
  rintro e w' ⟨rfl, rfl⟩
  have := C.ix7 r.toNat (by omega)
  rw [Int.toNat_of_nonneg h0] at this
  exact ⟨_, rfl, this, Below.refl _ _⟩
 ·
  by_cases he : r = 65533
  ·
   subst he
   refine (C.irune_err7 w).mono ?_
   rintro e w' ⟨rfl, hb⟩
   exact ⟨_, rfl, by decide, hb⟩
  ·
   have hv := h.valid
   unfold C.OkR at h
   by_cases h2 : r ≤ 2047
   ·
    exact zp (by simp) (by simp) (by omega) he hv (enc_tx hv (by unfold Lib.encodeRune; rw [Lib.encodeRuneZ_two (by omega) h2]; rfl)) (xe (by omega) h2 (byte_of (x := 192 + r / 64) (by omega) (by omega)) (byte_of (x := 128 + r % 64) (by omega) (by omega)))
   ·
    by_cases h3 : r ≤ 65535
    ·
     exact zp (by simp) (by simp) (by omega) he hv (enc_tx hv (by unfold Lib.encodeRune; rw [Lib.encodeRuneZ_three (by omega)]; rfl)) (xf (by omega) h3 (byte_of (x := 224 + r / 4096) (by omega) (by omega)) (byte_of (x := 128 + r / 64 % 64) (by omega) (by omega)) (byte_of (x := 128 + r % 64) (by omega) (by omega)))
    ·
     exact zp (by simp) (by simp) (by omega) he hv (enc_tx hv (by unfold Lib.encodeRune; rw [Lib.encodeRuneZ_four (by omega) (by omega)]; rfl)) (xg (by omega) (by omega) (byte_of (x := 240 + r / 262144) (by omega) (by omega)))
def lnX (l : List UInt8) : Nat := C.lnN l.length l
theorem zu {w : World} {l : List UInt8} (hl : l.length < 4294967281) : Calls Tryz.prog 51 #[.string (tx l), .string (tx [10, 13, 194, 133, 226, 128, 168])] w fun e w' => (∃ v : Int, e = .returned (iV v) ∧ (v = ((lnX l : Nat) : Int) ∧ lnX l < l.length ∨ v = -1 ∧ lnX l = l.length)) ∧ Below w.heap.size w w' := by
 have := C.iany7 (tx l) (fun r w h => jo h) w (by rw [jf]; exact hl)
 rwa [jf, xd] at this
theorem xh {w : World} {l : List UInt8} (hl : l.length < 4294967281) (h : decide (lnX l < l.length) = true) : Calls Tryz.prog 51 #[.string (tx l), .string (tx [10, 13, 194, 133, 226, 128, 168])] w fun e w' => e = .returned (iV ((lnX l : Nat) : Int)) ∧ Below w.heap.size w w' := (zu hl).mono fun e w' h1 => by
 obtain ⟨⟨v, rfl, h2 | h2⟩, hb⟩ := h1
 ·
  exact ⟨by rw [h2.1], hb⟩
 ·
  exact absurd (of_decide_eq_true h) (by omega)
theorem xi {w : World} {l : List UInt8} (hl : l.length < 4294967281) (h : decide (lnX l < l.length) = false) : Calls Tryz.prog 51 #[.string (tx l), .string (tx [10, 13, 194, 133, 226, 128, 168])] w fun e w' => e = .returned (iV (-1)) ∧ lnX l = l.length ∧ Below w.heap.size w w' := (zu hl).mono fun e w' h1 => by
 obtain ⟨⟨v, rfl, h2 | h2⟩, hb⟩ := h1
 ·
  exact absurd h2.2 (of_decide_eq_false h)
 ·
  exact ⟨by rw [h2.1], h2.2, hb⟩
end Go.Proofs.YtclkfideaameoaaGreatDoor.G
namespace Go.Proofs.YtclkfideaameoaaGreatDoor.G
open Go.RowKit
theorem jm {W : World} {s : ByteArray} {z : Int} (hE : Env W) (hs : s.size ≤ 140737488351232) (h0 : 0 ≤ z) (h1 : z ≤ 255) : Calls Tryz.prog 5 #[.string s, .int .u8 z] W fun e w' => e = .returned (bV true) ∧ Below W.heap.size W w' := by
 obtain ⟨k, rfl⟩ := Int.eq_ofNat_of_zero_le h0
 have h := blanks_any (L := s.data.toList) (k := k) hE (by rw [Array.length_toList]; exact Nat.le_trans hs (by decide)) (by omega)
 have e : tx s.data.toList = s := xj s
 rwa [e] at h
end Go.Proofs.YtclkfideaameoaaGreatDoor.G
namespace Go.Proofs.YtclkfideaameoaaGreatDoor.G
open Go.RowKit
set_option maxRecDepth 100000
theorem RdA_is1_3 : Is1 Tryz.prog 3 := ⟨⟨_, Tryz.underlying3, rfl⟩, by kernel_rfl⟩
theorem RdA_is1_9 : Is1 Tryz.prog 9 := ⟨⟨_, Tryz.underlying9, rfl⟩, by kernel_rfl⟩
theorem RdA_fld_50_0 : FieldAt Tryz.prog 50 0 0 := ⟨_, _, Tryz.underlying50, rfl, rfl, by kernel_rfl⟩
theorem RdA_fld_50_1 : FieldAt Tryz.prog 50 1 1 := ⟨_, _, Tryz.underlying50, rfl, rfl, by kernel_rfl⟩
def flt : List PanicEntry := [{ v := .iface 47 (.agg #[]), recovered := false }]
theorem zy {P : Program} {w : World} {l : List (Nat × Value)} {dst : Option Tmp} {ty t : TypeId} {pos : String} {after : Array Edge} {guard : Option (Nat × Bool)} {x : Operand} {v : Value} (ht : P.concrete t = true) (hx : ev l x = some v) : Does P l ⟨dst, .makeInterface t x, ty, pos, after, guard⟩ w (.iface t v) w := fun ρ h => by
 simp [execOp, h x _ hx, run_makeInterface w t v ht]
theorem jn {w : World} : Calls Tryz.prog 23 #[bV true] w fun e w' => e = .returned (.tuple #[]) ∧ Below w.heap.size w w' := by
 have M : Mg w w ([]) := Mg.start w
 refine qr (l := [(0, bV true)]) Tryz.func23 rfl Tryz.ntmps23 rfl rfl ?_
 intro Q hret hnorm hP a A
 refine wsk fun K1 hK1 => wrl (sdm A λa A↦?_)
 refine sdo (v := bV false) A (zm rfl zr) λa A↦?_
 refine qa (hK1 _ _ (cf A ?_))
 refine wp_skip (hnorm _ _ (xk (v := .tuple #[]) A rfl .nil rfl ?_))
 exact ⟨rfl, M.bel⟩
theorem zw {w : World} : Calls Tryz.prog 23 #[bV false] w fun e w' => e = .panicked flt ∧ Below w.heap.size w w' := by
 have M : Mg w w ([]) := Mg.start w
 refine zx (l := [(0, bV false)]) Tryz.func23 rfl Tryz.ntmps23 rfl rfl ?_
 intro Q hret hnorm hP hX a A
 refine wsk fun K1 hK1 => wrl (sdm A λa A↦?_)
 refine sdo (v := bV true) A (zm rfl zr) λa A↦?_
 refine qa (hK1 _ _ (ct A ?_))
 refine wrl (sdo (v := .agg #[]) A (jl rfl (fun w => by kernel_rfl)) λa A↦?_)
 refine sdo (v := .iface 47 (.agg #[])) A (zy (by kernel_rfl) rfl) λa A↦?_
 refine jp (v := .iface 47 (.agg #[])) A rfl (fun ρ h => by simp only [execOp, h (.tmp 5) _ rfl]; rfl) ?_
 exact hX _ _ _ _ _ A ⟨rfl, M.bel⟩
theorem qz {w0 w : World} {g p : Nat} {lg : Bool} {L : List UInt8} {T : List Ck} (hp : p ≤ L.length) (hM0 : Mg w0 w (.obj g (rC L p lg) :: T)) : Calls Tryz.prog 21 #[pA g 0] w fun e w' => e = .returned (.string (tx (L.drop p))) ∧ Mg w0 w' (.obj g (rC L p lg) :: T) := by
 have M : Mg w0 w (.obj g (rC L p lg) :: T) := hM0
 refine qr (l := [(0, pA g 0)]) Tryz.func21 rfl Tryz.ntmps21 rfl rfl ?_
 intro Q hret hnorm hP a A
 refine wsk fun K1 hK1 => wrl (sda A λa A↦?_)
 refine qa (hK1 _ _ (wsk fun K2 hK2 => zi (S := fun w1 => Mg w0 w1 (.obj g (rC L p lg) :: [])) (by kernel_rfl) ?_))
 replace M := M.drew
 refine amv A 0 rfl hP (M.sub (cc ns)) λa A↦?_
 refine atk A 1 rfl hP (M.sub (cc ns)) (λ_ M↦zf rfl) λa A↦?_
 refine atk (v := pA g 0) A 2 rfl hP (M.sub (cc ns)) (λ_ M↦qj RdA_fld_50_0 rfl rfl) λa A↦?_
 refine atk A 3 rfl hP (M.sub (cc ns)) (λ_ M↦zt M RdA_is1_9 rfl 0 rfl rfl) λa A↦?_
 refine amv A 4 rfl hP (M.sub (cc ns)) λa A↦?_
 refine atk A 5 rfl hP (M.sub (cc ns)) (λ_ M↦zf rfl) λa A↦?_
 refine atk (v := pA g 1) A 6 rfl hP (M.sub (cc ns)) (λ_ M↦qj RdA_fld_50_1 rfl rfl) λa A↦?_
 refine atk A 7 rfl hP (M.sub (cc ns)) (λ_ M↦zt M RdA_is1_3 rfl 0 rfl rfl) λa A↦?_
 refine atk (v := .string ((tx (L.drop p)))) A 8 rfl hP (M.sub (cc ns)) (λ_ M↦qs (s := L) (p := p) Tryz.underlying9 rfl rfl rfl (by omega)) λa A↦?_
 refine atk A 9 rfl hP (M.sub (cc ns)) (λ_ M↦zd rfl) λa A↦?_
 refine qy (by kernel_rfl) ?_
 refine hK2 _ _ (wr1 hret A ?_)
 exact ⟨rfl, M⟩
end Go.Proofs.YtclkfideaameoaaGreatDoor.G
∧ Mg w0 w' (.obj g (rC L p lg) :: T) := by
 have M : Mg w0 w (.obj g (rC L p lg) :: T) := hM0
 refine qr (l := [(0, pA g 0), (1, .string ((tx t)))]) Tryz.func32 rfl Tryz.ntmps32 rfl rfl ?_
 intro Q hret hnorm hP a A
 refine wsk fun K1 hK1 => wrl (sda A λa A↦?_)
 refine qa (hK1 _ _ (wsk fun K2 hK2 => wsk fun K3 hK3 => wrl (sdm A λa A↦?_)))
 refine sct A (ef rfl rfl) (qz (p := p) (L := L) (T := (T)) (by omega) M) ?_
 rintro _ w5 ⟨rfl, hM4⟩
 replace M : Mg w0 w5 (.obj g (rC L p lg) :: T) := hM4
 refine ⟨_, rfl, ?_⟩
 intro a A
 refine sdm A λa A↦?_
 refine gcl A M (ef rfl rfl) ((hp_as hh)) fun w7 hb6 M a A => ?_
 refine sdo (v := bV true) A (zm rfl zr) λa A↦?_
 refine qa (hK3 _ _ (ct A ?_))
 refine wsk fun K8 hK8 => wrl (sda A λa A↦?_)
 refine qa (hK8 _ _ (wr1 hret A ?_))
 exact ⟨rfl, M⟩
theorem xa {w0 w : World} {g p : Nat} {lg : Bool} {L : List UInt8} {T : List Ck} (hT : Tb w0) (hp : p ≤ L.length) (hl : L.length ≤ 1000000000) (hne : L.drop p ≠ []) (hM0 : Mg w0 w (.obj g (rC L p lg) :: T)) : Calls Tryz.prog 53 #[pA g 0] w fun e w' => e = .returned (.int .i32 (((dcX (L.drop p)).1 : Nat) : Int)) ∧ Mg w0 w' (.obj g (rC L (p + (dcX (L.drop p)).2) lg) :: T) := by
 obtain ⟨hw1, hw2⟩ := dcX_wide hne
 rw [List.length_drop] at hw2
 have M : Mg w0 w (.obj g (rC L p lg) :: T) := hM0
 refine qr (l := [(0, pA g 0)]) Tryz.func53 rfl Tryz.ntmps53 rfl rfl ?_
 intro Q hret hnorm hP a A
 refine wsk fun K1 hK1 => wrl (sda A λa A↦?_)
 refine qa (hK1 _ _ (wsk fun K2 hK2 => wrl (sdm A λa A↦?_)))
 refine sct A (ef rfl rfl) (qz (p := p) (L := L) (T := (T)) (by omega) M) ?_
 rintro _ w4 ⟨rfl, hM3⟩
 replace M : Mg w0 w4 (.obj g (rC L p lg) :: T) := hM3
 refine ⟨_, rfl, ?_⟩
 intro a A
 refine gcl A M (ef rfl rfl) (dc_any (l := L.drop p) (hT.below M.bel)) fun w6 hb5 M a A => ?_
 refine sdm A λa A↦?_
 iterate 2 refine sdo A (qp (vs := [.int .i32 ((((dcX (L.drop p)).1 : Nat) : Int)), iV ((((dcX (L.drop p)).2 : Nat) : Int))]) rfl rfl) λa A↦?_
 iterate 2 refine sda A λa A↦?_
 refine qa (hK2 _ _ (wsk fun K7 hK7 => wrl (sdm A λa A↦?_)))
 refine sdo (v := bV true) A (qb rfl rfl (fun w => (qx w).trans (by rw [show (decide (0 < (((dcX (L.drop p)).2 : Nat) : Int))) = true from (decide_eq_true (by omega))]))) λa A↦?_
 refine gcl A M (ef rfl rfl) (jn) fun w9 hb8 M a A => ?_
 refine qa (hK7 _ _ (wsk fun K10 hK10 => wrl (sdm A λa A↦?_)))
 refine sdo A (zf rfl) λa A↦?_
 refine sdo (v := pA g 1) A (qj RdB_fld_50_1 rfl rfl) λa A↦?_
 refine sdo A (zt M RdB_is1_3 rfl 0 rfl rfl) λa A↦?_
 refine sdm A λa A↦?_
 refine sdo (v := iV (((p + (dcX (L.drop p)).2 : Nat) : Int))) A (qb rfl rfl (ar_add ((in_i64 (by omega) (by omega)).trans (by omega)))) λa A↦?_
 refine sdo A (zf rfl) λa A↦?_
 refine sdo (v := pA g 1) A (qj RdB_fld_50_1 rfl rfl) λa A↦?_
 refine jz (L' := (.obj g (rC L (p + (dcX (L.drop p)).2) lg) :: T)) A M rfl rfl (jy rfl rfl rfl (by kernel_rfl) M 0 rfl rfl rfl) 0 rfl rfl rfl ?_
 intro w11 M
 refine qa (hK10 _ _ (wsk fun K12 hK12 => wrl (sdm A λa A↦?_)))
 refine sda A λa A↦?_
 refine qa (hK12 _ _ (wr1 hret A ?_))
 exact ⟨rfl, M⟩
theorem jt {w0 w : World} {g p : Nat} {lg : Bool} {L : List UInt8} {T : List Ck} (hT : Tb w0) (hp : p ≤ L.length) (hl : L.length ≤ 1000000000) (hne : L.drop p = []) (hM0 : Mg w0 w (.obj g (rC L p lg) :: T)) : Calls Tryz.prog 53 #[pA g 0] w fun e w' => e = .panicked flt ∧ Mg w0 w' (.obj g (rC L p lg) :: T) := by
 have hw1 : (dcX (L.drop p)).2 = 0 := by rw [hne]; rfl
 have M : Mg w0 w (.obj g (rC L p lg) :: T) := hM0
 refine zx (l := [(0, pA g 0)]) Tryz.func53 rfl Tryz.ntmps53 rfl rfl ?_
 intro Q hret hnorm hP hX a A
 refine wsk fun K1 hK1 => wrl (sda A λa A↦?_)
 refine qa (hK1 _ _ (wsk fun K2 hK2 => wrl (sdm A λa A↦?_)))
 refine sct A (ef rfl rfl) (qz (p := p) (L := L) (T := (T)) (by omega) M) ?_
 rintro _ w4 ⟨rfl, hM3⟩
 replace M : Mg w0 w4 (.obj g (rC L p lg) :: T) := hM3
 refine ⟨_, rfl, ?_⟩
 intro a A
 refine gcl A M (ef rfl rfl) (dc_any (l := L.drop p) (hT.below M.bel)) fun w6 hb5 M a A => ?_
 refine sdm A λa A↦?_
 iterate 2 refine sdo A (qp (vs := [.int .i32 ((((dcX (L.drop p)).1 : Nat) : Int)), iV ((((dcX (L.drop p)).2 : Nat) : Int))]) rfl rfl) λa A↦?_
 iterate 2 refine sda A λa A↦?_
 refine qa (hK2 _ _ (wsk fun K7 hK7 => wrl (sdm A λa A↦?_)))
 refine sdo (v := bV false) A (qb rfl rfl (fun w => (qx w).trans (by rw [show (decide (0 < (((dcX (L.drop p)).2 : Nat) : Int))) = false from (decide_eq_false (by omega))]))) λa A↦?_
 refine zq A rfl rfl rfl (ef rfl rfl) (zw) ?_
 rintro _ w9 ⟨rfl, hp10⟩
 exact .inl ⟨_, rfl, hX _ _ _ _ _ A (⟨rfl, M.call hp10⟩)⟩
end Go.Proofs.YtclkfideaameoaaGreatDoor.G
true) A λa A↦?_
     refine sda A λa A↦?_
     refine qa (hK2 _ _ (wr1 hret A ?_))
     exact ⟨by unfold isHx; rw [hb3, hb4, hb5, hb6]; rfl, M.bel⟩
    ·
     have hb6' := of_decide_eq_false hb6
     refine sdc A qn hb6 λa A↦?_
     iterate 2 refine sdk (v := bV false) A λa A↦?_
     iterate 2 refine sdm A λa A↦?_
     rcases tf (decide (65 ≤ ((b.toNat : Nat) : Int))) with hb7 | hb7
     ·
      have hb7' := of_decide_eq_true hb7
      refine sdc A ql hb7 λa A↦?_
      iterate 2 refine sdm A λa A↦?_
      rcases tf (decide (((b.toNat : Nat) : Int) ≤ 70)) with hb8 | hb8
      ·
       have hb8' := of_decide_eq_true hb8
       refine sdc A qn hb8 λa A↦?_
       iterate 2 refine sdk (v := bV true) A λa A↦?_
       refine sda A λa A↦?_
       refine qa (hK2 _ _ (wr1 hret A ?_))
       exact ⟨by unfold isHx; rw [hb3, hb4, hb5, hb6, hb7, hb8]; rfl, M.bel⟩
      ·
       have hb8' := of_decide_eq_false hb8
       refine sdc A qn hb8 λa A↦?_
       iterate 2 refine sdk (v := bV false) A λa A↦?_
       refine sda A λa A↦?_
       refine qa (hK2 _ _ (wr1 hret A ?_))
       exact ⟨by unfold isHx; rw [hb3, hb4, hb5, hb6, hb7, hb8]; rfl, M.bel⟩
     ·
      have hb7' := of_decide_eq_false hb7
      refine sdc A ql hb7 λa A↦?_
      refine sdm A λa A↦?_
      iterate 2 refine qg A rfl rfl rfl λa A↦?_
      iterate 2 refine sdk (v := bV false) A λa A↦?_
      refine sda A λa A↦?_
      refine qa (hK2 _ _ (wr1 hret A ?_))
      exact ⟨by unfold isHx; rw [hb3, hb4, hb5, hb6, hb7]; rfl, M.bel⟩
   ·
    have hb5' := of_decide_eq_false hb5
    refine sdc A ql hb5 λa A↦?_
    refine sdm A λa A↦?_
    iterate 2 refine qg A rfl rfl rfl λa A↦?_
    iterate 2 refine sdk (v := bV false) A λa A↦?_
    iterate 2 refine sdm A λa A↦?_
    rcases tf (decide (65 ≤ ((b.toNat : Nat) : Int))) with hb9 | hb9
    ·
     have hb9' := of_decide_eq_true hb9
     refine sdc A ql hb9 λa A↦?_
     iterate 2 refine sdm A λa A↦?_
     rcases tf (decide (((b.toNat : Nat) : Int) ≤ 70)) with hb10 | hb10
     ·
      have hb10' := of_decide_eq_true hb10
      refine sdc A qn hb10 λa A↦?_
      iterate 2 refine sdk (v := bV true) A λa A↦?_
      refine sda A λa A↦?_
      refine qa (hK2 _ _ (wr1 hret A ?_))
      exact ⟨by unfold isHx; rw [hb3, hb4, hb5, hb9, hb10]; rfl, M.bel⟩
     ·
      have hb10' := of_decide_eq_false hb10
      refine sdc A qn hb10 λa A↦?_
      iterate 2 refine sdk (v := bV false) A λa A↦?_
      refine sda A λa A↦?_
      refine qa (hK2 _ _ (wr1 hret A ?_))
      exact ⟨by unfold isHx; rw [hb3, hb4, hb5, hb9, hb10]; rfl, M.bel⟩
    ·
     have hb9' := of_decide_eq_false hb9
     refine sdc A ql hb9 λa A↦?_
     refine sdm A λa A↦?_
     iterate 2 refine qg A rfl rfl rfl λa A↦?_
     iterate 2 refine sdk (v := bV false) A λa A↦?_
     refine sda A λa A↦?_
     refine qa (hK2 _ _ (wr1 hret A ?_))
     exact ⟨by unfold isHx; rw [hb3, hb4, hb5, hb9]; rfl, M.bel⟩
 ·
  have hb3' := of_decide_eq_false hb3
  refine sdc A ql hb3 λa A↦?_
  refine sdm A λa A↦?_
  iterate 2 refine qg A rfl rfl rfl λa A↦?_
  refine sdk (v := bV false) A λa A↦?_
  iterate 2 refine sdm A λa A↦?_
  rcases tf (decide (97 ≤ ((b.toNat : Nat) : Int))) with hb11 | hb11
  ·
   have hb11' := of_decide_eq_true hb11
   refine sdc A ql hb11 λa A↦?_
   iterate 2 refine sdm A λa A↦?_
   rcases tf (decide (((b.toNat : Nat) : Int) ≤ 102)) with hb12 | hb12
   ·
    have hb12' := of_decide_eq_true hb12
    refine sdc A qn hb12 λa A↦?_
    iterate 2 refine sdk (v := bV true) A λa A↦?_
    refine sdm A λa A↦?_
    iterate 3 refine qg A rfl rfl rfl λa A↦?_
    iterate 2 refine jq A rfl rfl rfl λa A↦?_
    refine qg A rfl rfl rfl λa A↦?_
    refine sdk (v := bV true) A λa A↦?_
    refine sda A λa A↦?_
    refine qa (hK2 _ _ (wr1 hret A ?_))
    exact ⟨by unfold isHx; rw [hb3, hb11, hb12]; rfl, M.bel⟩
   ·
    have hb12' := of_decide_eq_false hb12
    refine sdc A qn hb12 λa A↦?_
    iterate 2 refine sdk (v := bV false) A λa A↦?_
    iterate 2 refine sdm A λa A↦?_
    rcases tf (decide (65 ≤ ((b.toNat : Nat) : Int))) with hb13 | hb13
    ·
     have hb13' := of_decide_eq_true hb13
     refine sdc A ql hb13 λa A↦?_
     iterate 2 refine sdm A λa A↦?_
     rcases tf (decide (((b.toNat : Nat) : Int) ≤ 70)) with hb14 | hb14
     ·
      have hb14' := of_decide_eq_true hb14
      refine sdc A qn hb14 λa A↦?_
      iterate 2 refine sdk (v := bV true) A λa A↦?_
      refine sda A λa A↦?_
      refine qa (hK2 _ _ (wr1 hret A ?_))
      exact ⟨by unfold isHx; rw [hb3, hb11, hb12, hb13, hb14]; rfl, M.bel⟩
     ·
      have hb14' := of_decide_eq_false hb14
      refine sdc A qn hb14 λa A↦?_
      iterate 2 refine sdk (v := bV false) A λa A↦?_
      refine sda A λa A↦?_
      refine qa (hK2 _ _ (wr1 hret A ?_))
      exact ⟨by unfold isHx; rw [hb3, hb11, hb12, hb13, hb14]; rfl, M.bel⟩
    ·
     have hb13' := of_decide_eq_false hb13
     refine sdc A ql hb13 λa A↦?_
     refine sdm A λa A↦?_
     iterate 2 refine qg A rfl rfl rfl λa A↦?_
     iterate 2 refine sdk (v := bV false) A λa A↦?_
     refine sda A λa A↦?_
     refine qa (hK2 _ _ (wr1 hret A ?_))
     exact ⟨by unfold isHx; rw [hb3, hb11, hb12, hb13]; rfl, M.bel⟩
  ·
   have hb11' := of_decide_eq_false hb11
   refine sdc A ql hb11 λa A↦?_
   refine sdm A λa A↦?_
   iterate 2 refine qg A rfl rfl rfl λa A↦?_
   iterate 2 refine sdk (v := bV false) A λa A↦?_
   iterate 2 refine sdm A λa A↦?_
   rcases tf (decide (65 ≤ ((b.toNat : Nat) : Int))) with hb15 | hb15
   ·
    have hb15' := of_decide_eq_true hb15
    refine sdc A ql hb15 λa A↦?_
    iterate 2 refine sdm A λa A↦?_
    rcases tf (decide (((b.toNat : Nat) : Int) ≤ 70)) with hb16 | hb16
    ·
     have hb16' := of_decide_eq_true hb16
     refine sdc A qn hb16 λa A↦?_
     iterate 2 refine sdk (v := bV true) A λa A↦?_
     refine sda A λa A↦?_
     refine qa (hK2 _ _ (wr1 hret A ?_))
     exact ⟨by unfold isHx; rw [hb3, hb11, hb15, hb16]; rfl, M.bel⟩
    ·
     have hb16' := of_decide_eq_false hb16
     refine sdc A qn hb16 λa A↦?_
     iterate 2 refine sdk (v := bV false) A λa A↦?_
     refine sda A λa A↦?_
     refine qa (hK2 _ _ (wr1 hret A ?_))
     exact ⟨by unfold isHx; rw [hb3, hb11, hb15, hb16]; rfl, M.bel⟩
   ·
    have hb15' := of_decide_eq_false hb15
    refine sdc A ql hb15 λa A↦?_
    refine sdm A λa A↦?_
    iterate 2 refine qg A rfl rfl rfl λa A↦?_
    iterate 2 refine sdk (v := bV false) A λa A↦?_
    refine sda A λa A↦?_
    refine qa (hK2 _ _ (wr1 hret A ?_))
    exact ⟨by unfold isHx; rw [hb3, hb11, hb15]; rfl, M.bel⟩
theorem jb {w : World} {b : UInt8} {c : Bool} (h : isHx b = c) : Calls Tryz.prog 116 #[.int .u8 ((b.toNat : Nat) : Int)] w fun e w' => e = .returned (bV c) ∧ Below w.heap.size w w' := h ▸ hex_any
theorem jc {w : World} {l : List UInt8} (hT : Tb w) (hl : l.length ≤ 1000000000) : Calls Tryz.prog 86 #[.string (tx l)] w fun e w' => e = .returned (iV ((tiedN l : Nat) : Int)) ∧ Below w.heap.size w w' := by
 have M : Mg w w ([]) := Mg.start w
 refine qr (l := [(0, .string ((tx l)))]) Tryz.func86 rfl Tryz.ntmps86 rfl rfl ?_
 intro Q hret hnorm hP a A
 refine wsk fun K1 hK1 => wrl (sda A λa A↦?_)
 refine qa (hK1 _ _ (wsk fun K2 hK2 => wrl (sdm A λa A↦?_)))
 refine sct A (ef rfl rfl) (dc_any (l := l) (hT.below M.bel)) ?_
 rintro _ w4 ⟨rfl, hb3⟩
 obtain ⟨q, hq⟩ : ∃ q, (dcX l).2 = q := ⟨_, rfl⟩
 have hql := dcX_le l
 rw [hq] at hql ⊢
 replace M := M.call hb3
 refine ⟨_, rfl, ?_⟩
 intro a A
 refine sdm A λa A↦?_
 iterate 2 refine sdo A (qp (vs := [.int .i32 ((((dcX l).1 : Nat) : Int)), iV (((q : Nat) : Int))]) rfl rfl) λa A↦?_
 iterate 2 refine sda A λa A↦?_
 refine qa (hK2 _ _ (wsk fun K5 hK5 => wrl (sda A λa A↦?_)))
 refine qa (hK5 _ _ (wsk fun K6 hK6 => wp_block (zl (fun m_ a w1 => ∃ (j : Nat), m_ = 1 + (l.length - (q + j)) ∧ (q + j ≤ l.length ∧ hxN (l.drop q) = j + hxN (l.drop (q + j))) ∧ Sl a 41 [(0, .string ((tx l))), (2, iV 0), (3, .int .i32 ((((dcX l).1 : Nat) : Int))), (4, iV (((q : Nat) : Int))), (5, iV (((j : Nat) : Int))), (6, .tuple #[.int .i32 ((((dcX l).1 : Nat) : Int)), iV (((q : Nat) : Int))]), (7, .string ((tx l))), (8, .tuple #[.int .i32 ((((dcX l).1 : Nat) : Int)), iV (((q : Nat) : Int))]), (9, .int .i32 ((((dcX l).1 : Nat) : Int))), (10, iV (((q : Nat) : Int)))] ∧ Mg w w1 ([])) _ ⟨0, rfl, ⟨by omega, by rw [Nat.zero_add, Nat.add_zero]⟩, A.keep _ (by repeat' constructor), M⟩ ?_)))
 clear M A
 rintro m_ a w7 ⟨j, rfl, hinv9, A, M⟩ K8 hK8
 obtain ⟨hj0, hj⟩ := hinv9
 refine wsk fun K10 hK10 => wsk fun K11 hK11 => wrl ?_
 iterate 2 refine sdm A λa A↦?_
 refine sdo (v := iV (((q + j : Nat) : Int))) A (qb rfl rfl (ar_add ((in_i64 (by omega) (by omega)).trans (by omega)))) λa A↦?_
 refine sdm A λa A↦?_
 refine sdo (v := iV (((l.length : Nat) : Int))) A (zg (s := l) Tryz.underlying9 rfl) λa A↦?_
 rcases tf (decide (((q + j : Nat) : Int) < ((l.length : Nat) : Int))) with hb12 | hb12
 ·
  have hb12' := of_decide_eq_true hb12
  refine sdc A qw hb12 λa A↦?_
  iterate 4 refine sdm A λa A↦?_
  refine sdo (v := iV (((q + j : Nat) : Int))) A (qb rfl rfl (ar_add ((in_i64 (by omega) (by omega)).trans (by omega)))) λa A↦?_
  obtain ⟨b13, hb14⟩ : ∃ b, l[q + j]? = some b := ⟨_, List.getElem?_eq_getElem (show q + j < l.length by omega)⟩
  refine sdo (v := .int .u8 (((b13.toNat : Nat) : Int))) A (zb (s := l) (i := q + j) Tryz.underlying9 rfl rfl rfl hb14) λa A↦?_
  rcases tf (isHx b13) with hb15 | hb15
  ·
   refine gcl A M (ef rfl rfl) ((jb hb15)) fun w17 hb16 M a A => ?_
   refine sdk (v := bV true) A λa A↦?_
   refine qa (hK11 _ _ (ct A ?_))
   refine wp_skip (hK10 _ _ (wp_block (wrl (sdm A λa A↦?_))))
   refine sdo (v := iV (((j + 1 : Nat) : Int))) A (qb rfl rfl (ar_add ((in_i64 (by omega) (by omega)).trans (by omega)))) λa A↦?_
   refine sda A λa A↦?_
   refine qa ?_
   refine hK8 _ _ _ (by omega) ⟨j + 1, rfl, ⟨by omega, by rw [hj, hxN_hit hb14 hb15, Nat.add_assoc]; omega⟩, A.keep _ (by repeat' constructor), M⟩
  ·
   refine gcl A M (ef rfl rfl) ((jb hb15)) fun w19 hb18 M a A => ?_
   refine sdk (v := bV false) A λa A↦?_
   refine qa (hK11 _ _ (cf A ?_))
   refine wp_exit (hK6 _ _ (wsk fun K20 hK20 => wrl ?_))
   iterate 2 refine sdm A λa A↦?_
   refine sdo (v := iV (((q + j : Nat) : Int))) A (qb rfl rfl (ar_add ((in_i64 (by omega) (by omega)).trans (by omega)))) λa A↦?_
   refine sda A λa A↦?_
   refine qa (hK20 _ _ (wsk fun K21 hK21 => wsk fun K22 hK22 => wrl (sdm A λa A↦?_)))
   rcases tf (decide (0 < ((j : Nat) : Int))) with hb23 | hb23
   ·
    have hb23' := of_decide_eq_true hb23
    refine sdc A qx hb23 λa A↦?_
    iterate 3 refine sdm A λa A↦?_
    refine sdo (v := .string ((tx (l.drop (q + j))))) A (qs (s := l) (p := q + j) Tryz.underlying9 rfl rfl rfl (by omega)) λa A↦?_
    rcases tf (Lib.hasPrefix (l.drop (q + j)) [59]) with hb24 | hb24
    ·
     refine gcl A M (ef rfl rfl) ((hp_as hb24)) fun w26 hb25 M a A => ?_
     refine sdk (v := bV true) A λa A↦?_
     refine qa (hK22 _ _ (ct A ?_))
     refine wrl (sdm A λa A↦?_)
     refine sdo (v := iV (((q + j + 1 : Nat) : Int))) A (qb rfl rfl (ar_add ((in_i64 (by omega) (by omega)).trans (by omega)))) λa A↦?_
     refine sda A λa A↦?_
     refine qa (hK21 _ _ (wsk fun K27 hK27 => wrl (sdm A λa A↦?_)))
     refine sda A λa A↦?_
     refine qa (hK27 _ _ (wr1 hret A ?_))
     have hz : hxN (l.drop (q + j)) = 0 := by first | exact hxN_not (by assumption) (by assumption) | exact hxN_end (by omega)
     have hjj : hxN (l.drop q) = j := by omega
     exact ⟨by unfold tiedN; rw [hq, hjj, hb24, if_pos (by rw [decide_eq_true (by omega)]; rfl)], M.bel⟩
    ·
     refine gcl A M (ef rfl rfl) ((hp_as hb24)) fun w29 hb28 M a A => ?_
     refine sdk (v := bV false) A λa A↦?_
     refine qa (hK22 _ _ (cf A ?_))
     refine wp_skip (hK21 _ _ (wsk fun K30 hK30 => wrl (sdm A λa A↦?_)))
     refine sda A λa A↦?_
     refine qa (hK30 _ _ (wr1 hret A ?_))
     have hz : hxN (l.drop (q + j)) = 0 := by first | exact hxN_not (by assumption) (by assumption) | exact hxN_end (by omega)
     have hjj : hxN (l.drop q) = j := by omega
     exact ⟨by unfold tiedN; rw [hq, hjj, hb24, if_neg (by rw [Bool.and_false]; decide)]; rfl, M.bel⟩
   ·
    have hb23' := of_decide_eq_false hb23
    refine sdc A qx hb23 λa A↦?_
    refine sdm A λa A↦?_
    iterate 4 refine qg A rfl rfl rfl λa A↦?_
    refine sdk (v := bV false) A λa A↦?_
    refine qa (hK22 _ _ (cf A ?_))
    refine wp_skip (hK21 _ _ (wsk fun K31 hK31 => wrl (sdm A λa A↦?_)))
    refine sda A λa A↦?_
    refine qa (hK31 _ _ (wr1 hret A ?_))
    have hz : hxN (l.drop (q + j)) = 0 := by first | exact hxN_not (by assumption) (by assumption) | exact hxN_end (by omega)
    have hjj : hxN (l.drop q) = j := by omega
    exact ⟨by unfold tiedN; rw [hq, hjj, if_neg (by rw [decide_eq_false (by omega), Bool.false_and]; decide)]; rfl, M.bel⟩
 ·
  have hb12' := of_decide_eq_false hb12
  refine sdc A qw hb12 λa A↦?_
  refine sdm A λa A↦?_
  iterate 6 refine qg A rfl rfl rfl λa A↦?_
  refine sdk (v := bV false) A λa A↦?_
  refine qa (hK11 _ _ (cf A ?_))
  refine wp_exit (hK6 _ _ (wsk fun K32 hK32 => wrl ?_))
  iterate 2 refine sdm A λa A↦?_
  refine sdo (v := iV (((q + j : Nat) : Int))) A (qb rfl rfl (ar_add ((in_i64 (by omega) (by omega)).trans (by omega)))) λa A↦?_
  refine sda A λa A↦?_
  refine qa (hK32 _ _ (wsk fun K33 hK33 => wsk fun K34 hK34 => wrl (sdm A λa A↦?_)))
  rcases tf (decide (0 < ((j : Nat) : Int))) with hb35 | hb35
  ·
   have hb35' := of_decide_eq_true hb35
   refine sdc A qx hb35 λa A↦?_
   iterate 3 refine sdm A λa A↦?_
   refine sdo (v := .string ((tx (l.drop (q + j))))) A (qs (s := l) (p := q + j) Tryz.underlying9 rfl rfl rfl (by omega)) λa A↦?_
   rcases tf (Lib.hasPrefix (l.drop (q + j)) [59]) with hb36 | hb36
   ·
    refine gcl A M (ef rfl rfl) ((hp_as hb36)) fun w38 hb37 M a A => ?_
    refine sdk (v := bV true) A λa A↦?_
    refine qa (hK34 _ _ (ct A ?_))
    refine wrl (sdm A λa A↦?_)
    refine sdo (v := iV (((q + j + 1 : Nat) : Int))) A (qb rfl rfl (ar_add ((in_i64 (by omega) (by omega)).trans (by omega)))) λa A↦?_
    refine sda A λa A↦?_
    refine qa (hK33 _ _ (wsk fun K39 hK39 => wrl (sdm A λa A↦?_)))
    refine sda A λa A↦?_
    refine qa (hK39 _ _ (wr1 hret A ?_))
    have hz : hxN (l.drop (q + j)) = 0 := by first | exact hxN_not (by assumption) (by assumption) | exact hxN_end (by omega)
    have hjj : hxN (l.drop q) = j := by omega
    exact ⟨by unfold tiedN; rw [hq, hjj, hb36, if_pos (by rw [decide_eq_true (by omega)]; rfl)], M.bel⟩
   ·
    refine gcl A M (ef rfl rfl) ((hp_as hb36)) fun w41 hb40 M a A => ?_
    refine sdk (v := bV false) A λa A↦?_
    refine qa (hK34 _ _ (cf A ?_))
    refine wp_skip (hK33 _ _ (wsk fun K42 hK42 => wrl (sdm A λa A↦?_)))
    refine sda A λa A↦?_
    refine qa (hK42 _ _ (wr1 hret A ?_))
    have hz : hxN (l.drop (q + j)) = 0 := by first | exact hxN_not (by assumption) (by assumption) | exact hxN_end (by omega)
    have hjj : hxN (l.drop q) = j := by omega
    exact ⟨by unfold tiedN; rw [hq, hjj, hb36, if_neg (by rw [Bool.and_false]; decide)]; rfl, M.bel⟩
  ·
   have hb35' := of_decide_eq_false hb35
   refine sdc A qx hb35 λa A↦?_
   refine sdm A λa A↦?_
   iterate 4 refine qg A rfl rfl rfl λa A↦?_
   refine sdk (v := bV false) A λa A↦?_
   refine qa (hK34 _ _ (cf A ?_))
   refine wp_skip (hK33 _ _ (wsk fun K43 hK43 => wrl (sdm A λa A↦?_)))
   refine sda A λa A↦?_
   refine qa (hK43 _ _ (wr1 hret A ?_))
   have hz : hxN (l.drop (q + j)) = 0 := by first | exact hxN_not (by assumption) (by assumption) | exact hxN_end (by omega)
   have hjj : hxN (l.drop q) = j := by omega
   exact ⟨by unfold tiedN; rw [hq, hjj, if_neg (by rw [decide_eq_false (by omega), Bool.false_and]; decide)]; rfl, M.bel⟩
end Go.Proofs.YtclkfideaameoaaGreatDoor.G
 ((delim_as (okR_dc _) hb15)) fun w17 hb16 M a A => ?_
   refine qa (hK14 _ _ (ct A ?_))
   refine wp_exit (hK3 _ _ (wsk fun K18 hK18 => wrl ?_))
   iterate 2 refine sdm A λa A↦?_
   refine sdo (v := .string ((tx (l.take n)))) A (zs (s := l) (p := n) Tryz.underlying9 rfl rfl rfl (by omega)) λa A↦?_
   refine sda A λa A↦?_
   refine qa (hK18 _ _ (wr1 hret A ?_))
   exact ⟨by rw [hn, show tokN (f + 1) (l.drop n) = 0 from tok_stop hb15, Nat.add_zero], M.bel⟩
  ·
   refine gcl A M (ef rfl rfl) ((delim_as (okR_dc _) hb15)) fun w20 hb19 M a A => ?_
   refine qa (hK14 _ _ (cf A ?_))
   refine wp_skip (hK13 _ _ (wsk fun K21 hK21 => wrl ?_))
   iterate 2 refine sdm A λa A↦?_
   refine sdo (v := iV (((n + (dcX (l.drop n)).2 : Nat) : Int))) A (qb rfl rfl (ar_add ((in_i64 (by omega) (by omega)).trans (by omega)))) λa A↦?_
   refine sda A λa A↦?_
   refine qa (hK21 _ _ (wsk fun K22 hK22 => wrl (sdm A λa A↦?_)))
   rcases tf (((((dcX (l.drop n)).1 : Nat) : Int) == 92)) with hb23 | hb23
   ·
    have hb23' := eq_of_beq hb23
    refine sdc A ze hb23 λa A↦?_
    refine qa (hK22 _ _ (ct A ?_))
    refine wrl ?_
    iterate 3 refine sdm A λa A↦?_
    refine sdo (v := .string ((tx (l.drop (n + (dcX (l.drop n)).2))))) A (qs (s := l) (p := n + (dcX (l.drop n)).2) Tryz.underlying9 rfl rfl rfl (by omega)) λa A↦?_
    have ht25 := tiedN_le (l.drop (n + (dcX (l.drop n)).2))
    rw [List.length_drop] at ht25
    refine gcl A M (ef rfl rfl) (jc (l := l.drop (n + (dcX (l.drop n)).2)) (hT.below M.bel) (by rw [List.length_drop]; omega)) fun w26 hb24 M a A => ?_
    refine sdo (v := iV (((n + (dcX (l.drop n)).2 + tiedN (l.drop (n + (dcX (l.drop n)).2)) : Nat) : Int))) A (qb rfl rfl (ar_add ((in_i64 (by omega) (by omega)).trans (by omega)))) λa A↦?_
    refine sda A λa A↦?_
    refine qa ?_
    have e7 := tok_go (f := f) hne hb15 (if_pos (eq_of_beq hb23))
    simp only [List.drop_drop] at e7
    refine hK5 _ _ _ (by omega) ⟨n + (dcX (l.drop n)).2 + tiedN (l.drop (n + (dcX (l.drop n)).2)), f, rfl, ⟨by omega, by omega, by rw [hn, e7, Nat.add_assoc n (dcX (l.drop n)).2 _]; exact (Nat.add_assoc _ _ _).symm⟩, A.keep _ ⟨rfl, rfl, rfl, trivial⟩, M⟩
   ·
    have hb23' := ne_of_beq_false hb23
    refine sdc A ze hb23 λa A↦?_
    refine qa (hK22 _ _ (cf A ?_))
    refine wp_skip ?_
    refine hK5 _ _ _ (by omega) ⟨n + (dcX (l.drop n)).2, f, rfl, ⟨by omega, by omega, by rw [hn, tok_go hne hb15 (if_neg (ne_of_beq_false hb23)), List.drop_drop, Nat.add_assoc]⟩, A.keep _ ⟨rfl, rfl, rfl, trivial⟩, M⟩
 ·
  have hb9' := of_decide_eq_false hb9
  refine sdc A qw hb9 λa A↦?_
  refine qa (hK8 _ _ (cf A ?_))
  refine wp_exit (hK3 _ _ (wsk fun K27 hK27 => wrl ?_))
  iterate 2 refine sdm A λa A↦?_
  refine sdo (v := .string ((tx (l.take n)))) A (zs (s := l) (p := n) Tryz.underlying9 rfl rfl rfl (by omega)) λa A↦?_
  refine sda A λa A↦?_
  refine qa (hK27 _ _ (wr1 hret A ?_))
  exact ⟨by rw [hn, show tokN (f + 1) (l.drop n) = 0 from (by rw [List.drop_eq_nil_of_le (by omega)]; exact tok_end _), Nat.add_zero], M.bel⟩
end Go.Proofs.YtclkfideaameoaaGreatDoor.G
neg (of_decide_eq_false hb5), if_neg (of_decide_eq_false hb8), if_pos (of_decide_eq_true hb11)]; rfl, M.bel⟩
   ·
    have hb11' := of_decide_eq_false hb11
    refine sdo (v := bV false) A (qb rfl rfl (fun w => (qe (a := l) (b := [98, 97, 99, 107, 115, 112, 97, 99, 101]) Tryz.underlying9 w).trans (by rw [hb11] <;> rfl))) λa A↦?_
    refine sda A λa A↦?_
    refine qa (hK10 _ _ (cf A ?_))
    refine wsk fun K13 hK13 => wrl ?_
    rcases tf (decide (l = [116, 97, 98])) with hb14 | hb14
    ·
     have hb14' := of_decide_eq_true hb14
     refine sdo (v := bV true) A (qb rfl rfl (fun w => (qe (a := l) (b := [116, 97, 98]) Tryz.underlying9 w).trans (by rw [hb14] <;> rfl))) λa A↦?_
     refine sda A λa A↦?_
     refine qa (hK13 _ _ (ct A ?_))
     refine wsk fun K15 hK15 => wrl ?_
     iterate 2 refine sda A λa A↦?_
     refine qa (hK15 _ _ (wp_ret (hret _ _ (en2 A rfl (qf rfl) (qf rfl) ?_))))
     exact ⟨by unfold nmdX; rw [if_neg (of_decide_eq_false hb5), if_neg (of_decide_eq_false hb8), if_neg (of_decide_eq_false hb11), if_pos (of_decide_eq_true hb14)]; rfl, M.bel⟩
    ·
     have hb14' := of_decide_eq_false hb14
     refine sdo (v := bV false) A (qb rfl rfl (fun w => (qe (a := l) (b := [116, 97, 98]) Tryz.underlying9 w).trans (by rw [hb14] <;> rfl))) λa A↦?_
     refine sda A λa A↦?_
     refine qa (hK13 _ _ (cf A ?_))
     refine wsk fun K16 hK16 => wsk fun K17 hK17 => wrl ?_
     rcases tf (decide (l = [108, 105, 110, 101, 102, 101, 101, 100])) with hb18 | hb18
     ·
      have hb18' := of_decide_eq_true hb18
      refine sdo (v := bV true) A (qb rfl rfl (fun w => (qe (a := l) (b := [108, 105, 110, 101, 102, 101, 101, 100]) Tryz.underlying9 w).trans (by rw [hb18] <;> rfl))) λa A↦?_
      refine sda A λa A↦?_
      refine qa (hK17 _ _ (ct A ?_))
      refine wp_skip (hK16 _ _ (ct A ?_))
      refine wsk fun K19 hK19 => wrl ?_
      iterate 2 refine sda A λa A↦?_
      refine qa (hK19 _ _ (wp_ret (hret _ _ (en2 A rfl (qf rfl) (qf rfl) ?_))))
      exact ⟨by unfold nmdX; rw [if_neg (of_decide_eq_false hb5), if_neg (of_decide_eq_false hb8), if_neg (of_decide_eq_false hb11), if_neg (of_decide_eq_false hb14), if_pos (of_decide_eq_true hb18)]; rfl, M.bel⟩
     ·
      have hb18' := of_decide_eq_false hb18
      refine sdo (v := bV false) A (qb rfl rfl (fun w => (qe (a := l) (b := [108, 105, 110, 101, 102, 101, 101, 100]) Tryz.underlying9 w).trans (by rw [hb18] <;> rfl))) λa A↦?_
      refine sda A λa A↦?_
      refine qa (hK17 _ _ (cf A ?_))
      refine wrl ?_
      rcases tf (decide (l = [110, 101, 119, 108, 105, 110, 101])) with hb20 | hb20
      ·
       have hb20' := of_decide_eq_true hb20
       refine sdo (v := bV true) A (qb rfl rfl (fun w => (qe (a := l) (b := [110, 101, 119, 108, 105, 110, 101]) Tryz.underlying9 w).trans (by rw [hb20] <;> rfl))) λa A↦?_
       refine sda A λa A↦?_
       refine qa (hK16 _ _ (ct A ?_))
       refine wsk fun K21 hK21 => wrl ?_
       iterate 2 refine sda A λa A↦?_
       refine qa (hK21 _ _ (wp_ret (hret _ _ (en2 A rfl (qf rfl) (qf rfl) ?_))))
       exact ⟨by unfold nmdX; rw [if_neg (of_decide_eq_false hb5), if_neg (of_decide_eq_false hb8), if_neg (of_decide_eq_false hb11), if_neg (of_decide_eq_false hb14), if_neg (of_decide_eq_false hb18), if_pos (of_decide_eq_true hb20)]; rfl, M.bel⟩
      ·
       have hb20' := of_decide_eq_false hb20
       refine sdo (v := bV false) A (qb rfl rfl (fun w => (qe (a := l) (b := [110, 101, 119, 108, 105, 110, 101]) Tryz.underlying9 w).trans (by rw [hb20] <;> rfl))) λa A↦?_
       refine sda A λa A↦?_
       refine qa (hK16 _ _ (cf A ?_))
       refine wsk fun K22 hK22 => wrl ?_
       rcases tf (decide (l = [118, 116, 97, 98])) with hb23 | hb23
       ·
        have hb23' := of_decide_eq_true hb23
        refine sdo (v := bV true) A (qb rfl rfl (fun w => (qe (a := l) (b := [118, 116, 97, 98]) Tryz.underlying9 w).trans (by rw [hb23] <;> rfl))) λa A↦?_
        refine sda A λa A↦?_
        refine qa (hK22 _ _ (ct A ?_))
        refine wsk fun K24 hK24 => wrl ?_
        iterate 2 refine sda A λa A↦?_
        refine qa (hK24 _ _ (wp_ret (hret _ _ (en2 A rfl (qf rfl) (qf rfl) ?_))))
        exact ⟨by unfold nmdX; rw [if_neg (of_decide_eq_false hb5), if_neg (of_decide_eq_false hb8), if_neg (of_decide_eq_false hb11), if_neg (of_decide_eq_false hb14), if_neg (of_decide_eq_false hb18), if_neg (of_decide_eq_false hb20), if_pos (of_decide_eq_true hb23)]; rfl, M.bel⟩
       ·
        have hb23' := of_decide_eq_false hb23
        refine sdo (v := bV false) A (qb rfl rfl (fun w => (qe (a := l) (b := [118, 116, 97, 98]) Tryz.underlying9 w).trans (by rw [hb23] <;> rfl))) λa A↦?_
        refine sda A λa A↦?_
        refine qa (hK22 _ _ (cf A ?_))
        refine wsk fun K25 hK25 => wrl ?_
        rcases tf (decide (l = [112, 97, 103, 101])) with hb26 | hb26
        ·
         have hb26' := of_decide_eq_true hb26
         refine sdo (v := bV true) A (qb rfl rfl (fun w => (qe (a := l) (b := [112, 97, 103, 101]) Tryz.underlying9 w).trans (by rw [hb26] <;> rfl))) λa A↦?_
         refine sda A λa A↦?_
         refine qa (hK25 _ _ (ct A ?_))
         refine wsk fun K27 hK27 => wrl ?_
         iterate 2 refine sda A λa A↦?_
         refine qa (hK27 _ _ (wp_ret (hret _ _ (en2 A rfl (qf rfl) (qf rfl) ?_))))
         exact ⟨by unfold nmdX; rw [if_neg (of_decide_eq_false hb5), if_neg (of_decide_eq_false hb8), if_neg (of_decide_eq_false hb11), if_neg (of_decide_eq_false hb14), if_neg (of_decide_eq_false hb18), if_neg (of_decide_eq_false hb20), if_neg (of_decide_eq_false hb23), if_pos (of_decide_eq_true hb26)]; rfl, M.bel⟩
        ·
         have hb26' := of_decide_eq_false hb26
         refine sdo (v := bV false) A (qb rfl rfl (fun w => (qe (a := l) (b := [112, 97, 103, 101]) Tryz.underlying9 w).trans (by rw [hb26] <;> rfl))) λa A↦?_
         refine sda A λa A↦?_
         refine qa (hK25 _ _ (cf A ?_))
         refine wsk fun K28 hK28 => wrl ?_
         rcases tf (decide (l = [114, 101, 116, 117, 114, 110])) with hb29 | hb29
         ·
          have hb29' := of_decide_eq_true hb29
          refine sdo (v := bV true) A (qb rfl rfl (fun w => (qe (a := l) (b := [114, 101, 116, 117, 114, 110]) Tryz.underlying9 w).trans (by rw [hb29] <;> rfl))) λa A↦?_
          refine sda A λa A↦?_
          refine qa (hK28 _ _ (ct A ?_))
          refine wsk fun K30 hK30 => wrl ?_
          iterate 2 refine sda A λa A↦?_
          refine qa (hK30 _ _ (wp_ret (hret _ _ (en2 A rfl (qf rfl) (qf rfl) ?_))))
          exact ⟨by unfold nmdX; rw [if_neg (of_decide_eq_false hb5), if_neg (of_decide_eq_false hb8), if_neg (of_decide_eq_false hb11), if_neg (of_decide_eq_false hb14), if_neg (of_decide_eq_false hb18), if_neg (of_decide_eq_false hb20), if_neg (of_decide_eq_false hb23), if_neg (of_decide_eq_false hb26), if_pos (of_decide_eq_true hb29)]; rfl, M.bel⟩
         ·
          have hb29' := of_decide_eq_false hb29
          refine sdo (v := bV false) A (qb rfl rfl (fun w => (qe (a := l) (b := [114, 101, 116, 117, 114, 110]) Tryz.underlying9 w).trans (by rw [hb29] <;> rfl))) λa A↦?_
          refine sda A λa A↦?_
          refine qa (hK28 _ _ (cf A ?_))
          refine wsk fun K31 hK31 => wrl ?_
          rcases tf (decide (l = [101, 115, 99])) with hb32 | hb32
          ·
           have hb32' := of_decide_eq_true hb32
           refine sdo (v := bV true) A (qb rfl rfl (fun w => (qe (a := l) (b := [101, 115, 99]) Tryz.underlying9 w).trans (by rw [hb32] <;> rfl))) λa A↦?_
           refine sda A λa A↦?_
           refine qa (hK31 _ _ (ct A ?_))
           refine wsk fun K33 hK33 => wrl ?_
           iterate 2 refine sda A λa A↦?_
           refine qa (hK33 _ _ (wp_ret (hret _ _ (en2 A rfl (qf rfl) (qf rfl) ?_))))
           exact ⟨by unfold nmdX; rw [if_neg (of_decide_eq_false hb5), if_neg (of_decide_eq_false hb8), if_neg (of_decide_eq_false hb11), if_neg (of_decide_eq_false hb14), if_neg (of_decide_eq_false hb18), if_neg (of_decide_eq_false hb20), if_neg (of_decide_eq_false hb23), if_neg (of_decide_eq_false hb26), if_neg (of_decide_eq_false hb29), if_pos (of_decide_eq_true hb32)]; rfl, M.bel⟩
          ·
           have hb32' := of_decide_eq_false hb32
           refine sdo (v := bV false) A (qb rfl rfl (fun w => (qe (a := l) (b := [101, 115, 99]) Tryz.underlying9 w).trans (by rw [hb32] <;> rfl))) λa A↦?_
           refine sda A λa A↦?_
           refine qa (hK31 _ _ (cf A ?_))
           refine wsk fun K34 hK34 => wrl ?_
           rcases tf (decide (l = [115, 112, 97, 99, 101])) with hb35 | hb35
           ·
            have hb35' := of_decide_eq_true hb35
            refine sdo (v := bV true) A (qb rfl rfl (fun w => (qe (a := l) (b := [115, 112, 97, 99, 101]) Tryz.underlying9 w).trans (by rw [hb35] <;> rfl))) λa A↦?_
            refine sda A λa A↦?_
            refine qa (hK34 _ _ (ct A ?_))
            refine wsk fun K36 hK36 => wrl ?_
            iterate 2 refine sda A λa A↦?_
            refine qa (hK36 _ _ (wp_ret (hret _ _ (en2 A rfl (qf rfl) (qf rfl) ?_))))
            exact ⟨by unfold nmdX; rw [if_neg (of_decide_eq_false hb5), if_neg (of_decide_eq_false hb8), if_neg (of_decide_eq_false hb11), if_neg (of_decide_eq_false hb14), if_neg (of_decide_eq_false hb18), if_neg (of_decide_eq_false hb20), if_neg (of_decide_eq_false hb23), if_neg (of_decide_eq_false hb26), if_neg (of_decide_eq_false hb29), if_neg (of_decide_eq_false hb32), if_pos (of_decide_eq_true hb35)]; rfl, M.bel⟩
           ·
            have hb35' := of_decide_eq_false hb35
            refine sdo (v := bV false) A (qb rfl rfl (fun w => (qe (a := l) (b := [115, 112, 97, 99, 101]) Tryz.underlying9 w).trans (by rw [hb35] <;> rfl))) λa A↦?_
            refine sda A λa A↦?_
            refine qa (hK34 _ _ (cf A ?_))
            refine wsk fun K37 hK37 => wrl ?_
            rcases tf (decide (l = [100, 101, 108, 101, 116, 101])) with hb38 | hb38
            ·
             have hb38' := of_decide_eq_true hb38
             refine sdo (v := bV true) A (qb rfl rfl (fun w => (qe (a := l) (b := [100, 101, 108, 101, 116, 101]) Tryz.underlying9 w).trans (by rw [hb38] <;> rfl))) λa A↦?_
             refine sda A λa A↦?_
             refine qa (hK37 _ _ (ct A ?_))
             refine wsk fun K39 hK39 => wrl ?_
             iterate 2 refine sda A λa A↦?_
             refine qa (hK39 _ _ (wp_ret (hret _ _ (en2 A rfl (qf rfl) (qf rfl) ?_))))
             exact ⟨by unfold nmdX; rw [if_neg (of_decide_eq_false hb5), if_neg (of_decide_eq_false hb8), if_neg (of_decide_eq_false hb11), if_neg (of_decide_eq_false hb14), if_neg (of_decide_eq_false hb18), if_neg (of_decide_eq_false hb20), if_neg (of_decide_eq_false hb23), if_neg (of_decide_eq_false hb26), if_neg (of_decide_eq_false hb29), if_neg (of_decide_eq_false hb32), if_neg (of_decide_eq_false hb35), if_pos (of_decide_eq_true hb38)]; rfl, M.bel⟩
            ·
             have hb38' := of_decide_eq_false hb38
             refine sdo (v := bV false) A (qb rfl rfl (fun w => (qe (a := l) (b := [100, 101, 108, 101, 116, 101]) Tryz.underlying9 w).trans (by rw [hb38] <;> rfl))) λa A↦?_
             refine sda A λa A↦?_
             refine qa (hK37 _ _ (cf A ?_))
             refine wp_skip (hK2 _ _ (wsk fun K40 hK40 => wrl ?_))
             iterate 2 refine sda A λa A↦?_
             refine qa (hK40 _ _ (wp_ret (hret _ _ (en2 A rfl (qf rfl) (qf rfl) ?_))))
             exact ⟨by unfold nmdX; rw [if_neg (of_decide_eq_false hb5), if_neg (of_decide_eq_false hb8), if_neg (of_decide_eq_false hb11), if_neg (of_decide_eq_false hb14), if_neg (of_decide_eq_false hb18), if_neg (of_decide_eq_false hb20), if_neg (of_decide_eq_false hb23), if_neg (of_decide_eq_false hb26), if_neg (of_decide_eq_false hb29), if_neg (of_decide_eq_false hb32), if_neg (of_decide_eq_false hb35), if_neg (of_decide_eq_false hb38)]; rfl, M.bel⟩
theorem jr {w0 w : World} {g p : Nat} {lg : Bool} {L : List UInt8} {T : List Ck} (hT : Tb w0) (hp : p ≤ L.length) (hl : L.length ≤ 1000000000) (hd0 : dotB (L.drop p) = true) (hM0 : Mg w0 w (.obj g (rC L p lg) :: T)) : Calls Tryz.prog 55 #[pA g 0] w fun e w' => e = .returned (bV true) ∧ Mg w0 w' (.obj g (rC L (p + 1) lg) :: T) := by
 have hd : decide ((L.drop p).take (tokN ((L.drop p).length + 1) (L.drop p)) = [46]) = true := hd0
 have hpf := dot_pre (of_decide_eq_true hd)
 have M : Mg w0 w (.obj g (rC L p lg) :: T) := hM0
 refine qr (l := [(0, pA g 0)]) Tryz.func55 rfl Tryz.ntmps55 rfl rfl ?_
 intro Q hret hnorm hP a A
 refine wsk fun K1 hK1 => wrl (sda A λa A↦?_)
 refine qa (hK1 _ _ (wsk fun K2 hK2 => wrl (sdm A λa A↦?_)))
 refine sct A (ef rfl rfl) (qz (p := p) (L := L) (T := (T)) (by omega) M) ?_
 rintro _ w4 ⟨rfl, hM3⟩
 replace M : Mg w0 w4 (.obj g (rC L p lg) :: T) := hM3
 refine ⟨_, rfl, ?_⟩
 intro a A
 refine gcl A M (ef rfl rfl) (token_any (l := L.drop p) (hT.below M.bel) (by rw [List.length_drop]; omega)) fun w6 hb5 M a A => ?_
 refine sdo (v := bV true) A (qb rfl rfl (fun w => (qe (a := (L.drop p).take (tokN ((L.drop p).length + 1) (L.drop p))) (b := [46]) Tryz.underlying9 w).trans (by rw [hd] <;> rfl))) λa A↦?_
 iterate 2 refine sdm A λa A↦?_
 have htl9 : 1 ≤ (L.drop p).length := (List.isPrefixOf_iff_prefix.1 hpf).length_le
 rw [List.length_drop] at htl9
 refine sct A (ef rfl rfl) (take_y (p := p) (L := L) (T := (T)) (by omega) (by omega) hpf M) ?_
 rintro _ w10 ⟨rfl, hM8⟩
 replace M : Mg w0 w10 (.obj g (rC L (p + 1) lg) :: T) := hM8
 refine ⟨_, rfl, ?_⟩
 intro a A
 refine sdk (v := bV true) A λa A↦?_
 refine sda A λa A↦?_
 refine qa (hK2 _ _ (wr1 hret A ?_))
 exact ⟨rfl, M⟩
theorem js {w0 w : World} {g p : Nat} {lg : Bool} {L : List UInt8} {T : List Ck} (hT : Tb w0) (hp : p ≤ L.length) (hl : L.length ≤ 1000000000) (hd0 : dotB (L.drop p) = false) (hM0 : Mg w0 w (.obj g (rC L p lg) :: T)) : Calls Tryz.prog 55 #[pA g 0] w fun e w' => e = .returned (bV false) ∧ Mg w0 w' (.obj g (rC L p lg) :: T) := by
 have hd : decide ((L.drop p).take (tokN ((L.drop p).length + 1) (L.drop p)) = [46]) = false := hd0
 
 have M : Mg w0 w (.obj g (rC L p lg) :: T) := hM0
 refine qr (l := [(0, pA g 0)]) Tryz.func55 rfl Tryz.ntmps55 rfl rfl ?_
 intro Q hret hnorm hP a A
 refine wsk fun K1 hK1 => wrl (sda A λa A↦?_)
 refine qa (hK1 _ _ (wsk fun K2 hK2 => wrl (sdm A λa A↦?_)))
 refine sct A (ef rfl rfl) (qz (p := p) (L := L) (T := (T)) (by omega) M) ?_
 rintro _ w4 ⟨rfl, hM3⟩
 replace M : Mg w0 w4 (.obj g (rC L p lg) :: T) := hM3
 refine ⟨_, rfl, ?_⟩
 intro a A
 refine gcl A M (ef rfl rfl) (token_any (l := L.drop p) (hT.below M.bel) (by rw [List.length_drop]; omega)) fun w6 hb5 M a A => ?_
 refine sdo (v := bV false) A (qb rfl rfl (fun w => (qe (a := (L.drop p).take (tokN ((L.drop p).length + 1) (L.drop p))) (b := [46]) Tryz.underlying9 w).trans (by rw [hd] <;> rfl))) λa A↦?_
 refine sdm A λa A↦?_
 iterate 2 refine qg A rfl rfl rfl λa A↦?_
 refine sdk (v := bV false) A λa A↦?_
 refine sda A λa A↦?_
 refine qa (hK2 _ _ (wr1 hret A ?_))
 exact ⟨rfl, M⟩
end Go.Proofs.YtclkfideaameoaaGreatDoor.G
:= by
 have M : Mg w w ([]) := Mg.start w
 refine qr (l := [(0, iV 5)]) Tryz.func106 rfl Tryz.ntmps106 rfl rfl ?_
 intro Q hret hnorm hP a A
 refine wsk fun K1 hK1 => wrl (sda A λa A↦?_)
 refine qa (hK1 _ _ (wsk fun K2 hK2 => wrl (sdm A λa A↦?_)))
 refine sdo (v := iV 21) A (qb rfl rfl (ar_add rfl)) λa A↦?_
 refine sdo (v := iV 2) A (qb rfl rfl (ar_quo (by decide) (by decide))) λa A↦?_
 refine sda A λa A↦?_
 refine qa (hK2 _ _ (wr1 hret A ?_))
 exact ⟨rfl, M.bel⟩
theorem ju {w : World} : Calls Tryz.prog 106 #[iV 6] w fun e w' => e = .returned (iV 2) ∧ Below w.heap.size w w' := by
 have M : Mg w w ([]) := Mg.start w
 refine qr (l := [(0, iV 6)]) Tryz.func106 rfl Tryz.ntmps106 rfl rfl ?_
 intro Q hret hnorm hP a A
 refine wsk fun K1 hK1 => wrl (sda A λa A↦?_)
 refine qa (hK1 _ _ (wsk fun K2 hK2 => wrl (sdm A λa A↦?_)))
 refine sdo (v := iV 22) A (qb rfl rfl (ar_add rfl)) λa A↦?_
 refine sdo (v := iV 2) A (qb rfl rfl (ar_quo (by decide) (by decide))) λa A↦?_
 refine sda A λa A↦?_
 refine qa (hK2 _ _ (wr1 hret A ?_))
 exact ⟨rfl, M.bel⟩
theorem jv {w : World} : Calls Tryz.prog 106 #[iV 7] w fun e w' => e = .returned (iV 2) ∧ Below w.heap.size w w' := by
 have M : Mg w w ([]) := Mg.start w
 refine qr (l := [(0, iV 7)]) Tryz.func106 rfl Tryz.ntmps106 rfl rfl ?_
 intro Q hret hnorm hP a A
 refine wsk fun K1 hK1 => wrl (sda A λa A↦?_)
 refine qa (hK1 _ _ (wsk fun K2 hK2 => wrl (sdm A λa A↦?_)))
 refine sdo (v := iV 23) A (qb rfl rfl (ar_add rfl)) λa A↦?_
 refine sdo (v := iV 2) A (qb rfl rfl (ar_quo (by decide) (by decide))) λa A↦?_
 refine sda A λa A↦?_
 refine qa (hK2 _ _ (wr1 hret A ?_))
 exact ⟨rfl, M.bel⟩
def s7 : List UInt8 := [10, 13, 194, 133, 226, 128, 168]
theorem zj : s7.length = 7 := rfl
theorem jw {i k : Nat} (h1 : i < k) (h2 : k < 7) : s7.getD i 0 ≠ s7.getD k 0 := by
 have h : ∀ i k : Fin 7, i < k → s7.getD i 0 ≠ s7.getD k 0 := by decide
 exact h ⟨i, by omega⟩ ⟨k, h2⟩ h1
theorem zh {l : List UInt8} {i : Nat} (h : i < l.length) : l[i]? = some (l.getD i 0) := by
 rw [List.getD_eq_getElem?_getD, List.getElem?_eq_getElem h]; rfl
theorem zk {a b : UInt8} (h : ((a.toNat : Nat) : Int) = ((b.toNat : Nat) : Int)) : a = b := UInt8.toNat_inj.1 (by omega)
def atS (B : List UInt8) (k : Nat) : Prop := B.length - 1 ≤ k ∧ k < 7 ∧ ∀ t, t < B.length → s7.getD (k - t) 0 = B.getD (B.length - 1 - t) 0
theorem jx {B : List UInt8} {i : Nat} (hB : 2 ≤ B.length) (h : Lib.indexByte (s7.drop (i + 1)) (B.getD (B.length - 1) 0) = -1) (hn : s7.getD i 0 ≠ B.getD (B.length - 1) 0) (hlt : ∀ k, k < i → ¬ atS B k) : ∀ k, ¬ atS B k := fun k hk => by
 have h0 : s7.getD k 0 = B.getD (B.length - 1) 0 := hk.2.2 0 (by omega)
 have hk7 := hk.2.1
 by_cases h1 : k < i
 ·
  exact hlt k h1 hk
 by_cases h2 : k = i
 ·
  subst h2; exact hn h0
 refine Lib.indexByte_none h (k - (i + 1)) ?_
 rw [List.getElem?_drop, show i + 1 + (k - (i + 1)) = k by omega, zh (by rw [zj]; exact hk7), h0]
theorem jd {B : List UInt8} {i o : Nat} (hB : 2 ≤ B.length) (h : Lib.indexByte (s7.drop (i + 1)) (B.getD (B.length - 1) 0) = ((o : Nat) : Int)) (hn : s7.getD i 0 ≠ B.getD (B.length - 1) 0) (hlt : ∀ k, k < i → ¬ atS B k) : i + o + 1 < 7 ∧ s7.getD (i + o + 1) 0 = B.getD (B.length - 1) 0 ∧ ∀ k, k < i + o + 1 → ¬ atS B k := by
 obtain ⟨h1, h2⟩ := Lib.indexByte_some h
 rw [List.getElem?_drop, show i + 1 + o = i + o + 1 by omega] at h1
 obtain ⟨h3, h4⟩ := List.getElem?_eq_some_iff.1 h1
 rw [zj] at h3
 have h5 := h1
 rw [zh (by rw [zj]; exact h3)] at h5
 refine ⟨h3, Option.some.inj h5, fun k hk hs => ?_⟩
 have h0 : s7.getD k 0 = B.getD (B.length - 1) 0 := hs.2.2 0 (by omega)
 by_cases h6 : k < i
 ·
  exact hlt k h6 hs
 by_cases h7 : k = i
 ·
  subst h7; exact hn h0
 refine h2 (k - (i + 1)) (by omega) ?_
 rw [List.getElem?_drop, show i + 1 + (k - (i + 1)) = k by omega, zh (by rw [zj]; omega), h0]
theorem jj {w : World} {i : Nat} (h1 : 1 ≤ i) (h : i ≤ 7) : Calls Tryz.prog 106 #[iV ((i : Nat) : Int)] w fun e w' => e = .returned (iV 2) ∧ Below w.heap.size w w' := by
 match i, h1, h with
 | 1, _, _ => exact cut_1
 | 2, _, _ => exact cut_2
 | 3, _, _ => exact cut_3
 | 4, _, _ => exact cut_4
 | 5, _, _ => exact cut_5
 | 6, _, _ => exact ju
 | 7, _, _ => exact jv
theorem jk {w : World} {r : Int} {B : List UInt8} (h2 : 2 ≤ B.length) (h4 : B.length ≤ 4) (h0 : 128 ≤ r) (hne : r ≠ 65533) (hv : Lib.validRune r = true) (henc : Utf8.encode r = tx B) : Calls Tryz.prog 71 #[.string (tx s7), .int .i32 r] w fun e w' => ∃ v : Int, e = .returned (iV v) ∧ (0 ≤ v ∧ (∃ k, atS B k) ∨ v < 0 ∧ ∀ k, ¬ atS B k) ∧ Below w.heap.size w w' := by
 have hs7 := zj
 have M : Mg w w ([]) := Mg.start w
 refine qr (l := [(0, .string ((tx s7))), (1, .int .i32 r)]) Tryz.func71 rfl Tryz.ntmps71 rfl rfl ?_
 intro Q hret hnorm hP a A
 refine wsk fun K1 hK1 => wrl (sda A λa A↦?_)
 refine qa (hK1 _ _ (wp_block (wsk fun K2 hK2 => wrl (sdm A λa A↦?_))))
 refine sdo (v := bV true) A (qb rfl rfl (fun w => (qn w).trans (by rw [show (decide (0 ≤ r)) = true from (decide_eq_true (by omega))]))) λa A↦?_
 iterate 2 refine sdm A λa A↦?_
 refine sdo (v := bV false) A (qb rfl rfl (fun w => (qw w).trans (by rw [show (decide (r < 128)) = false from (decide_eq_false (by omega))]))) λa A↦?_
 refine sdk (v := bV false) A λa A↦?_
 refine sda A λa A↦?_
 refine qa (hK2 _ _ (cf A ?_))
 refine wsk fun K3 hK3 => wrl (sdm A λa A↦?_)
 refine sdo (v := bV false) A (qb rfl rfl (fun w => (ze w).trans (by rw [show ((r == 65533)) = false from (beq_eq_false_iff_ne.2 (by omega))]))) λa A↦?_
 refine sda A λa A↦?_
 refine qa (hK3 _ _ (cf A ?_))
 refine wsk fun K4 hK4 => wrl (sdm A λa A↦?_)
 refine gcl A M (ef rfl rfl) (vr_as hv) fun w6 hb5 M a A => ?_
 refine sdo (v := bV false) A (zm rfl zr) λa A↦?_
 refine sda A λa A↦?_
 refine qa (hK4 _ _ (cf A ?_))
 refine zn 1 rfl ?_
 refine wsk fun K7 hK7 => wrl (sdm A λa A↦?_)
 refine sdo (v := .string ((tx B))) A (jh rfl (fun w => (run_convert_int_string w _ _ .i32 r (by kernel_rfl) Tryz.underlying9).trans (by rw [henc]))) λa A↦?_
 refine sda A λa A↦?_
 refine qa (hK7 _ _ (wsk fun K8 hK8 => wrl (sdm A λa A↦?_)))
 refine sdo (v := iV (((B.length : Nat) : Int))) A (zg (s := B) Tryz.underlying9 rfl) λa A↦?_
 refine sdo (v := iV (((B.length - 1 : Nat) : Int))) A (qb rfl rfl (ar_sub ((in_i64 (by omega) (by omega)).trans (by omega)))) λa A↦?_
 refine sda A λa A↦?_
 refine qa (hK8 _ _ (wsk fun K9 hK9 => wrl (sdm A λa A↦?_)))
 refine sda A λa A↦?_
 refine qa (hK9 _ _ (wsk fun K10 hK10 => wrl (sda A λa A↦?_)))
 refine qa (hK10 _ _ (wsk fun K11 hK11 => wp_block (zl (fun m_ a w1 => ∃ (i : Nat) (f : Nat), m_ = 8 - i ∧ (B.length - 1 ≤ i ∧ i ≤ 7 ∧ (∀ k, k < i → ¬ atS B k) ∧ (f = 0 ∨ f = 1 ∧ ∀ k, i ≤ k → k < 7 → s7.getD k 0 ≠ B.getD (B.length - 1) 0)) ∧ Sl a 187 [(0, .string ((tx s7))), (1, .int .i32 r), (7, .string ((tx B))), (8, iV (((B.length - 1 : Nat) : Int))), (9, iV (((i : Nat) : Int))), (10, iV (((f : Nat) : Int))), (17, .int .i32 r), (18, .string ((tx B))), (19, .string ((tx B))), (20, iV (((B.length : Nat) : Int))), (21, iV (((B.length - 1 : Nat) : Int))), (22, iV (((B.length - 1 : Nat) : Int))), (160, bV false), (161, .int .i32 r), (162, bV true), (163, bV true), (164, .int .i32 r), (165, bV false), (166, bV false), (171, bV false), (172, .int .i32 r), (173, bV false), (183, bV false), (184, .int .i32 r), (185, bV true), (186, bV false)] ∧ Mg w w1 ([])) _ ⟨B.length - 1, 0, rfl, ⟨Nat.le_refl _, by omega, fun k hk hs => absurd hs.1 (by omega), .inl rfl⟩, A.keep _ (by repeat' constructor), M⟩ ?_)))
 clear M A
 rintro m_ a w12 ⟨i, f, rfl, hinv14, A, M⟩ K13 hK13
 obtain ⟨hi1, hi2, hi3, hi4⟩ := hinv14
 refine wsk fun K15 hK15 => wsk fun K16 hK16 => wrl ?_
 iterate 2 refine sdm A λa A↦?_
 refine sdo (v := iV (((s7.length : Nat) : Int))) A (zg (s := s7) Tryz.underlying9 rfl) λa A↦?_
 rcases tf (decide (((i : Nat) : Int) < ((s7.length : Nat) : Int))) with hb17 | hb17
 ·
  have hb17' := of_decide_eq_true hb17
  refine sdc A qw hb17 λa A↦?_
  refine qa (hK16 _ _ (ct A ?_))
  refine wp_skip (hK15 _ _ (wp_block (zn 0 rfl ?_)))
  refine wsk fun K18 hK18 => ?_
  have hJ19 : ∀ a w1, (∃ (q : Nat), (B.length - 1 ≤ q ∧ i ≤ q ∧ q < 7 ∧ s7.getD q 0 = B.getD (B.length - 1) 0 ∧ (∀ k, k < q → ¬ atS B k) ∧ f = 0) ∧ Sl a 187 [(0, .string ((tx s7))), (1, .int .i32 r), (7, .string ((tx B))), (8, iV (((B.length - 1 : Nat) : Int))), (9, iV (((q : Nat) : Int))), (10, iV (((f : Nat) : Int))), (17, .int .i32 r), (18, .string ((tx B))), (19, .string ((tx B))), (20, iV (((B.length : Nat) : Int))), (21, iV (((B.length - 1 : Nat) : Int))), (22, iV (((B.length - 1 : Nat) : Int))), (23, iV (((i : Nat) : Int))), (24, .string ((tx s7))), (25, iV (((s7.length : Nat) : Int))), (26, bV true), (160, bV false), (161, .int .i32 r), (162, bV true), (163, bV true), (164, .int .i32 r), (165, bV false), (166, bV false), (171, bV false), (172, .int .i32 r), (173, bV false), (183, bV false), (184, .int .i32 r), (185, bV true), (186, bV false)] ∧ Mg w w1 ([])) → K18 a w1 := by
   clear A M
   rintro a w20 ⟨q, hf21, A, M⟩
   obtain ⟨hq1, hqi, hq2, hq3, hq4, hf0⟩ := hf21
   refine hK18 _ _ (wsk fun K22 hK22 => wsk fun K23 hK23 => wrl (sda A λa A↦?_))
   refine qa (hK23 _ _ (wp_block (zl (fun m_ a w1 => ∃ (j : Nat), m_ = B.length - j ∧ (1 ≤ j ∧ j ≤ B.length ∧ ∀ t, t < j → s7.getD (q - t) 0 = B.getD (B.length - 1 - t) 0) ∧ Sl a 187 [(0, .string ((tx s7))), (1, .int .i32 r), (7, .string ((tx B))), (8, iV (((B.length - 1 : Nat) : Int))), (9, iV (((q : Nat) : Int))), (10, iV (((f : Nat) : Int))), (12, iV (((j : Nat) : Int))), (17, .int .i32 r), (18, .string ((tx B))), (19, .string ((tx B))), (20, iV (((B.length : Nat) : Int))), (21, iV (((B.length - 1 : Nat) : Int))), (22, iV (((B.length - 1 : Nat) : Int))), (23, iV (((i : Nat) : Int))), (24, .string ((tx s7))), (25, iV (((s7.length : Nat) : Int))), (26, bV true), (160, bV false), (161, .int .i32 r), (162, bV true), (163, bV true), (164, .int .i32 r), (165, bV false), (166, bV false), (171, bV false), (172, .int .i32 r), (173, bV false), (183, bV false), (184, .int .i32 r), (185, bV true), (186, bV false)] ∧ Mg w w1 ([])) _ ⟨1, rfl, ⟨Nat.le_refl _, by omega, fun t ht => by rw [show t = 0 by omega]; exact hq3⟩, A.keep _ (by repeat' constructor), M⟩ ?_)))
   clear M A
   rintro m_ a w24 ⟨j, rfl, hinv26, A, M⟩ K25 hK25
   obtain ⟨hj1, hj2, hj3⟩ := hinv26
   refine wsk fun K27 hK27 => wsk fun K28 hK28 => wrl ?_
   iterate 2 refine sdm A λa A↦?_
   refine sdo (v := iV (((B.length : Nat) : Int))) A (zg (s := B) Tryz.underlying9 rfl) λa A↦?_
   rcases tf (decide (((j : Nat) : Int) < ((B.length : Nat) : Int))) with hb29 | hb29
   ·
    have hb29' := of_decide_eq_true hb29
    refine sdc A qw hb29 λa A↦?_
    refine qa (hK28 _ _ (ct A ?_))
    refine wp_skip (hK27 _ _ (wsk fun K30 hK30 => wp_block (wsk fun K31 hK31 => zi (S := fun w1 => Mg w w1 ([])) (by kernel_rfl) ?_)))
    replace M := M.drew
    refine amv A 0 rfl hP (M.sub ns) λa A↦?_
    refine amv A 1 rfl hP (M.sub ns) λa A↦?_
    refine amv A 2 rfl hP (M.sub ns) λa A↦?_
    refine atk (v := iV (((q - j : Nat) : Int))) A 3 rfl hP (M.sub ns) (λ_ M↦qb rfl rfl (ar_sub ((in_i64 (by omega) (by omega)).trans (by omega)))) λa A↦?_
    refine atk (v := .int .u8 ((((s7.getD (q - j) 0).toNat : Nat) : Int))) A 4 rfl hP (M.sub ns) (λ_ M↦zb (s := s7) (i := q - j) (b := s7.getD (q - j) 0) Tryz.underlying9 rfl rfl rfl (zh (by omega))) λa A↦?_
    refine amv A 5 rfl hP (M.sub ns) λa A↦?_
    refine amv A 6 rfl hP (M.sub ns) λa A↦?_
    refine amv A 7 rfl hP (M.sub ns) λa A↦?_
    refine atk (v := iV (((B.length - 1 - j : Nat) : Int))) A 8 rfl hP (M.sub ns) (λ_ M↦qb rfl rfl (ar_sub ((in_i64 (by omega) (by omega)).trans (by omega)))) λa A↦?_
    refine atk (v := .int .u8 ((((B.getD (B.length - 1 - j) 0).toNat : Nat) : Int))) A 9 rfl hP (M.sub ns) (λ_ M↦zb (s := B) (i := B.length - 1 - j) (b := B.getD (B.length - 1 - j) 0) Tryz.underlying9 rfl rfl rfl (zh (by omega))) λa A↦?_
    rcases tf (((((s7.getD (q - j) 0).toNat : Nat) : Int) != (((B.getD (B.length - 1 - j) 0).toNat : Nat) : Int))) with hb32 | hb32
    ·
     have hb32' := bne_iff_ne.1 hb32
     refine atk (v := bV true) A 10 rfl hP (M.sub ns) (λ_ M↦qb rfl rfl (fun w => (za w).trans (by rw [hb32]))) λa A↦?_
     refine qy (by kernel_rfl) ?_
     refine hK31 _ _ (ct A ?_)
     refine wp_goto (And.intro rfl ?_)
     refine wsk fun K33 hK33 => wp_skip (hK33 _ _ (wsk fun K34 hK34 => wrl (sdm A λa A↦?_)))
     refine sdo (v := iV (((f + 1 : Nat) : Int))) A (qb rfl rfl (ar_add ((in_i64 (by omega) (by omega)).trans (by omega)))) λa A↦?_
     refine sda A λa A↦?_
     refine qa (hK34 _ _ (wsk fun K35 hK35 => wrl (sdm A λa A↦?_)))
     refine sdo (v := iV (((q + 1 : Nat) : Int))) A (qb rfl rfl (ar_add ((in_i64 (by omega) (by omega)).trans (by omega)))) λa A↦?_
     refine sda A λa A↦?_
     refine qa (hK35 _ _ (wsk fun K36 hK36 => wrl ?_))
     iterate 3 refine sdm A λa A↦?_
     refine gcl A M (ef rfl rfl) (jj (by omega) (by omega)) fun w38 hb37 M a A => ?_
     refine sdo (v := bV false) A (qb rfl rfl (fun w => (qx w).trans (by rw [show (decide (2 < ((f + 1 : Nat) : Int))) = false from (decide_eq_false (by omega))]))) λa A↦?_
     refine sdk (v := bV false) A λa A↦?_
     refine sdm A λa A↦?_
     iterate 4 refine qg A rfl rfl rfl λa A↦?_
     refine sdk (v := bV false) A λa A↦?_
     iterate 2 refine sdm A λa A↦?_
     iterate 5 refine qg A rfl rfl rfl λa A↦?_
     refine sdk (v := bV false) A λa A↦?_
     refine sdm A λa A↦?_
     iterate 4 refine qg A rfl rfl rfl λa A↦?_
     iterate 2 refine sdk (v := bV false) A λa A↦?_
     refine qa (hK36 _ _ (cf A ?_))
     refine wp_skip ?_
     refine hK13 _ _ _ (by omega) ⟨q + 1, f + 1, rfl, ⟨by omega, by omega, fun k hk hs => by by_cases h9 : k < q; exact hq4 k h9 hs; rw [show k = q by omega] at hs; exact bne_iff_ne.1 hb32 (by rw [hs.2.2 j (by omega)]), .inr ⟨by omega, fun k h8 h9 k9 => jw (i := q) (k := k) (by omega) h9 (hq3.trans k9.symm)⟩⟩, A.keep _ (by repeat' constructor), M⟩
    ·
     have hb32' := bne_eq_false_iff_eq.1 hb32
     refine atk (v := bV false) A 10 rfl hP (M.sub ns) (λ_ M↦qb rfl rfl (fun w => (za w).trans (by rw [hb32]))) λa A↦?_
     refine qy (by kernel_rfl) ?_
     refine hK31 _ _ (cf A ?_)
     refine wp_skip (hK30 _ _ (wrl (sdm A λa A↦?_)))
     refine sdo (v := iV (((j + 1 : Nat) : Int))) A (qb rfl rfl (ar_add ((in_i64 (by omega) (by omega)).trans (by omega)))) λa A↦?_
     refine sda A λa A↦?_
     refine qa ?_
     refine hK25 _ _ _ (by omega) ⟨j + 1, rfl, ⟨by omega, by omega, fun t ht => by by_cases h9 : t < j; exact hj3 t h9; rw [show t = j by omega]; exact zk (by simpa using hb32)⟩, A.keep _ (by repeat' constructor), M⟩
   ·
    have hb29' := of_decide_eq_false hb29
    refine sdc A qw hb29 λa A↦?_
    refine qa (hK28 _ _ (cf A ?_))
    refine wp_exit (hK22 _ _ (wsk fun K39 hK39 => wsk fun K40 hK40 => wrl ?_))
    iterate 2 refine sdm A λa A↦?_
    refine sdo (v := iV (((q - (B.length - 1) : Nat) : Int))) A (qb rfl rfl (ar_sub ((in_i64 (by omega) (by omega)).trans (by omega)))) λa A↦?_
    refine sda A λa A↦?_
    refine qa (hK40 _ _ (wr1 hret A ?_))
    exact ⟨_, rfl, .inl ⟨by omega, q, hq1, hq2, fun t ht => hj3 t (by have h9 := of_decide_eq_false hb29; omega)⟩, M.bel⟩
  refine wsk fun K41 hK41 => zi (S := fun w1 => Mg w w1 ([])) (by kernel_rfl) ?_
  replace M := M.drew
  refine amv A 0 rfl hP (M.sub ns) λa A↦?_
  refine amv A 1 rfl hP (M.sub ns) λa A↦?_
  refine atk (v := .int .u8 ((((s7.getD i 0).toNat : Nat) : Int))) A 2 rfl hP (M.sub ns) (λ_ M↦zb (s := s7) (i := i) (b := s7.getD i 0) Tryz.underlying9 rfl rfl rfl (zh (by omega))) λa A↦?_
  refine amv A 3 rfl hP (M.sub ns) λa A↦?_
  refine amv A 4 rfl hP (M.sub ns) λa A↦?_
  refine atk (v := .int .u8 ((((B.getD (B.length - 1) 0).toNat : Nat) : Int))) A 5 rfl hP (M.sub ns) (λ_ M↦zb (s := B) (i := B.length - 1) (b := B.getD (B.length - 1) 0) Tryz.underlying9 rfl rfl rfl (zh (by omega))) λa A↦?_
  rcases tf (((((s7.getD i 0).toNat : Nat) : Int) != (((B.getD (B.length - 1) 0).toNat : Nat) : Int))) with hb42 | hb42
  ·
   have hb42' := bne_iff_ne.1 hb42
   refine atk (v := bV true) A 6 rfl hP (M.sub ns) (λ_ M↦qb rfl rfl (fun w => (za w).trans (by rw [hb42]))) λa A↦?_
   refine qy (by kernel_rfl) ?_
   refine hK41 _ _ (ct A ?_)
   refine wsk fun K43 hK43 => zi (S := fun w1 => Mg w w1 ([])) (by kernel_rfl) ?_
   replace M := M.drew
   refine amv A 0 rfl hP (M.sub ns) λa A↦?_
   refine amv A 1 rfl hP (M.sub ns) λa A↦?_
   refine atk (v := iV (((i + 1 : Nat) : Int))) A 2 rfl hP (M.sub ns) (λ_ M↦qb rfl rfl (ar_add ((in_i64 (by omega) (by omega)).trans (by omega)))) λa A↦?_
   refine atk (v := .string ((tx (s7.drop (i + 1))))) A 3 rfl hP (M.sub ns) (λ_ M↦qs (s := s7) (p := i + 1) Tryz.underlying9 rfl rfl rfl (by omega)) λa A↦?_
   refine amv A 4 rfl hP (M.sub ns) λa A↦?_
   refine amv A 5 rfl hP (M.sub ns) λa A↦?_
   refine atk (v := .int .u8 ((((B.getD (B.length - 1) 0).toNat : Nat) : Int))) A 6 rfl hP (M.sub ns) (λ_ M↦zb (s := B) (i := B.length - 1) (b := B.getD (B.length - 1) 0) Tryz.underlying9 rfl rfl rfl (zh (by omega))) λa A↦?_
   rcases tf (decide (0 ≤ Lib.indexByte (s7.drop (i + 1)) (B.getD (B.length - 1) 0))) with hb45 | hb45
   ·
    have hb45' := of_decide_eq_true hb45
    obtain ⟨o, ho47⟩ := Int.eq_ofNat_of_zero_le (of_decide_eq_true hb45)
    have hoB := (jd h2 ho47 (fun k9 => bne_iff_ne.1 hb42 (by rw [k9])) hi3).1
    refine zv (by kernel_rfl) (ji A 7 rfl rfl rfl rfl (ef rfl rfl) (ib_as (l := s7.drop (i + 1)) (b := B.getD (B.length - 1) 0) ho47) ?_)
    rintro _ w48 ⟨rfl, hb46⟩
    replace M := M.call hb46
    refine ⟨_, rfl, (M.sub ns), ?_⟩
    intro a A
    refine atk A 8 rfl hP (M.sub ns) (λ_ M↦zd rfl) λa A↦?_
    refine qy (by kernel_rfl) ?_
    refine hK43 _ _ (wsk fun K49 hK49 => wsk fun K50 hK50 => wrl (sdm A λa A↦?_))
    refine sdo (v := bV false) A (qb rfl rfl (fun w => (qw w).trans (by rw [show (decide (((o : Nat) : Int) < 0)) = false from (decide_eq_false (by omega))]))) λa A↦?_
    refine qa (hK50 _ _ (cf A ?_))
    refine wp_skip (hK49 _ _ (wrl ?_))
    iterate 2 refine sdm A λa A↦?_
    refine sdo (v := iV (((o + 1 : Nat) : Int))) A (qb rfl rfl (ar_add ((in_i64 (by omega) (by omega)).trans (by omega)))) λa A↦?_
    refine sdo (v := iV (((i + o + 1 : Nat) : Int))) A (qb rfl rfl (ar_add ((in_i64 (by omega) (by omega)).trans (by omega)))) λa A↦?_
    refine sda A λa A↦?_
    refine qa ?_
    exact hJ19 _ _ ⟨i + o + 1, (by obtain ⟨y1, y2, y3⟩ := jd h2 ho47 (fun k9 => bne_iff_ne.1 hb42 (by rw [k9])) hi3; exact ⟨by omega, by omega, y1, y2, y3, hi4.elim id fun k => absurd y2 (k.2 _ (by omega) y1)⟩), A.keep _ (by repeat' constructor), M⟩
   ·
    have hb45' := of_decide_eq_false hb45
    have ho52 : Lib.indexByte (s7.drop (i + 1)) (B.getD (B.length - 1) 0) = -1 := by have h8 := Lib.indexByte_ge (s7.drop (i + 1)) (B.getD (B.length - 1) 0); have h9 := of_decide_eq_false hb45; omega
    refine zv (by kernel_rfl) (ji A 7 rfl rfl rfl rfl (ef rfl rfl) (ib_as (l := s7.drop (i + 1)) (b := B.getD (B.length - 1) 0) ho52) ?_)
    rintro _ w53 ⟨rfl, hb51⟩
    replace M := M.call hb51
    refine ⟨_, rfl, (M.sub ns), ?_⟩
    intro a A
    refine atk A 8 rfl hP (M.sub ns) (λ_ M↦zd rfl) λa A↦?_
    refine qy (by kernel_rfl) ?_
    refine hK43 _ _ (wsk fun K54 hK54 => wsk fun K55 hK55 => wrl (sdm A λa A↦?_))
    refine sdo (v := bV true) A dbK λa A↦?_
    refine qa (hK55 _ _ (ct A ?_))
    refine wsk fun K56 hK56 => wrl (sda A λa A↦?_)
    refine qa (hK56 _ _ (wr1 hret A ?_))
    exact ⟨_, rfl, .inr ⟨by decide, jx h2 ho52 (fun k9 => bne_iff_ne.1 hb42 (by rw [k9])) hi3⟩, M.bel⟩
  ·
   have hb42' := bne_eq_false_iff_eq.1 hb42
   refine atk (v := bV false) A 6 rfl hP (M.sub ns) (λ_ M↦qb rfl rfl (fun w => (za w).trans (by rw [hb42]))) λa A↦?_
   refine qy (by kernel_rfl) ?_
   refine hK41 _ _ (cf A ?_)
   refine wp_skip ?_
   exact hJ19 _ _ ⟨i, (by have y2 : s7.getD i 0 = B.getD (B.length - 1) 0 := zk (by simpa using hb42); exact ⟨hi1, Nat.le_refl _, by omega, y2, hi3, hi4.elim id fun k => absurd y2 (k.2 _ (Nat.le_refl _) (by omega))⟩), A.keep _ (by repeat' constructor), M⟩
 ·
  have hb17' := of_decide_eq_false hb17
  refine sdc A qw hb17 λa A↦?_
  refine qa (hK16 _ _ (cf A ?_))
  refine wp_exit (hK11 _ _ (wsk fun K57 hK57 => wsk fun K58 hK58 => wrl (sda A λa A↦?_)))
  refine qa (hK58 _ _ (wr1 hret A ?_))
  exact ⟨_, rfl, .inr ⟨by decide, fun k hk => hi3 k (by have h8 := hk.2.1; have h9 := of_decide_eq_false hb17; omega) hk⟩, M.bel⟩
theorem zp {w : World} {r : Int} {B : List UInt8} (h2 : 2 ≤ B.length) (h4 : B.length ≤ 4) (h0 : 128 ≤ r) (hne : r ≠ 65533) (hv : Lib.validRune r = true) (henc : Utf8.encode r = tx B) (hx : (∃ k, atS B k) ↔ ln7 r = true) : Calls Tryz.prog 71 #[.string (tx s7), .int .i32 r] w fun e w' => ∃ v : Int, e = .returned (iV v) ∧ decide (0 ≤ v) = ln7 r ∧ Below w.heap.size w w' := (jk h2 h4 h0 hne hv henc).mono fun e w' ⟨v, h1, h3, h5⟩ => by
 refine ⟨v, h1, ?_, h5⟩
 rcases h3 with ⟨h6, h7⟩ | ⟨h6, h7⟩
 ·
  rw [hx.1 h7]; exact decide_eq_true h6
 ·
  rw [show ln7 r = false from Bool.eq_false_iff.2 fun k => (hx.2 k).elim h7]; exact decide_eq_false (by omega)
theorem je {k : Nat} (h : k < 7) : k = 0 ∨ k = 1 ∨ k = 2 ∨ k = 3 ∨ k = 4 ∨ k = 5 ∨ k = 6 := by omega
theorem xe {r : Int} {b0 b1 : UInt8} (h0 : 128 ≤ r) (h1 : r ≤ 2047) (e0 : ((b0.toNat : Nat) : Int) = 192 + r / 64) (e1 : ((b1.toNat : Nat) : Int) = 128 + r % 64) : (∃ k, atS [b0, b1] k) ↔ ln7 r = true := by
 constructor
 ·
  rintro ⟨k, q1, q2, q3⟩
  have z1 : s7.getD k 0 = b1 := q3 0 (by simp)
  have z0 : s7.getD (k - 1) 0 = b0 := q3 1 (by simp)
  subst z1 z0
  apply decide_eq_true
  rcases je q2 with rfl | rfl | rfl | rfl | rfl | rfl | rfl <;> simp [s7] at e0 e1 <;> omega
 ·
  intro h
  have hr : r = 133 := by have := of_decide_eq_true h; omega
  subst hr
  obtain rfl : b0 = 194 := zk (e0.trans (by decide))
  obtain rfl : b1 = 133 := zk (e1.trans (by decide))
  exact ⟨3, by decide, by decide, by decide⟩
theorem xf {r : Int} {b0 b1 b2 : UInt8} (h0 : 2048 ≤ r) (h1 : r ≤ 65535) (e0 : ((b0.toNat : Nat) : Int) = 224 + r / 4096) (e1 : ((b1.toNat : Nat) : Int) = 128 + r / 64 % 64) (e2 : ((b2.toNat : Nat) : Int) = 128 + r % 64) : (∃ k, atS [b0, b1, b2] k) ↔ ln7 r = true := by
 constructor
 ·
  rintro ⟨k, q1, q2, q3⟩
  have z2 : s7.getD k 0 = b2 := q3 0 (by simp)
  have z1 : s7.getD (k - 1) 0 = b1 := q3 1 (by simp)
  have z0 : s7.getD (k - 2) 0 = b0 := q3 2 (by simp)
  subst z2 z1 z0
  apply decide_eq_true
  rcases je q2 with rfl | rfl | rfl | rfl | rfl | rfl | rfl <;> simp [s7] at e0 e1 e2 <;> omega
 ·
  intro h
  have hr : r = 8232 := by have := of_decide_eq_true h; omega
  subst hr
  obtain rfl : b0 = 226 := zk (e0.trans (by decide))
  obtain rfl : b1 = 128 := zk (e1.trans (by decide))
  obtain rfl : b2 = 168 := zk (e2.trans (by decide))
  exact ⟨6, by decide, by decide, by decide⟩
theorem xg {r : Int} {b0 b1 b2 b3 : UInt8} (h0 : 65536 ≤ r) (h1 : r ≤ 1114111) (e0 : ((b0.toNat : Nat) : Int) = 240 + r / 262144) : (∃ k, atS [b0, b1, b2, b3] k) ↔ ln7 r = true := by
 constructor
 ·
  rintro ⟨k, q1, q2, q3⟩
  have z0 : s7.getD (k - 3) 0 = b0 := q3 3 (by simp)
  subst z0
  exfalso
  rcases je q2 with rfl | rfl | rfl | rfl | rfl | rfl | rfl <;> simp [s7] at e0 <;> omega
 ·
  intro h
  have := of_decide_eq_true h
  omega
theorem jo {w : World} {r : Int} (h : C.OkR r) : Calls Tryz.prog 71 #[.string (tx [10, 13, 194, 133, 226, 128, 168]), .int .i32 r] w fun e w' => ∃ v : Int, e = .returned (iV v) ∧ decide (0 ≤ v) = ln7 r ∧ Below w.heap.size w w' := by
 by_cases h128 : r < 128
 ·
  have h0 : 0 ≤ r := by unfold C.OkR at h; omega
  refine (Tryz.strings_IndexRune_ascii (tx [10, 13, 194, 133, 226, 128, 168]) r w h0 h128).mono ?_
  rintro e w' ⟨rfl, rfl⟩
  have := C.ix7 r.toNat (by omega)
  rw [Int.toNat_of_nonneg h0] at this
  exact ⟨_, rfl, this, Below.refl _ _⟩
 ·
  by_cases he : r = 65533
  ·
   subst he
   refine (C.irune_err7 w).mono ?_
   rintro e w' ⟨rfl, hb⟩
   exact ⟨_, rfl, by decide, hb⟩
  ·
   have hv := h.valid
   unfold C.OkR at h
   by_cases h2 : r ≤ 2047
   ·
    exact zp (by simp) (by simp) (by omega) he hv (enc_tx hv (by unfold Lib.encodeRune; rw [Lib.encodeRuneZ_two (by omega) h2]; rfl)) (xe (by omega) h2 (byte_of (x := 192 + r / 64) (by omega) (by omega)) (byte_of (x := 128 + r % 64) (by omega) (by omega)))
   ·
    by_cases h3 : r ≤ 65535
    ·
     exact zp (by simp) (by simp) (by omega) he hv (enc_tx hv (by unfold Lib.encodeRune; rw [Lib.encodeRuneZ_three (by omega)]; rfl)) (xf (by omega) h3 (byte_of (x := 224 + r / 4096) (by omega) (by omega)) (byte_of (x := 128 + r / 64 % 64) (by omega) (by omega)) (byte_of (x := 128 + r % 64) (by omega) (by omega)))
    ·
     exact zp (by simp) (by simp) (by omega) he hv (enc_tx hv (by unfold Lib.encodeRune; rw [Lib.encodeRuneZ_four (by omega) (by omega)]; rfl)) (xg (by omega) (by omega) (byte_of (x := 240 + r / 262144) (by omega) (by omega)))
def lnX (l : List UInt8) : Nat := C.lnN l.length l
theorem zu {w : World} {l : List UInt8} (hl : l.length < 4294967281) : Calls Tryz.prog 51 #[.string (tx l), .string (tx [10, 13, 194, 133, 226, 128, 168])] w fun e w' => (∃ v : Int, e = .returned (iV v) ∧ (v = ((lnX l : Nat) : Int) ∧ lnX l < l.length ∨ v = -1 ∧ lnX l = l.length)) ∧ Below w.heap.size w w' := by
 have := C.iany7 (tx l) (fun r w h => jo h) w (by rw [jf]; exact hl)
 rwa [jf, xd] at this
theorem xh {w : World} {l : List UInt8} (hl : l.length < 4294967281) (h : decide (lnX l < l.length) = true) : Calls Tryz.prog 51 #[.string (tx l), .string (tx [10, 13, 194, 133, 226, 128, 168])] w fun e w' => e = .returned (iV ((lnX l : Nat) : Int)) ∧ Below w.heap.size w w' := (zu hl).mono fun e w' h1 => by
 obtain ⟨⟨v, rfl, h2 | h2⟩, hb⟩ := h1
 ·
  exact ⟨by rw [h2.1], hb⟩
 ·
  exact absurd (of_decide_eq_true h) (by omega)
theorem xi {w : World} {l : List UInt8} (hl : l.length < 4294967281) (h : decide (lnX l < l.length) = false) : Calls Tryz.prog 51 #[.string (tx l), .string (tx [10, 13, 194, 133, 226, 128, 168])] w fun e w' => e = .returned (iV (-1)) ∧ lnX l = l.length ∧ Below w.heap.size w w' := (zu hl).mono fun e w' h1 => by
 obtain ⟨⟨v, rfl, h2 | h2⟩, hb⟩ := h1
 ·
  exact absurd h2.2 (of_decide_eq_false h)
 ·
  exact ⟨by rw [h2.1], h2.2, hb⟩
end Go.Proofs.YtclkfideaameoaaGreatDoor.G
namespace Go.Proofs.YtclkfideaameoaaGreatDoor.G
open Go.RowKit
theorem jm {W : World} {s : ByteArray} {z : Int} (hE : Env W) (hs : s.size ≤ 140737488351232) (h0 : 0 ≤ z) (h1 : z ≤ 255) : Calls Tryz.prog 5 #[.string s, .int .u8 z] W fun e w' => e = .returned (bV true) ∧ Below W.heap.size W w' := by
 obtain ⟨k, rfl⟩ := Int.eq_ofNat_of_zero_le h0
 have h := blanks_any (L := s.data.toList) (k := k) hE (by rw [Array.length_toList]; exact Nat.le_trans hs (by decide)) (by omega)
 have e : tx s.data.toList = s := xj s
 rwa [e] at h
end Go.Proofs.YtclkfideaameoaaGreatDoor.G
namespace Go.Proofs.YtclkfideaameoaaGreatDoor.G
open Go.RowKit
set_option maxRecDepth 100000
theorem RdA_is1_3 : Is1 Tryz.prog 3 := ⟨⟨_, Tryz.underlying3, rfl⟩, by kernel_rfl⟩
theorem RdA_is1_9 : Is1 Tryz.prog 9 := ⟨⟨_, Tryz.underlying9, rfl⟩, by kernel_rfl⟩
theorem RdA_fld_50_0 : FieldAt Tryz.prog 50 0 0 := ⟨_, _, Tryz.underlying50, rfl, rfl, by kernel_rfl⟩
theorem RdA_fld_50_1 : FieldAt Tryz.prog 50 1 1 := ⟨_, _, Tryz.underlying50, rfl, rfl, by kernel_rfl⟩
def flt : List PanicEntry := [{ v := .iface 47 (.agg #[]), recovered := false }]
theorem zy {P : Program} {w : World} {l : List (Nat × Value)} {dst : Option Tmp} {ty t : TypeId} {pos : String} {after : Array Edge} {guard : Option (Nat × Bool)} {x : Operand} {v : Value} (ht : P.concrete t = true) (hx : ev l x = some v) : Does P l ⟨dst, .makeInterface t x, ty, pos, after, guard⟩ w (.iface t v) w := fun ρ h => by
 simp [execOp, h x _ hx, run_makeInterface w t v ht]
theorem jn {w : World} : Calls Tryz.prog 23 #[bV true] w fun e w' => e = .returned (.tuple #[]) ∧ Below w.heap.size w w' := by
 have M : Mg w w ([]) := Mg.start w
 refine qr (l := [(0, bV true)]) Tryz.func23 rfl Tryz.ntmps23 rfl rfl ?_
 intro Q hret hnorm hP a A
 refine wsk fun K1 hK1 => wrl (sdm A λa A↦?_)
 refine sdo (v := bV false) A (zm rfl zr) λa A↦?_
 refine qa (hK1 _ _ (cf A ?_))
 refine wp_skip (hnorm _ _ (xk (v := .tuple #[]) A rfl .nil rfl ?_))
 exact ⟨rfl, M.bel⟩
theorem zw {w : World} : Calls Tryz.prog 23 #[bV false] w fun e w' => e = .panicked flt ∧ Below w.heap.size w w' := by
 have M : Mg w w ([]) := Mg.start w
 refine zx (l := [(0, bV false)]) Tryz.func23 rfl Tryz.ntmps23 rfl rfl ?_
 intro Q hret hnorm hP hX a A
 refine wsk fun K1 hK1 => wrl (sdm A λa A↦?_)
 refine sdo (v := bV true) A (zm rfl zr) λa A↦?_
 refine qa (hK1 _ _ (ct A ?_))
 refine wrl (sdo (v := .agg #[]) A (jl rfl (fun w => by kernel_rfl)) λa A↦?_)
 refine sdo (v := .iface 47 (.agg #[])) A (zy (by kernel_rfl) rfl) λa A↦?_
 refine jp (v := .iface 47 (.agg #[])) A rfl (fun ρ h => by simp only [execOp, h (.tmp 5) _ rfl]; rfl) ?_
 exact hX _ _ _ _ _ A ⟨rfl, M.bel⟩
theorem qz {w0 w : World} {g p : Nat} {lg : Bool} {L : List UInt8} {T : List Ck} (hp : p ≤ L.length) (hM0 : Mg w0 w (.obj g (rC L p lg) :: T)) : Calls Tryz.prog 21 #[pA g 0] w fun e w' => e = .returned (.string (tx (L.drop p))) ∧ Mg w0 w' (.obj g (rC L p lg) :: T) := by
 have M : Mg w0 w (.obj g (rC L p lg) :: T) := hM0
 refine qr (l := [(0, pA g 0)]) Tryz.func21 rfl Tryz.ntmps21 rfl rfl ?_
 intro Q hret hnorm hP a A
 refine wsk fun K1 hK1 => wrl (sda A λa A↦?_)
 refine qa (hK1 _ _ (wsk fun K2 hK2 => zi (S := fun w1 => Mg w0 w1 (.obj g (rC L p lg) :: [])) (by kernel_rfl) ?_))
 replace M := M.drew
 refine amv A 0 rfl hP (M.sub (cc ns)) λa A↦?_
 refine atk A 1 rfl hP (M.sub (cc ns)) (λ_ M↦zf rfl) λa A↦?_
 refine atk (v := pA g 0) A 2 rfl hP (M.sub (cc ns)) (λ_ M↦qj RdA_fld_50_0 rfl rfl) λa A↦?_
 refine atk A 3 rfl hP (M.sub (cc ns)) (λ_ M↦zt M RdA_is1_9 rfl 0 rfl rfl) λa A↦?_
 refine amv A 4 rfl hP (M.sub (cc ns)) λa A↦?_
 refine atk A 5 rfl hP (M.sub (cc ns)) (λ_ M↦zf rfl) λa A↦?_
 refine atk (v := pA g 1) A 6 rfl hP (M.sub (cc ns)) (λ_ M↦qj RdA_fld_50_1 rfl rfl) λa A↦?_
 refine atk A 7 rfl hP (M.sub (cc ns)) (λ_ M↦zt M RdA_is1_3 rfl 0 rfl rfl) λa A↦?_
 refine atk (v := .string ((tx (L.drop p)))) A 8 rfl hP (M.sub (cc ns)) (λ_ M↦qs (s := L) (p := p) Tryz.underlying9 rfl rfl rfl (by omega)) λa A↦?_
 refine atk A 9 rfl hP (M.sub (cc ns)) (λ_ M↦zd rfl) λa A↦?_
 refine qy (by kernel_rfl) ?_
 refine hK2 _ _ (wr1 hret A ?_)
 exact ⟨rfl, M⟩
end Go.Proofs.YtclkfideaameoaaGreatDoor.G
∧ Mg w0 w' (.obj g (rC L p lg) :: T) := by
 have M : Mg w0 w (.obj g (rC L p lg) :: T) := hM0
 refine qr (l := [(0, pA g 0), (1, .string ((tx t)))]) Tryz.func32 rfl Tryz.ntmps32 rfl rfl ?_
 intro Q hret hnorm hP a A
 refine wsk fun K1 hK1 => wrl (sda A λa A↦?_)
 refine qa (hK1 _ _ (wsk fun K2 hK2 => wsk fun K3 hK3 => wrl (sdm A λa A↦?_)))
 refine sct A (ef rfl rfl) (qz (p := p) (L := L) (T := (T)) (by omega) M) ?_
 rintro _ w5 ⟨rfl, hM4⟩
 replace M : Mg w0 w5 (.obj g (rC L p lg) :: T) := hM4
 refine ⟨_, rfl, ?_⟩
 intro a A
 refine sdm A λa A↦?_
 refine gcl A M (ef rfl rfl) ((hp_as hh)) fun w7 hb6 M a A => ?_
 refine sdo (v := bV true) A (zm rfl zr) λa A↦?_
 refine qa (hK3 _ _ (ct A ?_))
 refine wsk fun K8 hK8 => wrl (sda A λa A↦?_)
 refine qa (hK8 _ _ (wr1 hret A ?_))
 exact ⟨rfl, M⟩
theorem xa {w0 w : World} {g p : Nat} {lg : Bool} {L : List UInt8} {T : List Ck} (hT : Tb w0) (hp : p ≤ L.length) (hl : L.length ≤ 1000000000) (hne : L.drop p ≠ []) (hM0 : Mg w0 w (.obj g (rC L p lg) :: T)) : Calls Tryz.prog 53 #[pA g 0] w fun e w' => e = .returned (.int .i32 (((dcX (L.drop p)).1 : Nat) : Int)) ∧ Mg w0 w' (.obj g (rC L (p + (dcX (L.drop p)).2) lg) :: T) := by
 obtain ⟨hw1, hw2⟩ := dcX_wide hne
 rw [List.length_drop] at hw2
 have M : Mg w0 w (.obj g (rC L p lg) :: T) := hM0
 refine qr (l := [(0, pA g 0)]) Tryz.func53 rfl Tryz.ntmps53 rfl rfl ?_
 intro Q hret hnorm hP a A
 refine wsk fun K1 hK1 => wrl (sda A λa A↦?_)
 refine qa (hK1 _ _ (wsk fun K2 hK2 => wrl (sdm A λa A↦?_)))
 refine sct A (ef rfl rfl) (qz (p := p) (L := L) (T := (T)) (by omega) M) ?_
 rintro _ w4 ⟨rfl, hM3⟩
 replace M : Mg w0 w4 (.obj g (rC L p lg) :: T) := hM3
 refine ⟨_, rfl, ?_⟩
 intro a A
 refine gcl A M (ef rfl rfl) (dc_any (l := L.drop p) (hT.below M.bel)) fun w6 hb5 M a A => ?_
 refine sdm A λa A↦?_
 iterate 2 refine sdo A (qp (vs := [.int .i32 ((((dcX (L.drop p)).1 : Nat) : Int)), iV ((((dcX (L.drop p)).2 : Nat) : Int))]) rfl rfl) λa A↦?_
 iterate 2 refine sda A λa A↦?_
 refine qa (hK2 _ _ (wsk fun K7 hK7 => wrl (sdm A λa A↦?_)))
 refine sdo (v := bV true) A (qb rfl rfl (fun w => (qx w).trans (by rw [show (decide (0 < (((dcX (L.drop p)).2 : Nat) : Int))) = true from (decide_eq_true (by omega))]))) λa A↦?_
 refine gcl A M (ef rfl rfl) (jn) fun w9 hb8 M a A => ?_
 refine qa (hK7 _ _ (wsk fun K10 hK10 => wrl (sdm A λa A↦?_)))
 refine sdo A (zf rfl) λa A↦?_
 refine sdo (v := pA g 1) A (qj RdB_fld_50_1 rfl rfl) λa A↦?_
 refine sdo A (zt M RdB_is1_3 rfl 0 rfl rfl) λa A↦?_
 refine sdm A λa A↦?_
 refine sdo (v := iV (((p + (dcX (L.drop p)).2 : Nat) : Int))) A (qb rfl rfl (ar_add ((in_i64 (by omega) (by omega)).trans (by omega)))) λa A↦?_
 refine sdo A (zf rfl) λa A↦?_
 refine sdo (v := pA g 1) A (qj RdB_fld_50_1 rfl rfl) λa A↦?_
 refine jz (L' := (.obj g (rC L (p + (dcX (L.drop p)).2) lg) :: T)) A M rfl rfl (jy rfl rfl rfl (by kernel_rfl) M 0 rfl rfl rfl) 0 rfl rfl rfl ?_
 intro w11 M
 refine qa (hK10 _ _ (wsk fun K12 hK12 => wrl (sdm A λa A↦?_)))
 refine sda A λa A↦?_
 refine qa (hK12 _ _ (wr1 hret A ?_))
 exact ⟨rfl, M⟩
theorem jt {w0 w : World} {g p : Nat} {lg : Bool} {L : List UInt8} {T : List Ck} (hT : Tb w0) (hp : p ≤ L.length) (hl : L.length ≤ 1000000000) (hne : L.drop p = []) (hM0 : Mg w0 w (.obj g (rC L p lg) :: T)) : Calls Tryz.prog 53 #[pA g 0] w fun e w' => e = .panicked flt ∧ Mg w0 w' (.obj g (rC L p lg) :: T) := by
 have hw1 : (dcX (L.drop p)).2 = 0 := by rw [hne]; rfl
 have M : Mg w0 w (.obj g (rC L p lg) :: T) := hM0
 refine zx (l := [(0, pA g 0)]) Tryz.func53 rfl Tryz.ntmps53 rfl rfl ?_
 intro Q hret hnorm hP hX a A
 refine wsk fun K1 hK1 => wrl (sda A λa A↦?_)
 refine qa (hK1 _ _ (wsk fun K2 hK2 => wrl (sdm A λa A↦?_)))
 refine sct A (ef rfl rfl) (qz (p := p) (L := L) (T := (T)) (by omega) M) ?_
 rintro _ w4 ⟨rfl, hM3⟩
 replace M : Mg w0 w4 (.obj g (rC L p lg) :: T) := hM3
 refine ⟨_, rfl, ?_⟩
 intro a A
 refine gcl A M (ef rfl rfl) (dc_any (l := L.drop p) (hT.below M.bel)) fun w6 hb5 M a A => ?_
 refine sdm A λa A↦?_
 iterate 2 refine sdo A (qp (vs := [.int .i32 ((((dcX (L.drop p)).1 : Nat) : Int)), iV ((((dcX (L.drop p)).2 : Nat) : Int))]) rfl rfl) λa A↦?_
 iterate 2 refine sda A λa A↦?_
 refine qa (hK2 _ _ (wsk fun K7 hK7 => wrl (sdm A λa A↦?_)))
 refine sdo (v := bV false) A (qb rfl rfl (fun w => (qx w).trans (by rw [show (decide (0 < (((dcX (L.drop p)).2 : Nat) : Int))) = false from (decide_eq_false (by omega))]))) λa A↦?_
 refine zq A rfl rfl rfl (ef rfl rfl) (zw) ?_
 rintro _ w9 ⟨rfl, hp10⟩
 exact .inl ⟨_, rfl, hX _ _ _ _ _ A (⟨rfl, M.call hp10⟩)⟩
end Go.Proofs.YtclkfideaameoaaGreatDoor.G
true) A λa A↦?_
     refine sda A λa A↦?_
     refine qa (hK2 _ _ (wr1 hret A ?_))
     exact ⟨by unfold isHx; rw [hb3, hb4, hb5, hb6]; rfl, M.bel⟩
    ·
     have hb6' := of_decide_eq_false hb6
     refine sdc A qn hb6 λa A↦?_
     iterate 2 refine sdk (v := bV false) A λa A↦?_
     iterate 2 refine sdm A λa A↦?_
     rcases tf (decide (65 ≤ ((b.toNat : Nat) : Int))) with hb7 | hb7
     ·
      have hb7' := of_decide_eq_true hb7
      refine sdc A ql hb7 λa A↦?_
      iterate 2 refine sdm A λa A↦?_
      rcases tf (decide (((b.toNat : Nat) : Int) ≤ 70)) with hb8 | hb8
      ·
       have hb8' := of_decide_eq_true hb8
       refine sdc A qn hb8 λa A↦?_
       iterate 2 refine sdk (v := bV true) A λa A↦?_
       refine sda A λa A↦?_
       refine qa (hK2 _ _ (wr1 hret A ?_))
       exact ⟨by unfold isHx; rw [hb3, hb4, hb5, hb6, hb7, hb8]; rfl, M.bel⟩
      ·
       have hb8' := of_decide_eq_false hb8
       refine sdc A qn hb8 λa A↦?_
       iterate 2 refine sdk (v := bV false) A λa A↦?_
       refine sda A λa A↦?_
       refine qa (hK2 _ _ (wr1 hret A ?_))
       exact ⟨by unfold isHx; rw [hb3, hb4, hb5, hb6, hb7, hb8]; rfl, M.bel⟩
     ·
      have hb7' := of_decide_eq_false hb7
      refine sdc A ql hb7 λa A↦?_
      refine sdm A λa A↦?_
      iterate 2 refine qg A rfl rfl rfl λa A↦?_
      iterate 2 refine sdk (v := bV false) A λa A↦?_
      refine sda A λa A↦?_
      refine qa (hK2 _ _ (wr1 hret A ?_))
      exact ⟨by unfold isHx; rw [hb3, hb4, hb5, hb6, hb7]; rfl, M.bel⟩
   ·
    have hb5' := of_decide_eq_false hb5
    refine sdc A ql hb5 λa A↦?_
    refine sdm A λa A↦?_
    iterate 2 refine qg A rfl rfl rfl λa A↦?_
    iterate 2 refine sdk (v := bV false) A λa A↦?_
    iterate 2 refine sdm A λa A↦?_
    rcases tf (decide (65 ≤ ((b.toNat : Nat) : Int))) with hb9 | hb9
    ·
     have hb9' := of_decide_eq_true hb9
     refine sdc A ql hb9 λa A↦?_
     iterate 2 refine sdm A λa A↦?_
     rcases tf (decide (((b.toNat : Nat) : Int) ≤ 70)) with hb10 | hb10
     ·
      have hb10' := of_decide_eq_true hb10
      refine sdc A qn hb10 λa A↦?_
      iterate 2 refine sdk (v := bV true) A λa A↦?_
      refine sda A λa A↦?_
      refine qa (hK2 _ _ (wr1 hret A ?_))
      exact ⟨by unfold isHx; rw [hb3, hb4, hb5, hb9, hb10]; rfl, M.bel⟩
     ·
      have hb10' := of_decide_eq_false hb10
      refine sdc A qn hb10 λa A↦?_
      iterate 2 refine sdk (v := bV false) A λa A↦?_
      refine sda A λa A↦?_
      refine qa (hK2 _ _ (wr1 hret A ?_))
      exact ⟨by unfold isHx; rw [hb3, hb4, hb5, hb9, hb10]; rfl, M.bel⟩
    ·
     have hb9' := of_decide_eq_false hb9
     refine sdc A ql hb9 λa A↦?_
     refine sdm A λa A↦?_
     iterate 2 refine qg A rfl rfl rfl λa A↦?_
     iterate 2 refine sdk (v := bV false) A λa A↦?_
     refine sda A λa A↦?_
     refine qa (hK2 _ _ (wr1 hret A ?_))
     exact ⟨by unfold isHx; rw [hb3, hb4, hb5, hb9]; rfl, M.bel⟩
 ·
  have hb3' := of_decide_eq_false hb3
  refine sdc A ql hb3 λa A↦?_
  refine sdm A λa A↦?_
  iterate 2 refine qg A rfl rfl rfl λa A↦?_
  refine sdk (v := bV false) A λa A↦?_
  iterate 2 refine sdm A λa A↦?_
  rcases tf (decide (97 ≤ ((b.toNat : Nat) : Int))) with hb11 | hb11
  ·
   have hb11' := of_decide_eq_true hb11
   refine sdc A ql hb11 λa A↦?_
   iterate 2 refine sdm A λa A↦?_
   rcases tf (decide (((b.toNat : Nat) : Int) ≤ 102)) with hb12 | hb12
   ·
    have hb12' := of_decide_eq_true hb12
    refine sdc A qn hb12 λa A↦?_
    iterate 2 refine sdk (v := bV true) A λa A↦?_
    refine sdm A λa A↦?_
    iterate 3 refine qg A rfl rfl rfl λa A↦?_
    iterate 2 refine jq A rfl rfl rfl λa A↦?_
    refine qg A rfl rfl rfl λa A↦?_
    refine sdk (v := bV true) A λa A↦?_
    refine sda A λa A↦?_
    refine qa (hK2 _ _ (wr1 hret A ?_))
    exact ⟨by unfold isHx; rw [hb3, hb11, hb12]; rfl, M.bel⟩
   ·
    have hb12' := of_decide_eq_false hb12
    refine sdc A qn hb12 λa A↦?_
    iterate 2 refine sdk (v := bV false) A λa A↦?_
    iterate 2 refine sdm A λa A↦?_
    rcases tf (decide (65 ≤ ((b.toNat : Nat) : Int))) with hb13 | hb13
    ·
     have hb13' := of_decide_eq_true hb13
     refine sdc A ql hb13 λa A↦?_
     iterate 2 refine sdm A λa A↦?_
     rcases tf (decide (((b.toNat : Nat) : Int) ≤ 70)) with hb14 | hb14
     ·
      have hb14' := of_decide_eq_true hb14
      refine sdc A qn hb14 λa A↦?_
      iterate 2 refine sdk (v := bV true) A λa A↦?_
      refine sda A λa A↦?_
      refine qa (hK2 _ _ (wr1 hret A ?_))
      exact ⟨by unfold isHx; rw [hb3, hb11, hb12, hb13, hb14]; rfl, M.bel⟩
     ·
      have hb14' := of_decide_eq_false hb14
      refine sdc A qn hb14 λa A↦?_
      iterate 2 refine sdk (v := bV false) A λa A↦?_
      refine sda A λa A↦?_
      refine qa (hK2 _ _ (wr1 hret A ?_))
      exact ⟨by unfold isHx; rw [hb3, hb11, hb12, hb13, hb14]; rfl, M.bel⟩
    ·
     have hb13' := of_decide_eq_false hb13
     refine sdc A ql hb13 λa A↦?_
     refine sdm A λa A↦?_
     iterate 2 refine qg A rfl rfl rfl λa A↦?_
     iterate 2 refine sdk (v := bV false) A λa A↦?_
     refine sda A λa A↦?_
     refine qa (hK2 _ _ (wr1 hret A ?_))
     exact ⟨by unfold isHx; rw [hb3, hb11, hb12, hb13]; rfl, M.bel⟩
  ·
   have hb11' := of_decide_eq_false hb11
   refine sdc A ql hb11 λa A↦?_
   refine sdm A λa A↦?_
   iterate 2 refine qg A rfl rfl rfl λa A↦?_
   iterate 2 refine sdk (v := bV false) A λa A↦?_
   iterate 2 refine sdm A λa A↦?_
   rcases tf (decide (65 ≤ ((b.toNat : Nat) : Int))) with hb15 | hb15
   ·
    have hb15' := of_decide_eq_true hb15
    refine sdc A ql hb15 λa A↦?_
    iterate 2 refine sdm A λa A↦?_
    rcases tf (decide (((b.toNat : Nat) : Int) ≤ 70)) with hb16 | hb16
    ·
     have hb16' := of_decide_eq_true hb16
     refine sdc A qn hb16 λa A↦?_
     iterate 2 refine sdk (v := bV true) A λa A↦?_
     refine sda A λa A↦?_
     refine qa (hK2 _ _ (wr1 hret A ?_))
     exact ⟨by unfold isHx; rw [hb3, hb11, hb15, hb16]; rfl, M.bel⟩
    ·
     have hb16' := of_decide_eq_false hb16
     refine sdc A qn hb16 λa A↦?_
     iterate 2 refine sdk (v := bV false) A λa A↦?_
     refine sda A λa A↦?_
     refine qa (hK2 _ _ (wr1 hret A ?_))
     exact ⟨by unfold isHx; rw [hb3, hb11, hb15, hb16]; rfl, M.bel⟩
   ·
    have hb15' := of_decide_eq_false hb15
    refine sdc A ql hb15 λa A↦?_
    refine sdm A λa A↦?_
    iterate 2 refine qg A rfl rfl rfl λa A↦?_
    iterate 2 refine sdk (v := bV false) A λa A↦?_
    refine sda A λa A↦?_
    refine qa (hK2 _ _ (wr1 hret A ?_))
    exact ⟨by unfold isHx; rw [hb3, hb11, hb15]; rfl, M.bel⟩
theorem jb {w : World} {b : UInt8} {c : Bool} (h : isHx b = c) : Calls Tryz.prog 116 #[.int .u8 ((b.toNat : Nat) : Int)] w fun e w' => e = .returned (bV c) ∧ Below w.heap.size w w' := h ▸ hex_any
theorem jc {w : World} {l : List UInt8} (hT : Tb w) (hl : l.length ≤ 1000000000) : Calls Tryz.prog 86 #[.string (tx l)] w fun e w' => e = .returned (iV ((tiedN l : Nat) : Int)) ∧ Below w.heap.size w w' := by
 have M : Mg w w ([]) := Mg.start w
 refine qr (l := [(0, .string ((tx l)))]) Tryz.func86 rfl Tryz.ntmps86 rfl rfl ?_
 intro Q hret hnorm hP a A
 refine wsk fun K1 hK1 => wrl (sda A λa A↦?_)
 refine qa (hK1 _ _ (wsk fun K2 hK2 => wrl (sdm A λa A↦?_)))
 refine sct A (ef rfl rfl) (dc_any (l := l) (hT.below M.bel)) ?_
 rintro _ w4 ⟨rfl, hb3⟩
 obtain ⟨q, hq⟩ : ∃ q, (dcX l).2 = q := ⟨_, rfl⟩
 have hql := dcX_le l
 rw [hq] at hql ⊢
 replace M := M.call hb3
 refine ⟨_, rfl, ?_⟩
 intro a A
 refine sdm A λa A↦?_
 iterate 2 refine sdo A (qp (vs := [.int .i32 ((((dcX l).1 : Nat) : Int)), iV (((q : Nat) : Int))]) rfl rfl) λa A↦?_
 iterate 2 refine sda A λa A↦?_
 refine qa (hK2 _ _ (wsk fun K5 hK5 => wrl (sda A λa A↦?_)))
 refine qa (hK5 _ _ (wsk fun K6 hK6 => wp_block (zl (fun m_ a w1 => ∃ (j : Nat), m_ = 1 + (l.length - (q + j)) ∧ (q + j ≤ l.length ∧ hxN (l.drop q) = j + hxN (l.drop (q + j))) ∧ Sl a 41 [(0, .string ((tx l))), (2, iV 0), (3, .int .i32 ((((dcX l).1 : Nat) : Int))), (4, iV (((q : Nat) : Int))), (5, iV (((j : Nat) : Int))), (6, .tuple #[.int .i32 ((((dcX l).1 : Nat) : Int)), iV (((q : Nat) : Int))]), (7, .string ((tx l))), (8, .tuple #[.int .i32 ((((dcX l).1 : Nat) : Int)), iV (((q : Nat) : Int))]), (9, .int .i32 ((((dcX l).1 : Nat) : Int))), (10, iV (((q : Nat) : Int)))] ∧ Mg w w1 ([])) _ ⟨0, rfl, ⟨by omega, by rw [Nat.zero_add, Nat.add_zero]⟩, A.keep _ (by repeat' constructor), M⟩ ?_)))
 clear M A
 rintro m_ a w7 ⟨j, rfl, hinv9, A, M⟩ K8 hK8
 obtain ⟨hj0, hj⟩ := hinv9
 refine wsk fun K10 hK10 => wsk fun K11 hK11 => wrl ?_
 iterate 2 refine sdm A λa A↦?_
 refine sdo (v := iV (((q + j : Nat) : Int))) A (qb rfl rfl (ar_add ((in_i64 (by omega) (by omega)).trans (by omega)))) λa A↦?_
 refine sdm A λa A↦?_
 refine sdo (v := iV (((l.length : Nat) : Int))) A (zg (s := l) Tryz.underlying9 rfl) λa A↦?_
 rcases tf (decide (((q + j : Nat) : Int) < ((l.length : Nat) : Int))) with hb12 | hb12
 ·
  have hb12' := of_decide_eq_true hb12
  refine sdc A qw hb12 λa A↦?_
  iterate 4 refine sdm A λa A↦?_
  refine sdo (v := iV (((q + j : Nat) : Int))) A (qb rfl rfl (ar_add ((in_i64 (by omega) (by omega)).trans (by omega)))) λa A↦?_
  obtain ⟨b13, hb14⟩ : ∃ b, l[q + j]? = some b := ⟨_, List.getElem?_eq_getElem (show q + j < l.length by omega)⟩
  refine sdo (v := .int .u8 (((b13.toNat : Nat) : Int))) A (zb (s := l) (i := q + j) Tryz.underlying9 rfl rfl rfl hb14) λa A↦?_
  rcases tf (isHx b13) with hb15 | hb15
  ·
   refine gcl A M (ef rfl rfl) ((jb hb15)) fun w17 hb16 M a A => ?_
   refine sdk (v := bV true) A λa A↦?_
   refine qa (hK11 _ _ (ct A ?_))
   refine wp_skip (hK10 _ _ (wp_block (wrl (sdm A λa A↦?_))))
   refine sdo (v := iV (((j + 1 : Nat) : Int))) A (qb rfl rfl (ar_add ((in_i64 (by omega) (by omega)).trans (by omega)))) λa A↦?_
   refine sda A λa A↦?_
   refine qa ?_
   refine hK8 _ _ _ (by omega) ⟨j + 1, rfl, ⟨by omega, by rw [hj, hxN_hit hb14 hb15, Nat.add_assoc]; omega⟩, A.keep _ (by repeat' constructor), M⟩
  ·
   refine gcl A M (ef rfl rfl) ((jb hb15)) fun w19 hb18 M a A => ?_
   refine sdk (v := bV false) A λa A↦?_
   refine qa (hK11 _ _ (cf A ?_))
   refine wp_exit (hK6 _ _ (wsk fun K20 hK20 => wrl ?_))
   iterate 2 refine sdm A λa A↦?_
   refine sdo (v := iV (((q + j : Nat) : Int))) A (qb rfl rfl (ar_add ((in_i64 (by omega) (by omega)).trans (by omega)))) λa A↦?_
   refine sda A λa A↦?_
   refine qa (hK20 _ _ (wsk fun K21 hK21 => wsk fun K22 hK22 => wrl (sdm A λa A↦?_)))
   rcases tf (decide (0 < ((j : Nat) : Int))) with hb23 | hb23
   ·
    have hb23' := of_decide_eq_true hb23
    refine sdc A qx hb23 λa A↦?_
    iterate 3 refine sdm A λa A↦?_
    refine sdo (v := .string ((tx (l.drop (q + j))))) A (qs (s := l) (p := q + j) Tryz.underlying9 rfl rfl rfl (by omega)) λa A↦?_
    rcases tf (Lib.hasPrefix (l.drop (q + j)) [59]) with hb24 | hb24
    ·
     refine gcl A M (ef rfl rfl) ((hp_as hb24)) fun w26 hb25 M a A => ?_
     refine sdk (v := bV true) A λa A↦?_
     refine qa (hK22 _ _ (ct A ?_))
     refine wrl (sdm A λa A↦?_)
     refine sdo (v := iV (((q + j + 1 : Nat) : Int))) A (qb rfl rfl (ar_add ((in_i64 (by omega) (by omega)).trans (by omega)))) λa A↦?_
     refine sda A λa A↦?_
     refine qa (hK21 _ _ (wsk fun K27 hK27 => wrl (sdm A λa A↦?_)))
     refine sda A λa A↦?_
     refine qa (hK27 _ _ (wr1 hret A ?_))
     have hz : hxN (l.drop (q + j)) = 0 := by first | exact hxN_not (by assumption) (by assumption) | exact hxN_end (by omega)
     have hjj : hxN (l.drop q) = j := by omega
     exact ⟨by unfold tiedN; rw [hq, hjj, hb24, if_pos (by rw [decide_eq_true (by omega)]; rfl)], M.bel⟩
    ·
     refine gcl A M (ef rfl rfl) ((hp_as hb24)) fun w29 hb28 M a A => ?_
     refine sdk (v := bV false) A λa A↦?_
     refine qa (hK22 _ _ (cf A ?_))
     refine wp_skip (hK21 _ _ (wsk fun K30 hK30 => wrl (sdm A λa A↦?_)))
     refine sda A λa A↦?_
     refine qa (hK30 _ _ (wr1 hret A ?_))
     have hz : hxN (l.drop (q + j)) = 0 := by first | exact hxN_not (by assumption) (by assumption) | exact hxN_end (by omega)
     have hjj : hxN (l.drop q) = j := by omega
     exact ⟨by unfold tiedN; rw [hq, hjj, hb24, if_neg (by rw [Bool.and_false]; decide)]; rfl, M.bel⟩
   ·
    have hb23' := of_decide_eq_false hb23
    refine sdc A qx hb23 λa A↦?_
    refine sdm A λa A↦?_
    iterate 4 refine qg A rfl rfl rfl λa A↦?_
    refine sdk (v := bV false) A λa A↦?_
    refine qa (hK22 _ _ (cf A ?_))
    refine wp_skip (hK21 _ _ (wsk fun K31 hK31 => wrl (sdm A λa A↦?_)))
    refine sda A λa A↦?_
    refine qa (hK31 _ _ (wr1 hret A ?_))
    have hz : hxN (l.drop (q + j)) = 0 := by first | exact hxN_not (by assumption) (by assumption) | exact hxN_end (by omega)
    have hjj : hxN (l.drop q) = j := by omega
    exact ⟨by unfold tiedN; rw [hq, hjj, if_neg (by rw [decide_eq_false (by omega), Bool.false_and]; decide)]; rfl, M.bel⟩
 ·
  have hb12' := of_decide_eq_false hb12
  refine sdc A qw hb12 λa A↦?_
  refine sdm A λa A↦?_
  iterate 6 refine qg A rfl rfl rfl λa A↦?_
  refine sdk (v := bV false) A λa A↦?_
  refine qa (hK11 _ _ (cf A ?_))
  refine wp_exit (hK6 _ _ (wsk fun K32 hK32 => wrl ?_))
  iterate 2 refine sdm A λa A↦?_
  refine sdo (v := iV (((q + j : Nat) : Int))) A (qb rfl rfl (ar_add ((in_i64 (by omega) (by omega)).trans (by omega)))) λa A↦?_
  refine sda A λa A↦?_
  refine qa (hK32 _ _ (wsk fun K33 hK33 => wsk fun K34 hK34 => wrl (sdm A λa A↦?_)))
  rcases tf (decide (0 < ((j : Nat) : Int))) with hb35 | hb35
  ·
   have hb35' := of_decide_eq_true hb35
   refine sdc A qx hb35 λa A↦?_
   iterate 3 refine sdm A λa A↦?_
   refine sdo (v := .string ((tx (l.drop (q + j))))) A (qs (s := l) (p := q + j) Tryz.underlying9 rfl rfl rfl (by omega)) λa A↦?_
   rcases tf (Lib.hasPrefix (l.drop (q + j)) [59]) with hb36 | hb36
   ·
    refine gcl A M (ef rfl rfl) ((hp_as hb36)) fun w38 hb37 M a A => ?_
    refine sdk (v := bV true) A λa A↦?_
    refine qa (hK34 _ _ (ct A ?_))
    refine wrl (sdm A λa A↦?_)
    refine sdo (v := iV (((q + j + 1 : Nat) : Int))) A (qb rfl rfl (ar_add ((in_i64 (by omega) (by omega)).trans (by omega)))) λa A↦?_
    refine sda A λa A↦?_
    refine qa (hK33 _ _ (wsk fun K39 hK39 => wrl (sdm A λa A↦?_)))
    refine sda A λa A↦?_
    refine qa (hK39 _ _ (wr1 hret A ?_))
    have hz : hxN (l.drop (q + j)) = 0 := by first | exact hxN_not (by assumption) (by assumption) | exact hxN_end (by omega)
    have hjj : hxN (l.drop q) = j := by omega
    exact ⟨by unfold tiedN; rw [hq, hjj, hb36, if_pos (by rw [decide_eq_true (by omega)]; rfl)], M.bel⟩
   ·
    refine gcl A M (ef rfl rfl) ((hp_as hb36)) fun w41 hb40 M a A => ?_
    refine sdk (v := bV false) A λa A↦?_
    refine qa (hK34 _ _ (cf A ?_))
    refine wp_skip (hK33 _ _ (wsk fun K42 hK42 => wrl (sdm A λa A↦?_)))
    refine sda A λa A↦?_
    refine qa (hK42 _ _ (wr1 hret A ?_))
    have hz : hxN (l.drop (q + j)) = 0 := by first | exact hxN_not (by assumption) (by assumption) | exact hxN_end (by omega)
    have hjj : hxN (l.drop q) = j := by omega
    exact ⟨by unfold tiedN; rw [hq, hjj, hb36, if_neg (by rw [Bool.and_false]; decide)]; rfl, M.bel⟩
  ·
   have hb35' := of_decide_eq_false hb35
   refine sdc A qx hb35 λa A↦?_
   refine sdm A λa A↦?_
   iterate 4 refine qg A rfl rfl rfl λa A↦?_
   refine sdk (v := bV false) A λa A↦?_
   refine qa (hK34 _ _ (cf A ?_))
   refine wp_skip (hK33 _ _ (wsk fun K43 hK43 => wrl (sdm A λa A↦?_)))
   refine sda A λa A↦?_
   refine qa (hK43 _ _ (wr1 hret A ?_))
   have hz : hxN (l.drop (q + j)) = 0 := by first | exact hxN_not (by assumption) (by assumption) | exact hxN_end (by omega)
   have hjj : hxN (l.drop q) = j := by omega
   exact ⟨by unfold tiedN; rw [hq, hjj, if_neg (by rw [decide_eq_false (by omega), Bool.false_and]; decide)]; rfl, M.bel⟩
end Go.Proofs.YtclkfideaameoaaGreatDoor.G
 ((delim_as (okR_dc _) hb15)) fun w17 hb16 M a A => ?_
   refine qa (hK14 _ _ (ct A ?_))
   refine wp_exit (hK3 _ _ (wsk fun K18 hK18 => wrl ?_))
   iterate 2 refine sdm A λa A↦?_
   refine sdo (v := .string ((tx (l.take n)))) A (zs (s := l) (p := n) Tryz.underlying9 rfl rfl rfl (by omega)) λa A↦?_
   refine sda A λa A↦?_
   refine qa (hK18 _ _ (wr1 hret A ?_))
   exact ⟨by rw [hn, show tokN (f + 1) (l.drop n) = 0 from tok_stop hb15, Nat.add_zero], M.bel⟩
  ·
   refine gcl A M (ef rfl rfl) ((delim_as (okR_dc _) hb15)) fun w20 hb19 M a A => ?_
   refine qa (hK14 _ _ (cf A ?_))
   refine wp_skip (hK13 _ _ (wsk fun K21 hK21 => wrl ?_))
   iterate 2 refine sdm A λa A↦?_
   refine sdo (v := iV (((n + (dcX (l.drop n)).2 : Nat) : Int))) A (qb rfl rfl (ar_add ((in_i64 (by omega) (by omega)).trans (by omega)))) λa A↦?_
   refine sda A λa A↦?_
   refine qa (hK21 _ _ (wsk fun K22 hK22 => wrl (sdm A λa A↦?_)))
   rcases tf (((((dcX (l.drop n)).1 : Nat) : Int) == 92)) with hb23 | hb23
   ·
    have hb23' := eq_of_beq hb23
    refine sdc A ze hb23 λa A↦?_
    refine qa (hK22 _ _ (ct A ?_))
    refine wrl ?_
    iterate 3 refine sdm A λa A↦?_
    refine sdo (v := .string ((tx (l.drop (n + (dcX (l.drop n)).2))))) A (qs (s := l) (p := n + (dcX (l.drop n)).2) Tryz.underlying9 rfl rfl rfl (by omega)) λa A↦?_
    have ht25 := tiedN_le (l.drop (n + (dcX (l.drop n)).2))
    rw [List.length_drop] at ht25
    refine gcl A M (ef rfl rfl) (jc (l := l.drop (n + (dcX (l.drop n)).2)) (hT.below M.bel) (by rw [List.length_drop]; omega)) fun w26 hb24 M a A => ?_
    refine sdo (v := iV (((n + (dcX (l.drop n)).2 + tiedN (l.drop (n + (dcX (l.drop n)).2)) : Nat) : Int))) A (qb rfl rfl (ar_add ((in_i64 (by omega) (by omega)).trans (by omega)))) λa A↦?_
    refine sda A λa A↦?_
    refine qa ?_
    have e7 := tok_go (f := f) hne hb15 (if_pos (eq_of_beq hb23))
    simp only [List.drop_drop] at e7
    refine hK5 _ _ _ (by omega) ⟨n + (dcX (l.drop n)).2 + tiedN (l.drop (n + (dcX (l.drop n)).2)), f, rfl, ⟨by omega, by omega, by rw [hn, e7, Nat.add_assoc n (dcX (l.drop n)).2 _]; exact (Nat.add_assoc _ _ _).symm⟩, A.keep _ ⟨rfl, rfl, rfl, trivial⟩, M⟩
   ·
    have hb23' := ne_of_beq_false hb23
    refine sdc A ze hb23 λa A↦?_
    refine qa (hK22 _ _ (cf A ?_))
    refine wp_skip ?_
    refine hK5 _ _ _ (by omega) ⟨n + (dcX (l.drop n)).2, f, rfl, ⟨by omega, by omega, by rw [hn, tok_go hne hb15 (if_neg (ne_of_beq_false hb23)), List.drop_drop, Nat.add_assoc]⟩, A.keep _ ⟨rfl, rfl, rfl, trivial⟩, M⟩
 ·
  have hb9' := of_decide_eq_false hb9
  refine sdc A qw hb9 λa A↦?_
  refine qa (hK8 _ _ (cf A ?_))
  refine wp_exit (hK3 _ _ (wsk fun K27 hK27 => wrl ?_))
  iterate 2 refine sdm A λa A↦?_
  refine sdo (v := .string ((tx (l.take n)))) A (zs (s := l) (p := n) Tryz.underlying9 rfl rfl rfl (by omega)) λa A↦?_
  refine sda A λa A↦?_
  refine qa (hK27 _ _ (wr1 hret A ?_))
  exact ⟨by rw [hn, show tokN (f + 1) (l.drop n) = 0 from (by rw [List.drop_eq_nil_of_le (by omega)]; exact tok_end _), Nat.add_zero], M.bel⟩
end Go.Proofs.YtclkfideaameoaaGreatDoor.G
neg (of_decide_eq_false hb5), if_neg (of_decide_eq_false hb8), if_pos (of_decide_eq_true hb11)]; rfl, M.bel⟩
   ·
    have hb11' := of_decide_eq_false hb11
    refine sdo (v := bV false) A (qb rfl rfl (fun w => (qe (a := l) (b := [98, 97, 99, 107, 115, 112, 97, 99, 101]) Tryz.underlying9 w).trans (by rw [hb11] <;> rfl))) λa A↦?_
    refine sda A λa A↦?_
    refine qa (hK10 _ _ (cf A ?_))
    refine wsk fun K13 hK13 => wrl ?_
    rcases tf (decide (l = [116, 97, 98])) with hb14 | hb14
    ·
     have hb14' := of_decide_eq_true hb14
     refine sdo (v := bV true) A (qb rfl rfl (fun w => (qe (a := l) (b := [116, 97, 98]) Tryz.underlying9 w).trans (by rw [hb14] <;> rfl))) λa A↦?_
     refine sda A λa A↦?_
     refine qa (hK13 _ _ (ct A ?_))
     refine wsk fun K15 hK15 => wrl ?_
     iterate 2 refine sda A λa A↦?_
     refine qa (hK15 _ _ (wp_ret (hret _ _ (en2 A rfl (qf rfl) (qf rfl) ?_))))
     exact ⟨by unfold nmdX; rw [if_neg (of_decide_eq_false hb5), if_neg (of_decide_eq_false hb8), if_neg (of_decide_eq_false hb11), if_pos (of_decide_eq_true hb14)]; rfl, M.bel⟩
    ·
     have hb14' := of_decide_eq_false hb14
     refine sdo (v := bV false) A (qb rfl rfl (fun w => (qe (a := l) (b := [116, 97, 98]) Tryz.underlying9 w).trans (by rw [hb14] <;> rfl))) λa A↦?_
     refine sda A λa A↦?_
     refine qa (hK13 _ _ (cf A ?_))
     refine wsk fun K16 hK16 => wsk fun K17 hK17 => wrl ?_
     rcases tf (decide (l = [108, 105, 110, 101, 102, 101, 101, 100])) with hb18 | hb18
     ·
      have hb18' := of_decide_eq_true hb18
      refine sdo (v := bV true) A (qb rfl rfl (fun w => (qe (a := l) (b := [108, 105, 110, 101, 102, 101, 101, 100]) Tryz.underlying9 w).trans (by rw [hb18] <;> rfl))) λa A↦?_
      refine sda A λa A↦?_
      refine qa (hK17 _ _ (ct A ?_))
      refine wp_skip (hK16 _ _ (ct A ?_))
      refine wsk fun K19 hK19 => wrl ?_
      iterate 2 refine sda A λa A↦?_
      refine qa (hK19 _ _ (wp_ret (hret _ _ (en2 A rfl (qf rfl) (qf rfl) ?_))))
      exact ⟨by unfold nmdX; rw [if_neg (of_decide_eq_false hb5), if_neg (of_decide_eq_false hb8), if_neg (of_decide_eq_false hb11), if_neg (of_decide_eq_false hb14), if_pos (of_decide_eq_true hb18)]; rfl, M.bel⟩
     ·
      have hb18' := of_decide_eq_false hb18
      refine sdo (v := bV false) A (qb rfl rfl (fun w => (qe (a := l) (b := [108, 105, 110, 101, 102, 101, 101, 100]) Tryz.underlying9 w).trans (by rw [hb18] <;> rfl))) λa A↦?_
      refine sda A λa A↦?_
      refine qa (hK17 _ _ (cf A ?_))
      refine wrl ?_
      rcases tf (decide (l = [110, 101, 119, 108, 105, 110, 101])) with hb20 | hb20
      ·
       have hb20' := of_decide_eq_true hb20
       refine sdo (v := bV true) A (qb rfl rfl (fun w => (qe (a := l) (b := [110, 101, 119, 108, 105, 110, 101]) Tryz.underlying9 w).trans (by rw [hb20] <;> rfl))) λa A↦?_
       refine sda A λa A↦?_
       refine qa (hK16 _ _ (ct A ?_))
       refine wsk fun K21 hK21 => wrl ?_
       iterate 2 refine sda A λa A↦?_
       refine qa (hK21 _ _ (wp_ret (hret _ _ (en2 A rfl (qf rfl) (qf rfl) ?_))))
       exact ⟨by unfold nmdX; rw [if_neg (of_decide_eq_false hb5), if_neg (of_decide_eq_false hb8), if_neg (of_decide_eq_false hb11), if_neg (of_decide_eq_false hb14), if_neg (of_decide_eq_false hb18), if_pos (of_decide_eq_true hb20)]; rfl, M.bel⟩
      ·
       have hb20' := of_decide_eq_false hb20
       refine sdo (v := bV false) A (qb rfl rfl (fun w => (qe (a := l) (b := [110, 101, 119, 108, 105, 110, 101]) Tryz.underlying9 w).trans (by rw [hb20] <;> rfl))) λa A↦?_
       refine sda A λa A↦?_
       refine qa (hK16 _ _ (cf A ?_))
       refine wsk fun K22 hK22 => wrl ?_
       rcases tf (decide (l = [118, 116, 97, 98])) with hb23 | hb23
       ·
        have hb23' := of_decide_eq_true hb23
        refine sdo (v := bV true) A (qb rfl rfl (fun w => (qe (a := l) (b := [118, 116, 97, 98]) Tryz.underlying9 w).trans (by rw [hb23] <;> rfl))) λa A↦?_
        refine sda A λa A↦?_
        refine qa (hK22 _ _ (ct A ?_))
        refine wsk fun K24 hK24 => wrl ?_
        iterate 2 refine sda A λa A↦?_
        refine qa (hK24 _ _ (wp_ret (hret _ _ (en2 A rfl (qf rfl) (qf rfl) ?_))))
        exact ⟨by unfold nmdX; rw [if_neg (of_decide_eq_false hb5), if_neg (of_decide_eq_false hb8), if_neg (of_decide_eq_false hb11), if_neg (of_decide_eq_false hb14), if_neg (of_decide_eq_false hb18), if_neg (of_decide_eq_false hb20), if_pos (of_decide_eq_true hb23)]; rfl, M.bel⟩
       ·
        have hb23' := of_decide_eq_false hb23
        refine sdo (v := bV false) A (qb rfl rfl (fun w => (qe (a := l) (b := [118, 116, 97, 98]) Tryz.underlying9 w).trans (by rw [hb23] <;> rfl))) λa A↦?_
        refine sda A λa A↦?_
        refine qa (hK22 _ _ (cf A ?_))
        refine wsk fun K25 hK25 => wrl ?_
        rcases tf (decide (l = [112, 97, 103, 101])) with hb26 | hb26
        ·
         have hb26' := of_decide_eq_true hb26
         refine sdo (v := bV true) A (qb rfl rfl (fun w => (qe (a := l) (b := [112, 97, 103, 101]) Tryz.underlying9 w).trans (by rw [hb26] <;> rfl))) λa A↦?_
         refine sda A λa A↦?_
         refine qa (hK25 _ _ (ct A ?_))
         refine wsk fun K27 hK27 => wrl ?_
         iterate 2 refine sda A λa A↦?_
         refine qa (hK27 _ _ (wp_ret (hret _ _ (en2 A rfl (qf rfl) (qf rfl) ?_))))
         exact ⟨by unfold nmdX; rw [if_neg (of_decide_eq_false hb5), if_neg (of_decide_eq_false hb8), if_neg (of_decide_eq_false hb11), if_neg (of_decide_eq_false hb14), if_neg (of_decide_eq_false hb18), if_neg (of_decide_eq_false hb20), if_neg (of_decide_eq_false hb23), if_pos (of_decide_eq_true hb26)]; rfl, M.bel⟩
        ·
         have hb26' := of_decide_eq_false hb26
         refine sdo (v := bV false) A (qb rfl rfl (fun w => (qe (a := l) (b := [112, 97, 103, 101]) Tryz.underlying9 w).trans (by rw [hb26] <;> rfl))) λa A↦?_
         refine sda A λa A↦?_
         refine qa (hK25 _ _ (cf A ?_))
         refine wsk fun K28 hK28 => wrl ?_
         rcases tf (decide (l = [114, 101, 116, 117, 114, 110])) with hb29 | hb29
         ·
          have hb29' := of_decide_eq_true hb29
          refine sdo (v := bV true) A (qb rfl rfl (fun w => (qe (a := l) (b := [114, 101, 116, 117, 114, 110]) Tryz.underlying9 w).trans (by rw [hb29] <;> rfl))) λa A↦?_
          refine sda A λa A↦?_
          refine qa (hK28 _ _ (ct A ?_))
          refine wsk fun K30 hK30 => wrl ?_
          iterate 2 refine sda A λa A↦?_
          refine qa (hK30 _ _ (wp_ret (hret _ _ (en2 A rfl (qf rfl) (qf rfl) ?_))))
          exact ⟨by unfold nmdX; rw [if_neg (of_decide_eq_false hb5), if_neg (of_decide_eq_false hb8), if_neg (of_decide_eq_false hb11), if_neg (of_decide_eq_false hb14), if_neg (of_decide_eq_false hb18), if_neg (of_decide_eq_false hb20), if_neg (of_decide_eq_false hb23), if_neg (of_decide_eq_false hb26), if_pos (of_decide_eq_true hb29)]; rfl, M.bel⟩
         ·
          have hb29' := of_decide_eq_false hb29
          refine sdo (v := bV false) A (qb rfl rfl (fun w => (qe (a := l) (b := [114, 101, 116, 117, 114, 110]) Tryz.underlying9 w).trans (by rw [hb29] <;> rfl))) λa A↦?_
          refine sda A λa A↦?_
          refine qa (hK28 _ _ (cf A ?_))
          refine wsk fun K31 hK31 => wrl ?_
          rcases tf (decide (l = [101, 115, 99])) with hb32 | hb32
          ·
           have hb32' := of_decide_eq_true hb32
           refine sdo (v := bV true) A (qb rfl rfl (fun w => (qe (a := l) (b := [101, 115, 99]) Tryz.underlying9 w).trans (by rw [hb32] <;> rfl))) λa A↦?_
           refine sda A λa A↦?_
           refine qa (hK31 _ _ (ct A ?_))
           refine wsk fun K33 hK33 => wrl ?_
           iterate 2 refine sda A λa A↦?_
           refine qa (hK33 _ _ (wp_ret (hret _ _ (en2 A rfl (qf rfl) (qf rfl) ?_))))
           exact ⟨by unfold nmdX; rw [if_neg (of_decide_eq_false hb5), if_neg (of_decide_eq_false hb8), if_neg (of_decide_eq_false hb11), if_neg (of_decide_eq_false hb14), if_neg (of_decide_eq_false hb18), if_neg (of_decide_eq_false hb20), if_neg (of_decide_eq_false hb23), if_neg (of_decide_eq_false hb26), if_neg (of_decide_eq_false hb29), if_pos (of_decide_eq_true hb32)]; rfl, M.bel⟩
          ·
           have hb32' := of_decide_eq_false hb32
           refine sdo (v := bV false) A (qb rfl rfl (fun w => (qe (a := l) (b := [101, 115, 99]) Tryz.underlying9 w).trans (by rw [hb32] <;> rfl))) λa A↦?_
           refine sda A λa A↦?_
           refine qa (hK31 _ _ (cf A ?_))
           refine wsk fun K34 hK34 => wrl ?_
           rcases tf (decide (l = [115, 112, 97, 99, 101])) with hb35 | hb35
           ·
            have hb35' := of_decide_eq_true hb35
            refine sdo (v := bV true) A (qb rfl rfl (fun w => (qe (a := l) (b := [115, 112, 97, 99, 101]) Tryz.underlying9 w).trans (by rw [hb35] <;> rfl))) λa A↦?_
            refine sda A λa A↦?_
            refine qa (hK34 _ _ (ct A ?_))
            refine wsk fun K36 hK36 => wrl ?_
            iterate 2 refine sda A λa A↦?_
            refine qa (hK36 _ _ (wp_ret (hret _ _ (en2 A rfl (qf rfl) (qf rfl) ?_))))
            exact ⟨by unfold nmdX; rw [if_neg (of_decide_eq_false hb5), if_neg (of_decide_eq_false hb8), if_neg (of_decide_eq_false hb11), if_neg (of_decide_eq_false hb14), if_neg (of_decide_eq_false hb18), if_neg (of_decide_eq_false hb20), if_neg (of_decide_eq_false hb23), if_neg (of_decide_eq_false hb26), if_neg (of_decide_eq_false hb29), if_neg (of_decide_eq_false hb32), if_pos (of_decide_eq_true hb35)]; rfl, M.bel⟩
           ·
            have hb35' := of_decide_eq_false hb35
            refine sdo (v := bV false) A (qb rfl rfl (fun w => (qe (a := l) (b := [115, 112, 97, 99, 101]) Tryz.underlying9 w).trans (by rw [hb35] <;> rfl))) λa A↦?_
            refine sda A λa A↦?_
            refine qa (hK34 _ _ (cf A ?_))
            refine wsk fun K37 hK37 => wrl ?_
            rcases tf (decide (l = [100, 101, 108, 101, 116, 101])) with hb38 | hb38
            ·
             have hb38' := of_decide_eq_true hb38
             refine sdo (v := bV true) A (qb rfl rfl (fun w => (qe (a := l) (b := [100, 101, 108, 101, 116, 101]) Tryz.underlying9 w).trans (by rw [hb38] <;> rfl))) λa A↦?_
             refine sda A λa A↦?_
             refine qa (hK37 _ _ (ct A ?_))
             refine wsk fun K39 hK39 => wrl ?_
             iterate 2 refine sda A λa A↦?_
             refine qa (hK39 _ _ (wp_ret (hret _ _ (en2 A rfl (qf rfl) (qf rfl) ?_))))
             exact ⟨by unfold nmdX; rw [if_neg (of_decide_eq_false hb5), if_neg (of_decide_eq_false hb8), if_neg (of_decide_eq_false hb11), if_neg (of_decide_eq_false hb14), if_neg (of_decide_eq_false hb18), if_neg (of_decide_eq_false hb20), if_neg (of_decide_eq_false hb23), if_neg (of_decide_eq_false hb26), if_neg (of_decide_eq_false hb29), if_neg (of_decide_eq_false hb32), if_neg (of_decide_eq_false hb35), if_pos (of_decide_eq_true hb38)]; rfl, M.bel⟩
            ·
             have hb38' := of_decide_eq_false hb38
             refine sdo (v := bV false) A (qb rfl rfl (fun w => (qe (a := l) (b := [100, 101, 108, 101, 116, 101]) Tryz.underlying9 w).trans (by rw [hb38] <;> rfl))) λa A↦?_
             refine sda A λa A↦?_
             refine qa (hK37 _ _ (cf A ?_))
             refine wp_skip (hK2 _ _ (wsk fun K40 hK40 => wrl ?_))
             iterate 2 refine sda A λa A↦?_
             refine qa (hK40 _ _ (wp_ret (hret _ _ (en2 A rfl (qf rfl) (qf rfl) ?_))))
             exact ⟨by unfold nmdX; rw [if_neg (of_decide_eq_false hb5), if_neg (of_decide_eq_false hb8), if_neg (of_decide_eq_false hb11), if_neg (of_decide_eq_false hb14), if_neg (of_decide_eq_false hb18), if_neg (of_decide_eq_false hb20), if_neg (of_decide_eq_false hb23), if_neg (of_decide_eq_false hb26), if_neg (of_decide_eq_false hb29), if_neg (of_decide_eq_false hb32), if_neg (of_decide_eq_false hb35), if_neg (of_decide_eq_false hb38)]; rfl, M.bel⟩
theorem jr {w0 w : World} {g p : Nat} {lg : Bool} {L : List UInt8} {T : List Ck} (hT : Tb w0) (hp : p ≤ L.length) (hl : L.length ≤ 1000000000) (hd0 : dotB (L.drop p) = true) (hM0 : Mg w0 w (.obj g (rC L p lg) :: T)) : Calls Tryz.prog 55 #[pA g 0] w fun e w' => e = .returned (bV true) ∧ Mg w0 w' (.obj g (rC L (p + 1) lg) :: T) := by
 have hd : decide ((L.drop p).take (tokN ((L.drop p).length + 1) (L.drop p)) = [46]) = true := hd0
 have hpf := dot_pre (of_decide_eq_true hd)
 have M : Mg w0 w (.obj g (rC L p lg) :: T) := hM0
 refine qr (l := [(0, pA g 0)]) Tryz.func55 rfl Tryz.ntmps55 rfl rfl ?_
 intro Q hret hnorm hP a A
 refine wsk fun K1 hK1 => wrl (sda A λa A↦?_)
 refine qa (hK1 _ _ (wsk fun K2 hK2 => wrl (sdm A λa A↦?_)))
 refine sct A (ef rfl rfl) (qz (p := p) (L := L) (T := (T)) (by omega) M) ?_
 rintro _ w4 ⟨rfl, hM3⟩
 replace M : Mg w0 w4 (.obj g (rC L p lg) :: T) := hM3
 refine ⟨_, rfl, ?_⟩
 intro a A
 refine gcl A M (ef rfl rfl) (token_any (l := L.drop p) (hT.below M.bel) (by rw [List.length_drop]; omega)) fun w6 hb5 M a A => ?_
 refine sdo (v := bV true) A (qb rfl rfl (fun w => (qe (a := (L.drop p).take (tokN ((L.drop p).length + 1) (L.drop p))) (b := [46]) Tryz.underlying9 w).trans (by rw [hd] <;> rfl))) λa A↦?_
 iterate 2 refine sdm A λa A↦?_
 have htl9 : 1 ≤ (L.drop p).length := (List.isPrefixOf_iff_prefix.1 hpf).length_le
 rw [List.length_drop] at htl9
 refine sct A (ef rfl rfl) (take_y (p := p) (L := L) (T := (T)) (by omega) (by omega) hpf M) ?_
 rintro _ w10 ⟨rfl, hM8⟩
 replace M : Mg w0 w10 (.obj g (rC L (p + 1) lg) :: T) := hM8
 refine ⟨_, rfl, ?_⟩
 intro a A
 refine sdk (v := bV true) A λa A↦?_
 refine sda A λa A↦?_
 refine qa (hK2 _ _ (wr1 hret A ?_))
 exact ⟨rfl, M⟩
theorem js {w0 w : World} {g p : Nat} {lg : Bool} {L : List UInt8} {T : List Ck} (hT : Tb w0) (hp : p ≤ L.length) (hl : L.length ≤ 1000000000) (hd0 : dotB (L.drop p) = false) (hM0 : Mg w0 w (.obj g (rC L p lg) :: T)) : Calls Tryz.prog 55 #[pA g 0] w fun e w' => e = .returned (bV false) ∧ Mg w0 w' (.obj g (rC L p lg) :: T) := by
 have hd : decide ((L.drop p).take (tokN ((L.drop p).length + 1) (L.drop p)) = [46]) = false := hd0
 
 have M : Mg w0 w (.obj g (rC L p lg) :: T) := hM0
 refine qr (l := [(0, pA g 0)]) Tryz.func55 rfl Tryz.ntmps55 rfl rfl ?_
 intro Q hret hnorm hP a A
 refine wsk fun K1 hK1 => wrl (sda A λa A↦?_)
 refine qa (hK1 _ _ (wsk fun K2 hK2 => wrl (sdm A λa A↦?_)))
 refine sct A (ef rfl rfl) (qz (p := p) (L := L) (T := (T)) (by omega) M) ?_
 rintro _ w4 ⟨rfl, hM3⟩
 replace M : Mg w0 w4 (.obj g (rC L p lg) :: T) := hM3
 refine ⟨_, rfl, ?_⟩
 intro a A
 refine gcl A M (ef rfl rfl) (token_any (l := L.drop p) (hT.below M.bel) (by rw [List.length_drop]; omega)) fun w6 hb5 M a A => ?_
 refine sdo (v := bV false) A (qb rfl rfl (fun w => (qe (a := (L.drop p).take (tokN ((L.drop p).length + 1) (L.drop p))) (b := [46]) Tryz.underlying9 w).trans (by rw [hd] <;> rfl))) λa A↦?_
 refine sdm A λa A↦?_
 iterate 2 refine qg A rfl rfl rfl λa A↦?_
 refine sdk (v := bV false) A λa A↦?_
 refine sda A λa A↦?_
 refine qa (hK2 _ _ (wr1 hret A ?_))
 exact ⟨rfl, M⟩
end Go.Proofs.YtclkfideaameoaaGreatDoor.G
:= by
 have M : Mg w w ([]) := Mg.start w
 refine qr (l := [(0, iV 5)]) Tryz.func106 rfl Tryz.ntmps106 rfl rfl ?_
 intro Q hret hnorm hP a A
 refine wsk fun K1 hK1 => wrl (sda A λa A↦?_)
 refine qa (hK1 _ _ (wsk fun K2 hK2 => wrl (sdm A λa A↦?_)))
 refine sdo (v := iV 21) A (qb rfl rfl (ar_add rfl)) λa A↦?_
 refine sdo (v := iV 2) A (qb rfl rfl (ar_quo (by decide) (by decide))) λa A↦?_
 refine sda A λa A↦?_
 refine qa (hK2 _ _ (wr1 hret A ?_))
 exact ⟨rfl, M.bel⟩
theorem ju {w : World} : Calls Tryz.prog 106 #[iV 6] w fun e w' => e = .returned (iV 2) ∧ Below w.heap.size w w' := by
 have M : Mg w w ([]) := Mg.start w
 refine qr (l := [(0, iV 6)]) Tryz.func106 rfl Tryz.ntmps106 rfl rfl ?_
 intro Q hret hnorm hP a A
 refine wsk fun K1 hK1 => wrl (sda A λa A↦?_)
 refine qa (hK1 _ _ (wsk fun K2 hK2 => wrl (sdm A λa A↦?_)))
 refine sdo (v := iV 22) A (qb rfl rfl (ar_add rfl)) λa A↦?_
 refine sdo (v := iV 2) A (qb rfl rfl (ar_quo (by decide) (by decide))) λa A↦?_
 refine sda A λa A↦?_
 refine qa (hK2 _ _ (wr1 hret A ?_))
 exact ⟨rfl, M.bel⟩
theorem jv {w : World} : Calls Tryz.prog 106 #[iV 7] w fun e w' => e = .returned (iV 2) ∧ Below w.heap.size w w' := by
 have M : Mg w w ([]) := Mg.start w
 refine qr (l := [(0, iV 7)]) Tryz.func106 rfl Tryz.ntmps106 rfl rfl ?_
 intro Q hret hnorm hP a A
 refine wsk fun K1 hK1 => wrl (sda A λa A↦?_)
 refine qa (hK1 _ _ (wsk fun K2 hK2 => wrl (sdm A λa A↦?_)))
 refine sdo (v := iV 23) A (qb rfl rfl (ar_add rfl)) λa A↦?_
 refine sdo (v := iV 2) A (qb rfl rfl (ar_quo (by decide) (by decide))) λa A↦?_
 refine sda A λa A↦?_
 refine qa (hK2 _ _ (wr1 hret A ?_))
 exact ⟨rfl, M.bel⟩
def s7 : List UInt8 := [10, 13, 194, 133, 226, 128, 168]
theorem zj : s7.length = 7 := rfl
theorem jw {i k : Nat} (h1 : i < k) (h2 : k < 7) : s7.getD i 0 ≠ s7.getD k 0 := by
 have h : ∀ i k : Fin 7, i < k → s7.getD i 0 ≠ s7.getD k 0 := by decide
 exact h ⟨i, by omega⟩ ⟨k, h2⟩ h1
theorem zh {l : List UInt8} {i : Nat} (h : i < l.length) : l[i]? = some (l.getD i 0) := by
 rw [List.getD_eq_getElem?_getD, List.getElem?_eq_getElem h]; rfl
theorem zk {a b : UInt8} (h : ((a.toNat : Nat) : Int) = ((b.toNat : Nat) : Int)) : a = b := UInt8.toNat_inj.1 (by omega)
def atS (B : List UInt8) (k : Nat) : Prop := B.length - 1 ≤ k ∧ k < 7 ∧ ∀ t, t < B.length → s7.getD (k - t) 0 = B.getD (B.length - 1 - t) 0
theorem jx {B : List UInt8} {i : Nat} (hB : 2 ≤ B.length) (h : Lib.indexByte (s7.drop (i + 1)) (B.getD (B.length - 1) 0) = -1) (hn : s7.getD i 0 ≠ B.getD (B.length - 1) 0) (hlt : ∀ k, k < i → ¬ atS B k) : ∀ k, ¬ atS B k := fun k hk => by
 have h0 : s7.getD k 0 = B.getD (B.length - 1) 0 := hk.2.2 0 (by omega)
 have hk7 := hk.2.1
 by_cases h1 : k < i
 ·
  exact hlt k h1 hk
 by_cases h2 : k = i
 ·
  subst h2; exact hn h0
 refine Lib.indexByte_none h (k - (i + 1)) ?_
 rw [List.getElem?_drop, show i + 1 + (k - (i + 1)) = k by omega, zh (by rw [zj]; exact hk7), h0]
theorem jd {B : List UInt8} {i o : Nat} (hB : 2 ≤ B.length) (h : Lib.indexByte (s7.drop (i + 1)) (B.getD (B.length - 1) 0) = ((o : Nat) : Int)) (hn : s7.getD i 0 ≠ B.getD (B.length - 1) 0) (hlt : ∀ k, k < i → ¬ atS B k) : i + o + 1 < 7 ∧ s7.getD (i + o + 1) 0 = B.getD (B.length - 1) 0 ∧ ∀ k, k < i + o + 1 → ¬ atS B k := by
 obtain ⟨h1, h2⟩ := Lib.indexByte_some h
 rw [List.getElem?_drop, show i + 1 + o = i + o + 1 by omega] at h1
 obtain ⟨h3, h4⟩ := List.getElem?_eq_some_iff.1 h1
 rw [zj] at h3
 have h5 := h1
 rw [zh (by rw [zj]; exact h3)] at h5
 refine ⟨h3, Option.some.inj h5, fun k hk hs => ?_⟩
 have h0 : s7.getD k 0 = B.getD (B.length - 1) 0 := hs.2.2 0 (by omega)
 by_cases h6 : k < i
 ·
  exact hlt k h6 hs
 by_cases h7 : k = i
 ·
  subst h7; exact hn h0
 refine h2 (k - (i + 1)) (by omega) ?_
 rw [List.getElem?_drop, show i + 1 + (k - (i + 1)) = k by omega, zh (by rw [zj]; omega), h0]
theorem jj {w : World} {i : Nat} (h1 : 1 ≤ i) (h : i ≤ 7) : Calls Tryz.prog 106 #[iV ((i : Nat) : Int)] w fun e w' => e = .returned (iV 2) ∧ Below w.heap.size w w' := by
 match i, h1, h with
 | 1, _, _ => exact cut_1
 | 2, _, _ => exact cut_2
 | 3, _, _ => exact cut_3
 | 4, _, _ => exact cut_4
 | 5, _, _ => exact cut_5
 | 6, _, _ => exact ju
 | 7, _, _ => exact jv
theorem jk {w : World} {r : Int} {B : List UInt8} (h2 : 2 ≤ B.length) (h4 : B.length ≤ 4) (h0 : 128 ≤ r) (hne : r ≠ 65533) (hv : Lib.validRune r = true) (henc : Utf8.encode r = tx B) : Calls Tryz.prog 71 #[.string (tx s7), .int .i32 r] w fun e w' => ∃ v : Int, e = .returned (iV v) ∧ (0 ≤ v ∧ (∃ k, atS B k) ∨ v < 0 ∧ ∀ k, ¬ atS B k) ∧ Below w.heap.size w w' := by
 have hs7 := zj
 have M : Mg w w ([]) := Mg.start w
 refine qr (l := [(0, .string ((tx s7))), (1, .int .i32 r)]) Tryz.func71 rfl Tryz.ntmps71 rfl rfl ?_
 intro Q hret hnorm hP a A
 refine wsk fun K1 hK1 => wrl (sda A λa A↦?_)
 refine qa (hK1 _ _ (wp_block (wsk fun K2 hK2 => wrl (sdm A λa A↦?_))))
 refine sdo (v := bV true) A (qb rfl rfl (fun w => (qn w).trans (by rw [show (decide (0 ≤ r)) = true from (decide_eq_true (by omega))]))) λa A↦?_
 iterate 2 refine sdm A λa A↦?_
 refine sdo (v := bV false) A (qb rfl rfl (fun w => (qw w).trans (by rw [show (decide (r < 128)) = false from (decide_eq_false (by omega))]))) λa A↦?_
 refine sdk (v := bV false) A λa A↦?_
 refine sda A λa A↦?_
 refine qa (hK2 _ _ (cf A ?_))
 refine wsk fun K3 hK3 => wrl (sdm A λa A↦?_)
 refine sdo (v := bV false) A (qb rfl rfl (fun w => (ze w).trans (by rw [show ((r == 65533)) = false from (beq_eq_false_iff_ne.2 (by omega))]))) λa A↦?_
 refine sda A λa A↦?_
 refine qa (hK3 _ _ (cf A ?_))
 refine wsk fun K4 hK4 => wrl (sdm A λa A↦?_)
 refine gcl A M (ef rfl rfl) (vr_as hv) fun w6 hb5 M a A => ?_
 refine sdo (v := bV false) A (zm rfl zr) λa A↦?_
 refine sda A λa A↦?_
 refine qa (hK4 _ _ (cf A ?_))
 refine zn 1 rfl ?_
 refine wsk fun K7 hK7 => wrl (sdm A λa A↦?_)
 refine sdo (v := .string ((tx B))) A (jh rfl (fun w => (run_convert_int_string w _ _ .i32 r (by kernel_rfl) Tryz.underlying9).trans (by rw [henc]))) λa A↦?_
 refine sda A λa A↦?_
 refine qa (hK7 _ _ (wsk fun K8 hK8 => wrl (sdm A λa A↦?_)))
 refine sdo (v := iV (((B.length : Nat) : Int))) A (zg (s := B) Tryz.underlying9 rfl) λa A↦?_
 refine sdo (v := iV (((B.length - 1 : Nat) : Int))) A (qb rfl rfl (ar_sub ((in_i64 (by omega) (by omega)).trans (by omega)))) λa A↦?_
 refine sda A λa A↦?_
 refine qa (hK8 _ _ (wsk fun K9 hK9 => wrl (sdm A λa A↦?_)))
 refine sda A λa A↦?_
 refine qa (hK9 _ _ (wsk fun K10 hK10 => wrl (sda A λa A↦?_)))
 refine qa (hK10 _ _ (wsk fun K11 hK11 => wp_block (zl (fun m_ a w1 => ∃ (i : Nat) (f : Nat), m_ = 8 - i ∧ (B.length - 1 ≤ i ∧ i ≤ 7 ∧ (∀ k, k < i → ¬ atS B k) ∧ (f = 0 ∨ f = 1 ∧ ∀ k, i ≤ k → k < 7 → s7.getD k 0 ≠ B.getD (B.length - 1) 0)) ∧ Sl a 187 [(0, .string ((tx s7))), (1, .int .i32 r), (7, .string ((tx B))), (8, iV (((B.length - 1 : Nat) : Int))), (9, iV (((i : Nat) : Int))), (10, iV (((f : Nat) : Int))), (17, .int .i32 r), (18, .string ((tx B))), (19, .string ((tx B))), (20, iV (((B.length : Nat) : Int))), (21, iV (((B.length - 1 : Nat) : Int))), (22, iV (((B.length - 1 : Nat) : Int))), (160, bV false), (161, .int .i32 r), (162, bV true), (163, bV true), (164, .int .i32 r), (165, bV false), (166, bV false), (171, bV false), (172, .int .i32 r), (173, bV false), (183, bV false), (184, .int .i32 r), (185, bV true), (186, bV false)] ∧ Mg w w1 ([])) _ ⟨B.length - 1, 0, rfl, ⟨Nat.le_refl _, by omega, fun k hk hs => absurd hs.1 (by omega), .inl rfl⟩, A.keep _ (by repeat' constructor), M⟩ ?_)))
 clear M A
 rintro m_ a w12 ⟨i, f, rfl, hinv14, A, M⟩ K13 hK13
 obtain ⟨hi1, hi2, hi3, hi4⟩ := hinv14
 refine wsk fun K15 hK15 => wsk fun K16 hK16 => wrl ?_
 iterate 2 refine sdm A λa A↦?_
 refine sdo (v := iV (((s7.length : Nat) : Int))) A (zg (s := s7) Tryz.underlying9 rfl) λa A↦?_
 rcases tf (decide (((i : Nat) : Int) < ((s7.length : Nat) : Int))) with hb17 | hb17
 ·
  have hb17' := of_decide_eq_true hb17
  refine sdc A qw hb17 λa A↦?_
  refine qa (hK16 _ _ (ct A ?_))
  refine wp_skip (hK15 _ _ (wp_block (zn 0 rfl ?_)))
  refine wsk fun K18 hK18 => ?_
  have hJ19 : ∀ a w1, (∃ (q : Nat), (B.length - 1 ≤ q ∧ i ≤ q ∧ q < 7 ∧ s7.getD q 0 = B.getD (B.length - 1) 0 ∧ (∀ k, k < q → ¬ atS B k) ∧ f = 0) ∧ Sl a 187 [(0, .string ((tx s7))), (1, .int .i32 r), (7, .string ((tx B))), (8, iV (((B.length - 1 : Nat) : Int))), (9, iV (((q : Nat) : Int))), (10, iV (((f : Nat) : Int))), (17, .int .i32 r), (18, .string ((tx B))), (19, .string ((tx B))), (20, iV (((B.length : Nat) : Int))), (21, iV (((B.length - 1 : Nat) : Int))), (22, iV (((B.length - 1 : Nat) : Int))), (23, iV (((i : Nat) : Int))), (24, .string ((tx s7))), (25, iV (((s7.length : Nat) : Int))), (26, bV true), (160, bV false), (161, .int .i32 r), (162, bV true), (163, bV true), (164, .int .i32 r), (165, bV false), (166, bV false), (171, bV false), (172, .int .i32 r), (173, bV false), (183, bV false), (184, .int .i32 r), (185, bV true), (186, bV false)] ∧ Mg w w1 ([])) → K18 a w1 := by
   clear A M
   rintro a w20 ⟨q, hf21, A, M⟩
   obtain ⟨hq1, hqi, hq2, hq3, hq4, hf0⟩ := hf21
   refine hK18 _ _ (wsk fun K22 hK22 => wsk fun K23 hK23 => wrl (sda A λa A↦?_))
   refine qa (hK23 _ _ (wp_block (zl (fun m_ a w1 => ∃ (j : Nat), m_ = B.length - j ∧ (1 ≤ j ∧ j ≤ B.length ∧ ∀ t, t < j → s7.getD (q - t) 0 = B.getD (B.length - 1 - t) 0) ∧ Sl a 187 [(0, .string ((tx s7))), (1, .int .i32 r), (7, .string ((tx B))), (8, iV (((B.length - 1 : Nat) : Int))), (9, iV (((q : Nat) : Int))), (10, iV (((f : Nat) : Int))), (12, iV (((j : Nat) : Int))), (17, .int .i32 r), (18, .string ((tx B))), (19, .string ((tx B))), (20, iV (((B.length : Nat) : Int))), (21, iV (((B.length - 1 : Nat) : Int))), (22, iV (((B.length - 1 : Nat) : Int))), (23, iV (((i : Nat) : Int))), (24, .string ((tx s7))), (25, iV (((s7.length : Nat) : Int))), (26, bV true), (160, bV false), (161, .int .i32 r), (162, bV true), (163, bV true), (164, .int .i32 r), (165, bV false), (166, bV false), (171, bV false), (172, .int .i32 r), (173, bV false), (183, bV false), (184, .int .i32 r), (185, bV true), (186, bV false)] ∧ Mg w w1 ([])) _ ⟨1, rfl, ⟨Nat.le_refl _, by omega, fun t ht => by rw [show t = 0 by omega]; exact hq3⟩, A.keep _ (by repeat' constructor), M⟩ ?_)))
   clear M A
   rintro m_ a w24 ⟨j, rfl, hinv26, A, M⟩ K25 hK25
   obtain ⟨hj1, hj2, hj3⟩ := hinv26
   refine wsk fun K27 hK27 => wsk fun K28 hK28 => wrl ?_
   iterate 2 refine sdm A λa A↦?_
   refine sdo (v := iV (((B.length : Nat) : Int))) A (zg (s := B) Tryz.underlying9 rfl) λa A↦?_
   rcases tf (decide (((j : Nat) : Int) < ((B.length : Nat) : Int))) with hb29 | hb29
   ·
    have hb29' := of_decide_eq_true hb29
    refine sdc A qw hb29 λa A↦?_
    refine qa (hK28 _ _ (ct A ?_))
    refine wp_skip (hK27 _ _ (wsk fun K30 hK30 => wp_block (wsk fun K31 hK31 => zi (S := fun w1 => Mg w w1 ([])) (by kernel_rfl) ?_)))
    replace M := M.drew
    refine amv A 0 rfl hP (M.sub ns) λa A↦?_
    refine amv A 1 rfl hP (M.sub ns) λa A↦?_
    refine amv A 2 rfl hP (M.sub ns) λa A↦?_
    refine atk (v := iV (((q - j : Nat) : Int))) A 3 rfl hP (M.sub ns) (λ_ M↦qb rfl rfl (ar_sub ((in_i64 (by omega) (by omega)).trans (by omega)))) λa A↦?_
    refine atk (v := .int .u8 ((((s7.getD (q - j) 0).toNat : Nat) : Int))) A 4 rfl hP (M.sub ns) (λ_ M↦zb (s := s7) (i := q - j) (b := s7.getD (q - j) 0) Tryz.underlying9 rfl rfl rfl (zh (by omega))) λa A↦?_
    refine amv A 5 rfl hP (M.sub ns) λa A↦?_
    refine amv A 6 rfl hP (M.sub ns) λa A↦?_
    refine amv A 7 rfl hP (M.sub ns) λa A↦?_
    refine atk (v := iV (((B.length - 1 - j : Nat) : Int))) A 8 rfl hP (M.sub ns) (λ_ M↦qb rfl rfl (ar_sub ((in_i64 (by omega) (by omega)).trans (by omega)))) λa A↦?_
    refine atk (v := .int .u8 ((((B.getD (B.length - 1 - j) 0).toNat : Nat) : Int))) A 9 rfl hP (M.sub ns) (λ_ M↦zb (s := B) (i := B.length - 1 - j) (b := B.getD (B.length - 1 - j) 0) Tryz.underlying9 rfl rfl rfl (zh (by omega))) λa A↦?_
    rcases tf (((((s7.getD (q - j) 0).toNat : Nat) : Int) != (((B.getD (B.length - 1 - j) 0).toNat : Nat) : Int))) with hb32 | hb32
    ·
     have hb32' := bne_iff_ne.1 hb32
     refine atk (v := bV true) A 10 rfl hP (M.sub ns) (λ_ M↦qb rfl rfl (fun w => (za w).trans (by rw [hb32]))) λa A↦?_
     refine qy (by kernel_rfl) ?_
     refine hK31 _ _ (ct A ?_)
     refine wp_goto (And.intro rfl ?_)
     refine wsk fun K33 hK33 => wp_skip (hK33 _ _ (wsk fun K34 hK34 => wrl (sdm A λa A↦?_)))
     refine sdo (v := iV (((f + 1 : Nat) : Int))) A (qb rfl rfl (ar_add ((in_i64 (by omega) (by omega)).trans (by omega)))) λa A↦?_
     refine sda A λa A↦?_
     refine qa (hK34 _ _ (wsk fun K35 hK35 => wrl (sdm A λa A↦?_)))
     refine sdo (v := iV (((q + 1 : Nat) : Int))) A (qb rfl rfl (ar_add ((in_i64 (by omega) (by omega)).trans (by omega)))) λa A↦?_
     refine sda A λa A↦?_
     refine qa (hK35 _ _ (wsk fun K36 hK36 => wrl ?_))
     iterate 3 refine sdm A λa A↦?_
     refine gcl A M (ef rfl rfl) (jj (by omega) (by omega)) fun w38 hb37 M a A => ?_
     refine sdo (v := bV false) A (qb rfl rfl (fun w => (qx w).trans (by rw [show (decide (2 < ((f + 1 : Nat) : Int))) = false from (decide_eq_false (by omega))]))) λa A↦?_
     refine sdk (v := bV false) A λa A↦?_
     refine sdm A λa A↦?_
     iterate 4 refine qg A rfl rfl rfl λa A↦?_
     refine sdk (v := bV false) A λa A↦?_
     iterate 2 refine sdm A λa A↦?_
     iterate 5 refine qg A rfl rfl rfl λa A↦?_
     refine sdk (v := bV false) A λa A↦?_
     refine sdm A λa A↦?_
     iterate 4 refine qg A rfl rfl rfl λa A↦?_
     iterate 2 refine sdk (v := bV false) A λa A↦?_
     refine qa (hK36 _ _ (cf A ?_))
     refine wp_skip ?_
     refine hK13 _ _ _ (by omega) ⟨q + 1, f + 1, rfl, ⟨by omega, by omega, fun k hk hs => by by_cases h9 : k < q; exact hq4 k h9 hs; rw [show k = q by omega] at hs; exact bne_iff_ne.1 hb32 (by rw [hs.2.2 j (by omega)]), .inr ⟨by omega, fun k h8 h9 k9 => jw (i := q) (k := k) (by omega) h9 (hq3.trans k9.symm)⟩⟩, A.keep _ (by repeat' constructor), M⟩
    ·
     have hb32' := bne_eq_false_iff_eq.1 hb32
     refine atk (v := bV false) A 10 rfl hP (M.sub ns) (λ_ M↦qb rfl rfl (fun w => (za w).trans (by rw [hb32]))) λa A↦?_
     refine qy (by kernel_rfl) ?_
     refine hK31 _ _ (cf A ?_)
     refine wp_skip (hK30 _ _ (wrl (sdm A λa A↦?_)))
     refine sdo (v := iV (((j + 1 : Nat) : Int))) A (qb rfl rfl (ar_add ((in_i64 (by omega) (by omega)).trans (by omega)))) λa A↦?_
     refine sda A λa A↦?_
     refine qa ?_
     refine hK25 _ _ _ (by omega) ⟨j + 1, rfl, ⟨by omega, by omega, fun t ht => by by_cases h9 : t < j; exact hj3 t h9; rw [show t = j by omega]; exact zk (by simpa using hb32)⟩, A.keep _ (by repeat' constructor), M⟩
   ·
    have hb29' := of_decide_eq_false hb29
    refine sdc A qw hb29 λa A↦?_
    refine qa (hK28 _ _ (cf A ?_))
    refine wp_exit (hK22 _ _ (wsk fun K39 hK39 => wsk fun K40 hK40 => wrl ?_))
    iterate 2 refine sdm A λa A↦?_
    refine sdo (v := iV (((q - (B.length - 1) : Nat) : Int))) A (qb rfl rfl (ar_sub ((in_i64 (by omega) (by omega)).trans (by omega)))) λa A↦?_
    refine sda A λa A↦?_
    refine qa (hK40 _ _ (wr1 hret A ?_))
    exact ⟨_, rfl, .inl ⟨by omega, q, hq1, hq2, fun t ht => hj3 t (by have h9 := of_decide_eq_false hb29; omega)⟩, M.bel⟩
  refine wsk fun K41 hK41 => zi (S := fun w1 => Mg w w1 ([])) (by kernel_rfl) ?_
  replace M := M.drew
  refine amv A 0 rfl hP (M.sub ns) λa A↦?_
  refine amv A 1 rfl hP (M.sub ns) λa A↦?_
  refine atk (v := .int .u8 ((((s7.getD i 0).toNat : Nat) : Int))) A 2 rfl hP (M.sub ns) (λ_ M↦zb (s := s7) (i := i) (b := s7.getD i 0) Tryz.underlying9 rfl rfl rfl (zh (by omega))) λa A↦?_
  refine amv A 3 rfl hP (M.sub ns) λa A↦?_
  refine amv A 4 rfl hP (M.sub ns) λa A↦?_
  refine atk (v := .int .u8 ((((B.getD (B.length - 1) 0).toNat : Nat) : Int))) A 5 rfl hP (M.sub ns) (λ_ M↦zb (s := B) (i := B.length - 1) (b := B.getD (B.length - 1) 0) Tryz.underlying9 rfl rfl rfl (zh (by omega))) λa A↦?_
  rcases tf (((((s7.getD i 0).toNat : Nat) : Int) != (((B.getD (B.length - 1) 0).toNat : Nat) : Int))) with hb42 | hb42
  ·
   have hb42' := bne_iff_ne.1 hb42
   refine atk (v := bV true) A 6 rfl hP (M.sub ns) (λ_ M↦qb rfl rfl (fun w => (za w).trans (by rw [hb42]))) λa A↦?_
   refine qy (by kernel_rfl) ?_
   refine hK41 _ _ (ct A ?_)
   refine wsk fun K43 hK43 => zi (S := fun w1 => Mg w w1 ([])) (by kernel_rfl) ?_
   replace M := M.drew
   refine amv A 0 rfl hP (M.sub ns) λa A↦?_
   refine amv A 1 rfl hP (M.sub ns) λa A↦?_
   refine atk (v := iV (((i + 1 : Nat) : Int))) A 2 rfl hP (M.sub ns) (λ_ M↦qb rfl rfl (ar_add ((in_i64 (by omega) (by omega)).trans (by omega)))) λa A↦?_
   refine atk (v := .string ((tx (s7.drop (i + 1))))) A 3 rfl hP (M.sub ns) (λ_ M↦qs (s := s7) (p := i + 1) Tryz.underlying9 rfl rfl rfl (by omega)) λa A↦?_
   refine amv A 4 rfl hP (M.sub ns) λa A↦?_
   refine amv A 5 rfl hP (M.sub ns) λa A↦?_
   refine atk (v := .int .u8 ((((B.getD (B.length - 1) 0).toNat : Nat) : Int))) A 6 rfl hP (M.sub ns) (λ_ M↦zb (s := B) (i := B.length - 1) (b := B.getD (B.length - 1) 0) Tryz.underlying9 rfl rfl rfl (zh (by omega))) λa A↦?_
   rcases tf (decide (0 ≤ Lib.indexByte (s7.drop (i + 1)) (B.getD (B.length - 1) 0))) with hb45 | hb45
   ·
    have hb45' := of_decide_eq_true hb45
    obtain ⟨o, ho47⟩ := Int.eq_ofNat_of_zero_le (of_decide_eq_true hb45)
    have hoB := (jd h2 ho47 (fun k9 => bne_iff_ne.1 hb42 (by rw [k9])) hi3).1
    refine zv (by kernel_rfl) (ji A 7 rfl rfl rfl rfl (ef rfl rfl) (ib_as (l := s7.drop (i + 1)) (b := B.getD (B.length - 1) 0) ho47) ?_)
    rintro _ w48 ⟨rfl, hb46⟩
    replace M := M.call hb46
    refine ⟨_, rfl, (M.sub ns), ?_⟩
    intro a A
    refine atk A 8 rfl hP (M.sub ns) (λ_ M↦zd rfl) λa A↦?_
    refine qy (by kernel_rfl) ?_
    refine hK43 _ _ (wsk fun K49 hK49 => wsk fun K50 hK50 => wrl (sdm A λa A↦?_))
    refine sdo (v := bV false) A (qb rfl rfl (fun w => (qw w).trans (by rw [show (decide (((o : Nat) : Int) < 0)) = false from (decide_eq_false (by omega))]))) λa A↦?_
    refine qa (hK50 _ _ (cf A ?_))
    refine wp_skip (hK49 _ _ (wrl ?_))
    iterate 2 refine sdm A λa A↦?_
    refine sdo (v := iV (((o + 1 : Nat) : Int))) A (qb rfl rfl (ar_add ((in_i64 (by omega) (by omega)).trans (by omega)))) λa A↦?_
    refine sdo (v := iV (((i + o + 1 : Nat) : Int))) A (qb rfl rfl (ar_add ((in_i64 (by omega) (by omega)).trans (by omega)))) λa A↦?_
    refine sda A λa A↦?_
    refine qa ?_
    exact hJ19 _ _ ⟨i + o + 1, (by obtain ⟨y1, y2, y3⟩ := jd h2 ho47 (fun k9 => bne_iff_ne.1 hb42 (by rw [k9])) hi3; exact ⟨by omega, by omega, y1, y2, y3, hi4.elim id fun k => absurd y2 (k.2 _ (by omega) y1)⟩), A.keep _ (by repeat' constructor), M⟩
   ·
    have hb45' := of_decide_eq_false hb45
    have ho52 : Lib.indexByte (s7.drop (i + 1)) (B.getD (B.length - 1) 0) = -1 := by have h8 := Lib.indexByte_ge (s7.drop (i + 1)) (B.getD (B.length - 1) 0); have h9 := of_decide_eq_false hb45; omega
    refine zv (by kernel_rfl) (ji A 7 rfl rfl rfl rfl (ef rfl rfl) (ib_as (l := s7.drop (i + 1)) (b := B.getD (B.length - 1) 0) ho52) ?_)
    rintro _ w53 ⟨rfl, hb51⟩
    replace M := M.call hb51
    refine ⟨_, rfl, (M.sub ns), ?_⟩
    intro a A
    refine atk A 8 rfl hP (M.sub ns) (λ_ M↦zd rfl) λa A↦?_
    refine qy (by kernel_rfl) ?_
    refine hK43 _ _ (wsk fun K54 hK54 => wsk fun K55 hK55 => wrl (sdm A λa A↦?_))
    refine sdo (v := bV true) A dbK λa A↦?_
    refine qa (hK55 _ _ (ct A ?_))
    refine wsk fun K56 hK56 => wrl (sda A λa A↦?_)
    refine qa (hK56 _ _ (wr1 hret A ?_))
    exact ⟨_, rfl, .inr ⟨by decide, jx h2 ho52 (fun k9 => bne_iff_ne.1 hb42 (by rw [k9])) hi3⟩, M.bel⟩
  ·
   have hb42' := bne_eq_false_iff_eq.1 hb42
   refine atk (v := bV false) A 6 rfl hP (M.sub ns) (λ_ M↦qb rfl rfl (fun w => (za w).trans (by rw [hb42]))) λa A↦?_
   refine qy (by kernel_rfl) ?_
   refine hK41 _ _ (cf A ?_)
   refine wp_skip ?_
   exact hJ19 _ _ ⟨i, (by have y2 : s7.getD i 0 = B.getD (B.length - 1) 0 := zk (by simpa using hb42); exact ⟨hi1, Nat.le_refl _, by omega, y2, hi3, hi4.elim id fun k => absurd y2 (k.2 _ (Nat.le_refl _) (by omega))⟩), A.keep _ (by repeat' constructor), M⟩
 ·
  have hb17' := of_decide_eq_false hb17
  refine sdc A qw hb17 λa A↦?_
  refine qa (hK16 _ _ (cf A ?_))
  refine wp_exit (hK11 _ _ (wsk fun K57 hK57 => wsk fun K58 hK58 => wrl (sda A λa A↦?_)))
  refine qa (hK58 _ _ (wr1 hret A ?_))
  exact ⟨_, rfl, .inr ⟨by decide, fun k hk => hi3 k (by have h8 := hk.2.1; have h9 := of_decide_eq_false hb17; omega) hk⟩, M.bel⟩
theorem zp {w : World} {r : Int} {B : List UInt8} (h2 : 2 ≤ B.length) (h4 : B.length ≤ 4) (h0 : 128 ≤ r) (hne : r ≠ 65533) (hv : Lib.validRune r = true) (henc : Utf8.encode r = tx B) (hx : (∃ k, atS B k) ↔ ln7 r = true) : Calls Tryz.prog 71 #[.string (tx s7), .int .i32 r] w fun e w' => ∃ v : Int, e = .returned (iV v) ∧ decide (0 ≤ v) = ln7 r ∧ Below w.heap.size w w' := (jk h2 h4 h0 hne hv henc).mono fun e w' ⟨v, h1, h3, h5⟩ => by
 refine ⟨v, h1, ?_, h5⟩
 rcases h3 with ⟨h6, h7⟩ | ⟨h6, h7⟩
 ·
  rw [hx.1 h7]; exact decide_eq_true h6
 ·
  rw [show ln7 r = false from Bool.eq_false_iff.2 fun k => (hx.2 k).elim h7]; exact decide_eq_false (by omega)
theorem je {k : Nat} (h : k < 7) : k = 0 ∨ k = 1 ∨ k = 2 ∨ k = 3 ∨ k = 4 ∨ k = 5 ∨ k = 6 := by omega
theorem xe {r : Int} {b0 b1 : UInt8} (h0 : 128 ≤ r) (h1 : r ≤ 2047) (e0 : ((b0.toNat : Nat) : Int) = 192 + r / 64) (e1 : ((b1.toNat : Nat) : Int) = 128 + r % 64) : (∃ k, atS [b0, b1] k) ↔ ln7 r = true := by
 constructor
 ·
  rintro ⟨k, q1, q2, q3⟩
  have z1 : s7.getD k 0 = b1 := q3 0 (by simp)
  have z0 : s7.getD (k - 1) 0 = b0 := q3 1 (by simp)
  subst z1 z0
  apply decide_eq_true
  rcases je q2 with rfl | rfl | rfl | rfl | rfl | rfl | rfl <;> simp [s7] at e0 e1 <;> omega
 ·
  intro h
  have hr : r = 133 := by have := of_decide_eq_true h; omega
  subst hr
  obtain rfl : b0 = 194 := zk (e0.trans (by decide))
  obtain rfl : b1 = 133 := zk (e1.trans (by decide))
  exact ⟨3, by decide, by decide, by decide⟩
theorem xf {r : Int} {b0 b1 b2 : UInt8} (h0 : 2048 ≤ r) (h1 : r ≤ 65535) (e0 : ((b0.toNat : Nat) : Int) = 224 + r / 4096) (e1 : ((b1.toNat : Nat) : Int) = 128 + r / 64 % 64) (e2 : ((b2.toNat : Nat) : Int) = 128 + r % 64) : (∃ k, atS [b0, b1, b2] k) ↔ ln7 r = true := by
 constructor
 ·
  rintro ⟨k, q1, q2, q3⟩
  have z2 : s7.getD k 0 = b2 := q3 0 (by simp)
  have z1 : s7.getD (k - 1) 0 = b1 := q3 1 (by simp)
  have z0 : s7.getD (k - 2) 0 = b0 := q3 2 (by simp)
  subst z2 z1 z0
  apply decide_eq_true
  rcases je q2 with rfl | rfl | rfl | rfl | rfl | rfl | rfl <;> simp [s7] at e0 e1 e2 <;> omega
 ·
  intro h
  have hr : r = 8232 := by have := of_decide_eq_true h; omega
  subst hr
  obtain rfl : b0 = 226 := zk (e0.trans (by decide))
  obtain rfl : b1 = 128 := zk (e1.trans (by decide))
  obtain rfl : b2 = 168 := zk (e2.trans (by decide))
  exact ⟨6, by decide, by decide, by decide⟩
theorem xg {r : Int} {b0 b1 b2 b3 : UInt8} (h0 : 65536 ≤ r) (h1 : r ≤ 1114111) (e0 : ((b0.toNat : Nat) : Int) = 240 + r / 262144) : (∃ k, atS [b0, b1, b2, b3] k) ↔ ln7 r = true := by
 constructor
 ·
  rintro ⟨k, q1, q2, q3⟩
  have z0 : s7.getD (k - 3) 0 = b0 := q3 3 (by simp)
  subst z0
  exfalso
  rcases je q2 with rfl | rfl | rfl | rfl | rfl | rfl | rfl <;> simp [s7] at e0 <;> omega
 ·
  intro h
  have := of_decide_eq_true h
  omega
theorem jo {w : World} {r : Int} (h : C.OkR r) : Calls Tryz.prog 71 #[.string (tx [10, 13, 194, 133, 226, 128, 168]), .int .i32 r] w fun e w' => ∃ v : Int, e = .returned (iV v) ∧ decide (0 ≤ v) = ln7 r ∧ Below w.heap.size w w' := by
 by_cases h128 : r < 128
 ·
  have h0 : 0 ≤ r := by unfold C.OkR at h; omega
  refine (Tryz.strings_IndexRune_ascii (tx [10, 13, 194, 133, 226, 128, 168]) r w h0 h128).mono ?_
  rintro e w' ⟨rfl, rfl⟩
  have := C.ix7 r.toNat (by omega)
  rw [Int.toNat_of_nonneg h0] at this
  exact ⟨_, rfl, this, Below.refl _ _⟩
 ·
  by_cases he : r = 65533
  ·
   subst he
   refine (C.irune_err7 w).mono ?_
   rintro e w' ⟨rfl, hb⟩
   exact ⟨_, rfl, by decide, hb⟩
  ·
   have hv := h.valid
   unfold C.OkR at h
   by_cases h2 : r ≤ 2047
   ·
    exact zp (by simp) (by simp) (by omega) he hv (enc_tx hv (by unfold Lib.encodeRune; rw [Lib.encodeRuneZ_two (by omega) h2]; rfl)) (xe (by omega) h2 (byte_of (x := 192 + r / 64) (by omega) (by omega)) (byte_of (x := 128 + r % 64) (by omega) (by omega)))
   ·
    by_cases h3 : r ≤ 65535
    ·
     exact zp (by simp) (by simp) (by omega) he hv (enc_tx hv (by unfold Lib.encodeRune; rw [Lib.encodeRuneZ_three (by omega)]; rfl)) (xf (by omega) h3 (byte_of (x := 224 + r / 4096) (by omega) (by omega)) (byte_of (x := 128 + r / 64 % 64) (by omega) (by omega)) (byte_of (x := 128 + r % 64) (by omega) (by omega)))
    ·
     exact zp (by simp) (by simp) (by omega) he hv (enc_tx hv (by unfold Lib.encodeRune; rw [Lib.encodeRuneZ_four (by omega) (by omega)]; rfl)) (xg (by omega) (by omega) (byte_of (x := 240 + r / 262144) (by omega) (by omega)))
def lnX (l : List UInt8) : Nat := C.lnN l.length l
theorem zu {w : World} {l : List UInt8} (hl : l.length < 4294967281) : Calls Tryz.prog 51 #[.string (tx l), .string (tx [10, 13, 194, 133, 226, 128, 168])] w fun e w' => (∃ v : Int, e = .returned (iV v) ∧ (v = ((lnX l : Nat) : Int) ∧ lnX l < l.length ∨ v = -1 ∧ lnX l = l.length)) ∧ Below w.heap.size w w' := by
 have := C.iany7 (tx l) (fun r w h => jo h) w (by rw [jf]; exact hl)
 rwa [jf, xd] at this
theorem xh {w : World} {l : List UInt8} (hl : l.length < 4294967281) (h : decide (lnX l < l.length) = true) : Calls Tryz.prog 51 #[.string (tx l), .string (tx [10, 13, 194, 133, 226, 128, 168])] w fun e w' => e = .returned (iV ((lnX l : Nat) : Int)) ∧ Below w.heap.size w w' := (zu hl).mono fun e w' h1 => by
 obtain ⟨⟨v, rfl, h2 | h2⟩, hb⟩ := h1
 ·
  exact ⟨by rw [h2.1], hb⟩
 ·
  exact absurd (of_decide_eq_true h) (by omega)
theorem xi {w : World} {l : List UInt8} (hl : l.length < 4294967281) (h : decide (lnX l < l.length) = false) : Calls Tryz.prog 51 #[.string (tx l), .string (tx [10, 13, 194, 133, 226, 128, 168])] w fun e w' => e = .returned (iV (-1)) ∧ lnX l = l.length ∧ Below w.heap.size w w' := (zu hl).mono fun e w' h1 => by
 obtain ⟨⟨v, rfl, h2 | h2⟩, hb⟩ := h1
 ·
  exact absurd h2.2 (of_decide_eq_false h)
 ·
  exact ⟨by rw [h2.1], h2.2, hb⟩
end Go.Proofs.YtclkfideaameoaaGreatDoor.G
namespace Go.Proofs.YtclkfideaameoaaGreatDoor.G
open Go.RowKit
theorem jm {W : World} {s : ByteArray} {z : Int} (hE : Env W) (hs : s.size ≤ 140737488351232) (h0 : 0 ≤ z) (h1 : z ≤ 255) : Calls Tryz.prog 5 #[.string s, .int .u8 z] W fun e w' => e = .returned (bV true) ∧ Below W.heap.size W w' := by
 obtain ⟨k, rfl⟩ := Int.eq_ofNat_of_zero_le h0
 have h := blanks_any (L := s.data.toList) (k := k) hE (by rw [Array.length_toList]; exact Nat.le_trans hs (by decide)) (by omega)
 have e : tx s.data.toList = s := xj s
 rwa [e] at h
end Go.Proofs.YtclkfideaameoaaGreatDoor.G
namespace Go.Proofs.YtclkfideaameoaaGreatDoor.G
open Go.RowKit
set_option maxRecDepth 100000
theorem RdA_is1_3 : Is1 Tryz.prog 3 := ⟨⟨_, Tryz.underlying3, rfl⟩, by kernel_rfl⟩
theorem RdA_is1_9 : Is1 Tryz.prog 9 := ⟨⟨_, Tryz.underlying9, rfl⟩, by kernel_rfl⟩
theorem RdA_fld_50_0 : FieldAt Tryz.prog 50 0 0 := ⟨_, _, Tryz.underlying50, rfl, rfl, by kernel_rfl⟩
theorem RdA_fld_50_1 : FieldAt Tryz.prog 50 1 1 := ⟨_, _, Tryz.underlying50, rfl, rfl, by kernel_rfl⟩
def flt : List PanicEntry := [{ v := .iface 47 (.agg #[]), recovered := false }]
theorem zy {P : Program} {w : World} {l : List (Nat × Value)} {dst : Option Tmp} {ty t : TypeId} {pos : String} {after : Array Edge} {guard : Option (Nat × Bool)} {x : Operand} {v : Value} (ht : P.concrete t = true) (hx : ev l x = some v) : Does P l ⟨dst, .makeInterface t x, ty, pos, after, guard⟩ w (.iface t v) w := fun ρ h => by
 simp [execOp, h x _ hx, run_makeInterface w t v ht]
theorem jn {w : World} : Calls Tryz.prog 23 #[bV true] w fun e w' => e = .returned (.tuple #[]) ∧ Below w.heap.size w w' := by
 have M : Mg w w ([]) := Mg.start w
 refine qr (l := [(0, bV true)]) Tryz.func23 rfl Tryz.ntmps23 rfl rfl ?_
 intro Q hret hnorm hP a A
 refine wsk fun K1 hK1 => wrl (sdm A λa A↦?_)
 refine sdo (v := bV false) A (zm rfl zr) λa A↦?_
 refine qa (hK1 _ _ (cf A ?_))
 refine wp_skip (hnorm _ _ (xk (v := .tuple #[]) A rfl .nil rfl ?_))
 exact ⟨rfl, M.bel⟩
theorem zw {w : World} : Calls Tryz.prog 23 #[bV false] w fun e w' => e = .panicked flt ∧ Below w.heap.size w w' := by
 have M : Mg w w ([]) := Mg.start w
 refine zx (l := [(0, bV false)]) Tryz.func23 rfl Tryz.ntmps23 rfl rfl ?_
 intro Q hret hnorm hP hX a A
 refine wsk fun K1 hK1 => wrl (sdm A λa A↦?_)
 refine sdo (v := bV true) A (zm rfl zr) λa A↦?_
 refine qa (hK1 _ _ (ct A ?_))
 refine wrl (sdo (v := .agg #[]) A (jl rfl (fun w => by kernel_rfl)) λa A↦?_)
 refine sdo (v := .iface 47 (.agg #[])) A (zy (by kernel_rfl) rfl) λa A↦?_
 refine jp (v := .iface 47 (.agg #[])) A rfl (fun ρ h => by simp only [execOp, h (.tmp 5) _ rfl]; rfl) ?_
 exact hX _ _ _ _ _ A ⟨rfl, M.bel⟩
theorem qz {w0 w : World} {g p : Nat} {lg : Bool} {L : List UInt8} {T : List Ck} (hp : p ≤ L.length) (hM0 : Mg w0 w (.obj g (rC L p lg) :: T)) : Calls Tryz.prog 21 #[pA g 0] w fun e w' => e = .returned (.string (tx (L.drop p))) ∧ Mg w0 w' (.obj g (rC L p lg) :: T) := by
 have M : Mg w0 w (.obj g (rC L p lg) :: T) := hM0
 refine qr (l := [(0, pA g 0)]) Tryz.func21 rfl Tryz.ntmps21 rfl rfl ?_
 intro Q hret hnorm hP a A
 refine wsk fun K1 hK1 => wrl (sda A λa A↦?_)
 refine qa (hK1 _ _ (wsk fun K2 hK2 => zi (S := fun w1 => Mg w0 w1 (.obj g (rC L p lg) :: [])) (by kernel_rfl) ?_))
 replace M := M.drew
 refine amv A 0 rfl hP (M.sub (cc ns)) λa A↦?_
 refine atk A 1 rfl hP (M.sub (cc ns)) (λ_ M↦zf rfl) λa A↦?_
 refine atk (v := pA g 0) A 2 rfl hP (M.sub (cc ns)) (λ_ M↦qj RdA_fld_50_0 rfl rfl) λa A↦?_
 refine atk A 3 rfl hP (M.sub (cc ns)) (λ_ M↦zt M RdA_is1_9 rfl 0 rfl rfl) λa A↦?_
 refine amv A 4 rfl hP (M.sub (cc ns)) λa A↦?_
 refine atk A 5 rfl hP (M.sub (cc ns)) (λ_ M↦zf rfl) λa A↦?_
 refine atk (v := pA g 1) A 6 rfl hP (M.sub (cc ns)) (λ_ M↦qj RdA_fld_50_1 rfl rfl) λa A↦?_
 refine atk A 7 rfl hP (M.sub (cc ns)) (λ_ M↦zt M RdA_is1_3 rfl 0 rfl rfl) λa A↦?_
 refine atk (v := .string ((tx (L.drop p)))) A 8 rfl hP (M.sub (cc ns)) (λ_ M↦qs (s := L) (p := p) Tryz.underlying9 rfl rfl rfl (by omega)) λa A↦?_
 refine atk A 9 rfl hP (M.sub (cc ns)) (λ_ M↦zd rfl) λa A↦?_
 refine qy (by kernel_rfl) ?_
 refine hK2 _ _ (wr1 hret A ?_)
 exact ⟨rfl, M⟩
end Go.Proofs.YtclkfideaameoaaGreatDoor.G
∧ Mg w0 w' (.obj g (rC L p lg) :: T) := by
 have M : Mg w0 w (.obj g (rC L p lg) :: T) := hM0
 refine qr (l := [(0, pA g 0), (1, .string ((tx t)))]) Tryz.func32 rfl Tryz.ntmps32 rfl rfl ?_
 intro Q hret hnorm hP a A
 refine wsk fun K1 hK1 => wrl (sda A λa A↦?_)
 refine qa (hK1 _ _ (wsk fun K2 hK2 => wsk fun K3 hK3 => wrl (sdm A λa A↦?_)))
 refine sct A (ef rfl rfl) (qz (p := p) (L := L) (T := (T)) (by omega) M) ?_
 rintro _ w5 ⟨rfl, hM4⟩
 replace M : Mg w0 w5 (.obj g (rC L p lg) :: T) := hM4
 refine ⟨_, rfl, ?_⟩
 intro a A
 refine sdm A λa A↦?_
 refine gcl A M (ef rfl rfl) ((hp_as hh)) fun w7 hb6 M a A => ?_
 refine sdo (v := bV true) A (zm rfl zr) λa A↦?_
 refine qa (hK3 _ _ (ct A ?_))
 refine wsk fun K8 hK8 => wrl (sda A λa A↦?_)
 refine qa (hK8 _ _ (wr1 hret A ?_))
 exact ⟨rfl, M⟩
theorem xa {w0 w : World} {g p : Nat} {lg : Bool} {L : List UInt8} {T : List Ck} (hT : Tb w0) (hp : p ≤ L.length) (hl : L.length ≤ 1000000000) (hne : L.drop p ≠ []) (hM0 : Mg w0 w (.obj g (rC L p lg) :: T)) : Calls Tryz.prog 53 #[pA g 0] w fun e w' => e = .returned (.int .i32 (((dcX (L.drop p)).1 : Nat) : Int)) ∧ Mg w0 w' (.obj g (rC L (p + (dcX (L.drop p)).2) lg) :: T) := by
 obtain ⟨hw1, hw2⟩ := dcX_wide hne
 rw [List.length_drop] at hw2
 have M : Mg w0 w (.obj g (rC L p lg) :: T) := hM0
 refine qr (l := [(0, pA g 0)]) Tryz.func53 rfl Tryz.ntmps53 rfl rfl ?_
 intro Q hret hnorm hP a A
 refine wsk fun K1 hK1 => wrl (sda A λa A↦?_)
 refine qa (hK1 _ _ (wsk fun K2 hK2 => wrl (sdm A λa A↦?_)))
 refine sct A (ef rfl rfl) (qz (p := p) (L := L) (T := (T)) (by omega) M) ?_
 rintro _ w4 ⟨rfl, hM3⟩
 replace M : Mg w0 w4 (.obj g (rC L p lg) :: T) := hM3
 refine ⟨_, rfl, ?_⟩
 intro a A
 refine gcl A M (ef rfl rfl) (dc_any (l := L.drop p) (hT.below M.bel)) fun w6 hb5 M a A => ?_
 refine sdm A λa A↦?_
 iterate 2 refine sdo A (qp (vs := [.int .i32 ((((dcX (L.drop p)).1 : Nat) : Int)), iV ((((dcX (L.drop p)).2 : Nat) : Int))]) rfl rfl) λa A↦?_
 iterate 2 refine sda A λa A↦?_
 refine qa (hK2 _ _ (wsk fun K7 hK7 => wrl (sdm A λa A↦?_)))
 refine sdo (v := bV true) A (qb rfl rfl (fun w => (qx w).trans (by rw [show (decide (0 < (((dcX (L.drop p)).2 : Nat) : Int))) = true from (decide_eq_true (by omega))]))) λa A↦?_
 refine gcl A M (ef rfl rfl) (jn) fun w9 hb8 M a A => ?_
 refine qa (hK7 _ _ (wsk fun K10 hK10 => wrl (sdm A λa A↦?_)))
 refine sdo A (zf rfl) λa A↦?_
 refine sdo (v := pA g 1) A (qj RdB_fld_50_1 rfl rfl) λa A↦?_
 refine sdo A (zt M RdB_is1_3 rfl 0 rfl rfl) λa A↦?_
 refine sdm A λa A↦?_
 refine sdo (v := iV (((p + (dcX (L.drop p)).2 : Nat) : Int))) A (qb rfl rfl (ar_add ((in_i64 (by omega) (by omega)).trans (by omega)))) λa A↦?_
 refine sdo A (zf rfl) λa A↦?_
 refine sdo (v := pA g 1) A (qj RdB_fld_50_1 rfl rfl) λa A↦?_
 refine jz (L' := (.obj g (rC L (p + (dcX (L.drop p)).2) lg) :: T)) A M rfl rfl (jy rfl rfl rfl (by kernel_rfl) M 0 rfl rfl rfl) 0 rfl rfl rfl ?_
 intro w11 M
 refine qa (hK10 _ _ (wsk fun K12 hK12 => wrl (sdm A λa A↦?_)))
 refine sda A λa A↦?_
 refine qa (hK12 _ _ (wr1 hret A ?_))
 exact ⟨rfl, M⟩
theorem jt {w0 w : World} {g p : Nat} {lg : Bool} {L : List UInt8} {T : List Ck} (hT : Tb w0) (hp : p ≤ L.length) (hl : L.length ≤ 1000000000) (hne : L.drop p = []) (hM0 : Mg w0 w (.obj g (rC L p lg) :: T)) : Calls Tryz.prog 53 #[pA g 0] w fun e w' => e = .panicked flt ∧ Mg w0 w' (.obj g (rC L p lg) :: T) := by
 have hw1 : (dcX (L.drop p)).2 = 0 := by rw [hne]; rfl
 have M : Mg w0 w (.obj g (rC L p lg) :: T) := hM0
 refine zx (l := [(0, pA g 0)]) Tryz.func53 rfl Tryz.ntmps53 rfl rfl ?_
 intro Q hret hnorm hP hX a A
 refine wsk fun K1 hK1 => wrl (sda A λa A↦?_)
 refine qa (hK1 _ _ (wsk fun K2 hK2 => wrl (sdm A λa A↦?_)))
 refine sct A (ef rfl rfl) (qz (p := p) (L := L) (T := (T)) (by omega) M) ?_
 rintro _ w4 ⟨rfl, hM3⟩
 replace M : Mg w0 w4 (.obj g (rC L p lg) :: T) := hM3
 refine ⟨_, rfl, ?_⟩
 intro a A
 refine gcl A M (ef rfl rfl) (dc_any (l := L.drop p) (hT.below M.bel)) fun w6 hb5 M a A => ?_
 refine sdm A λa A↦?_
 iterate 2 refine sdo A (qp (vs := [.int .i32 ((((dcX (L.drop p)).1 : Nat) : Int)), iV ((((dcX (L.drop p)).2 : Nat) : Int))]) rfl rfl) λa A↦?_
 iterate 2 refine sda A λa A↦?_
 refine qa (hK2 _ _ (wsk fun K7 hK7 => wrl (sdm A λa A↦?_)))
 refine sdo (v := bV false) A (qb rfl rfl (fun w => (qx w).trans (by rw [show (decide (0 < (((dcX (L.drop p)).2 : Nat) : Int))) = false from (decide_eq_false (by omega))]))) λa A↦?_
 refine zq A rfl rfl rfl (ef rfl rfl) (zw) ?_
 rintro _ w9 ⟨rfl, hp10⟩
 exact .inl ⟨_, rfl, hX _ _ _ _ _ A (⟨rfl, M.call hp10⟩)⟩
end Go.Proofs.YtclkfideaameoaaGreatDoor.G
true) A λa A↦?_
     refine sda A λa A↦?_
     refine qa (hK2 _ _ (wr1 hret A ?_))
     exact ⟨by unfold isHx; rw [hb3, hb4, hb5, hb6]; rfl, M.bel⟩
    ·
     have hb6' := of_decide_eq_false hb6
     refine sdc A qn hb6 λa A↦?_
     iterate 2 refine sdk (v := bV false) A λa A↦?_
     iterate 2 refine sdm A λa A↦?_
     rcases tf (decide (65 ≤ ((b.toNat : Nat) : Int))) with hb7 | hb7
     ·
      have hb7' := of_decide_eq_true hb7
      refine sdc A ql hb7 λa A↦?_
      iterate 2 refine sdm A λa A↦?_
      rcases tf (decide (((b.toNat : Nat) : Int) ≤ 70)) with hb8 | hb8
      ·
       have hb8' := of_decide_eq_true hb8
       refine sdc A qn hb8 λa A↦?_
       iterate 2 refine sdk (v := bV true) A λa A↦?_
       refine sda A λa A↦?_
       refine qa (hK2 _ _ (wr1 hret A ?_))
       exact ⟨by unfold isHx; rw [hb3, hb4, hb5, hb6, hb7, hb8]; rfl, M.bel⟩
      ·
       have hb8' := of_decide_eq_false hb8
       refine sdc A qn hb8 λa A↦?_
       iterate 2 refine sdk (v := bV false) A λa A↦?_
       refine sda A λa A↦?_
       refine qa (hK2 _ _ (wr1 hret A ?_))
       exact ⟨by unfold isHx; rw [hb3, hb4, hb5, hb6, hb7, hb8]; rfl, M.bel⟩
     ·
      have hb7' := of_decide_eq_false hb7
      refine sdc A ql hb7 λa A↦?_
      refine sdm A λa A↦?_
      iterate 2 refine qg A rfl rfl rfl λa A↦?_
      iterate 2 refine sdk (v := bV false) A λa A↦?_
      refine sda A λa A↦?_
      refine qa (hK2 _ _ (wr1 hret A ?_))
      exact ⟨by unfold isHx; rw [hb3, hb4, hb5, hb6, hb7]; rfl, M.bel⟩
   ·
    have hb5' := of_decide_eq_false hb5
    refine sdc A ql hb5 λa A↦?_
    refine sdm A λa A↦?_
    iterate 2 refine qg A rfl rfl rfl λa A↦?_
    iterate 2 refine sdk (v := bV false) A λa A↦?_
    iterate 2 refine sdm A λa A↦?_
    rcases tf (decide (65 ≤ ((b.toNat : Nat) : Int))) with hb9 | hb9
    ·
     have hb9' := of_decide_eq_true hb9
     refine sdc A ql hb9 λa A↦?_
     iterate 2 refine sdm A λa A↦?_
     rcases tf (decide (((b.toNat : Nat) : Int) ≤ 70)) with hb10 | hb10
     ·
      have hb10' := of_decide_eq_true hb10
      refine sdc A qn hb10 λa A↦?_
      iterate 2 refine sdk (v := bV true) A λa A↦?_
      refine sda A λa A↦?_
      refine qa (hK2 _ _ (wr1 hret A ?_))
      exact ⟨by unfold isHx; rw [hb3, hb4, hb5, hb9, hb10]; rfl, M.bel⟩
     ·
      have hb10' := of_decide_eq_false hb10
      refine sdc A qn hb10 λa A↦?_
      iterate 2 refine sdk (v := bV false) A λa A↦?_
      refine sda A λa A↦?_
      refine qa (hK2 _ _ (wr1 hret A ?_))
      exact ⟨by unfold isHx; rw [hb3, hb4, hb5, hb9, hb10]; rfl, M.bel⟩
    ·
     have hb9' := of_decide_eq_false hb9
     refine sdc A ql hb9 λa A↦?_
     refine sdm A λa A↦?_
     iterate 2 refine qg A rfl rfl rfl λa A↦?_
     iterate 2 refine sdk (v := bV false) A λa A↦?_
     refine sda A λa A↦?_
     refine qa (hK2 _ _ (wr1 hret A ?_))
     exact ⟨by unfold isHx; rw [hb3, hb4, hb5, hb9]; rfl, M.bel⟩
 ·
  have hb3' := of_decide_eq_false hb3
  refine sdc A ql hb3 λa A↦?_
  refine sdm A λa A↦?_
  iterate 2 refine qg A rfl rfl rfl λa A↦?_
  refine sdk (v := bV false) A λa A↦?_
  iterate 2 refine sdm A λa A↦?_
  rcases tf (decide (97 ≤ ((b.toNat : Nat) : Int))) with hb11 | hb11
  ·
   have hb11' := of_decide_eq_true hb11
   refine sdc A ql hb11 λa A↦?_
   iterate 2 refine sdm A λa A↦?_
   rcases tf (decide (((b.toNat : Nat) : Int) ≤ 102)) with hb12 | hb12
   ·
    have hb12' := of_decide_eq_true hb12
    refine sdc A qn hb12 λa A↦?_
    iterate 2 refine sdk (v := bV true) A λa A↦?_
    refine sdm A λa A↦?_
    iterate 3 refine qg A rfl rfl rfl λa A↦?_
    iterate 2 refine jq A rfl rfl rfl λa A↦?_
    refine qg A rfl rfl rfl λa A↦?_
    refine sdk (v := bV true) A λa A↦?_
    refine sda A λa A↦?_
    refine qa (hK2 _ _ (wr1 hret A ?_))
    exact ⟨by unfold isHx; rw [hb3, hb11, hb12]; rfl, M.bel⟩
   ·
    have hb12' := of_decide_eq_false hb12
    refine sdc A qn hb12 λa A↦?_
    iterate 2 refine sdk (v := bV false) A λa A↦?_
    iterate 2 refine sdm A λa A↦?_
    rcases tf (decide (65 ≤ ((b.toNat : Nat) : Int))) with hb13 | hb13
    ·
     have hb13' := of_decide_eq_true hb13
     refine sdc A ql hb13 λa A↦?_
     iterate 2 refine sdm A λa A↦?_
     rcases tf (decide (((b.toNat : Nat) : Int) ≤ 70)) with hb14 | hb14
     ·
      have hb14' := of_decide_eq_true hb14
      refine sdc A qn hb14 λa A↦?_
      iterate 2 refine sdk (v := bV true) A λa A↦?_
      refine sda A λa A↦?_
      refine qa (hK2 _ _ (wr1 hret A ?_))
      exact ⟨by unfold isHx; rw [hb3, hb11, hb12, hb13, hb14]; rfl, M.bel⟩
     ·
      have hb14' := of_decide_eq_false hb14
      refine sdc A qn hb14 λa A↦?_
      iterate 2 refine sdk (v := bV false) A λa A↦?_
      refine sda A λa A↦?_
      refine qa (hK2 _ _ (wr1 hret A ?_))
      exact ⟨by unfold isHx; rw [hb3, hb11, hb12, hb13, hb14]; rfl, M.bel⟩
    ·
     have hb13' := of_decide_eq_false hb13
     refine sdc A ql hb13 λa A↦?_
     refine sdm A λa A↦?_
     iterate 2 refine qg A rfl rfl rfl λa A↦?_
     iterate 2 refine sdk (v := bV false) A λa A↦?_
     refine sda A λa A↦?_
     refine qa (hK2 _ _ (wr1 hret A ?_))
     exact ⟨by unfold isHx; rw [hb3, hb11, hb12, hb13]; rfl, M.bel⟩
  ·
   have hb11' := of_decide_eq_false hb11
   refine sdc A ql hb11 λa A↦?_
   refine sdm A λa A↦?_
   iterate 2 refine qg A rfl rfl rfl λa A↦?_
   iterate 2 refine sdk (v := bV false) A λa A↦?_
   iterate 2 refine sdm A λa A↦?_
   rcases tf (decide (65 ≤ ((b.toNat : Nat) : Int))) with hb15 | hb15
   ·
    have hb15' := of_decide_eq_true hb15
    refine sdc A ql hb15 λa A↦?_
    iterate 2 refine sdm A λa A↦?_
    rcases tf (decide (((b.toNat : Nat) : Int) ≤ 70)) with hb16 | hb16
    ·
     have hb16' := of_decide_eq_true hb16
     refine sdc A qn hb16 λa A↦?_
     iterate 2 refine sdk (v := bV true) A λa A↦?_
     refine sda A λa A↦?_
     refine qa (hK2 _ _ (wr1 hret A ?_))
     exact ⟨by unfold isHx; rw [hb3, hb11, hb15, hb16]; rfl, M.bel⟩
    ·
     have hb16' := of_decide_eq_false hb16
     refine sdc A qn hb16 λa A↦?_
     iterate 2 refine sdk (v := bV false) A λa A↦?_
     refine sda A λa A↦?_
     refine qa (hK2 _ _ (wr1 hret A ?_))
     exact ⟨by unfold isHx; rw [hb3, hb11, hb15, hb16]; rfl, M.bel⟩
   ·
    have hb15' := of_decide_eq_false hb15
    refine sdc A ql hb15 λa A↦?_
    refine sdm A λa A↦?_
    iterate 2 refine qg A rfl rfl rfl λa A↦?_
    iterate 2 refine sdk (v := bV false) A λa A↦?_
    refine sda A λa A↦?_
    refine qa (hK2 _ _ (wr1 hret A ?_))
    exact ⟨by unfold isHx; rw [hb3, hb11, hb15]; rfl, M.bel⟩
theorem jb {w : World} {b : UInt8} {c : Bool} (h : isHx b = c) : Calls Tryz.prog 116 #[.int .u8 ((b.toNat : Nat) : Int)] w fun e w' => e = .returned (bV c) ∧ Below w.heap.size w w' := h ▸ hex_any
theorem jc {w : World} {l : List UInt8} (hT : Tb w) (hl : l.length ≤ 1000000000) : Calls Tryz.prog 86 #[.string (tx l)] w fun e w' => e = .returned (iV ((tiedN l : Nat) : Int)) ∧ Below w.heap.size w w' := by
 have M : Mg w w ([]) := Mg.start w
 refine qr (l := [(0, .string ((tx l)))]) Tryz.func86 rfl Tryz.ntmps86 rfl rfl ?_
 intro Q hret hnorm hP a A
 refine wsk fun K1 hK1 => wrl (sda A λa A↦?_)
 refine qa (hK1 _ _ (wsk fun K2 hK2 => wrl (sdm A λa A↦?_)))
 refine sct A (ef rfl rfl) (dc_any (l := l) (hT.below M.bel)) ?_
 rintro _ w4 ⟨rfl, hb3⟩
 obtain ⟨q, hq⟩ : ∃ q, (dcX l).2 = q := ⟨_, rfl⟩
 have hql := dcX_le l
 rw [hq] at hql ⊢
 replace M := M.call hb3
 refine ⟨_, rfl, ?_⟩
 intro a A
 refine sdm A λa A↦?_
 iterate 2 refine sdo A (qp (vs := [.int .i32 ((((dcX l).1 : Nat) : Int)), iV (((q : Nat) : Int))]) rfl rfl) λa A↦?_
 iterate 2 refine sda A λa A↦?_
 refine qa (hK2 _ _ (wsk fun K5 hK5 => wrl (sda A λa A↦?_)))
 refine qa (hK5 _ _ (wsk fun K6 hK6 => wp_block (zl (fun m_ a w1 => ∃ (j : Nat), m_ = 1 + (l.length - (q + j)) ∧ (q + j ≤ l.length ∧ hxN (l.drop q) = j + hxN (l.drop (q + j))) ∧ Sl a 41 [(0, .string ((tx l))), (2, iV 0), (3, .int .i32 ((((dcX l).1 : Nat) : Int))), (4, iV (((q : Nat) : Int))), (5, iV (((j : Nat) : Int))), (6, .tuple #[.int .i32 ((((dcX l).1 : Nat) : Int)), iV (((q : Nat) : Int))]), (7, .string ((tx l))), (8, .tuple #[.int .i32 ((((dcX l).1 : Nat) : Int)), iV (((q : Nat) : Int))]), (9, .int .i32 ((((dcX l).1 : Nat) : Int))), (10, iV (((q : Nat) : Int)))] ∧ Mg w w1 ([])) _ ⟨0, rfl, ⟨by omega, by rw [Nat.zero_add, Nat.add_zero]⟩, A.keep _ (by repeat' constructor), M⟩ ?_)))
 clear M A
 rintro m_ a w7 ⟨j, rfl, hinv9, A, M⟩ K8 hK8
 obtain ⟨hj0, hj⟩ := hinv9
 refine wsk fun K10 hK10 => wsk fun K11 hK11 => wrl ?_
 iterate 2 refine sdm A λa A↦?_
 refine sdo (v := iV (((q + j : Nat) : Int))) A (qb rfl rfl (ar_add ((in_i64 (by omega) (by omega)).trans (by omega)))) λa A↦?_
 refine sdm A λa A↦?_
 refine sdo (v := iV (((l.length : Nat) : Int))) A (zg (s := l) Tryz.underlying9 rfl) λa A↦?_
 rcases tf (decide (((q + j : Nat) : Int) < ((l.length : Nat) : Int))) with hb12 | hb12
 ·
  have hb12' := of_decide_eq_true hb12
  refine sdc A qw hb12 λa A↦?_
  iterate 4 refine sdm A λa A↦?_
  refine sdo (v := iV (((q + j : Nat) : Int))) A (qb rfl rfl (ar_add ((in_i64 (by omega) (by omega)).trans (by omega)))) λa A↦?_
  obtain ⟨b13, hb14⟩ : ∃ b, l[q + j]? = some b := ⟨_, List.getElem?_eq_getElem (show q + j < l.length by omega)⟩
  refine sdo (v := .int .u8 (((b13.toNat : Nat) : Int))) A (zb (s := l) (i := q + j) Tryz.underlying9 rfl rfl rfl hb14) λa A↦?_
  rcases tf (isHx b13) with hb15 | hb15
  ·
   refine gcl A M (ef rfl rfl) ((jb hb15)) fun w17 hb16 M a A => ?_
   refine sdk (v := bV true) A λa A↦?_
   refine qa (hK11 _ _ (ct A ?_))
   refine wp_skip (hK10 _ _ (wp_block (wrl (sdm A λa A↦?_))))
   refine sdo (v := iV (((j + 1 : Nat) : Int))) A (qb rfl rfl (ar_add ((in_i64 (by omega) (by omega)).trans (by omega)))) λa A↦?_
   refine sda A λa A↦?_
   refine qa ?_
   refine hK8 _ _ _ (by omega) ⟨j + 1, rfl, ⟨by omega, by rw [hj, hxN_hit hb14 hb15, Nat.add_assoc]; omega⟩, A.keep _ (by repeat' constructor), M⟩
  ·
   refine gcl A M (ef rfl rfl) ((jb hb15)) fun w19 hb18 M a A => ?_
   refine sdk (v := bV false) A λa A↦?_
   refine qa (hK11 _ _ (cf A ?_))
   refine wp_exit (hK6 _ _ (wsk fun K20 hK20 => wrl ?_))
   iterate 2 refine sdm A λa A↦?_
   refine sdo (v := iV (((q + j : Nat) : Int))) A (qb rfl rfl (ar_add ((in_i64 (by omega) (by omega)).trans (by omega)))) λa A↦?_
   refine sda A λa A↦?_
   refine qa (hK20 _ _ (wsk fun K21 hK21 => wsk fun K22 hK22 => wrl (sdm A λa A↦?_)))
   rcases tf (decide (0 < ((j : Nat) : Int))) with hb23 | hb23
   ·
    have hb23' := of_decide_eq_true hb23
    refine sdc A qx hb23 λa A↦?_
    iterate 3 refine sdm A λa A↦?_
    refine sdo (v := .string ((tx (l.drop (q + j))))) A (qs (s := l) (p := q + j) Tryz.underlying9 rfl rfl rfl (by omega)) λa A↦?_
    rcases tf (Lib.hasPrefix (l.drop (q + j)) [59]) with hb24 | hb24
    ·
     refine gcl A M (ef rfl rfl) ((hp_as hb24)) fun w26 hb25 M a A => ?_
     refine sdk (v := bV true) A λa A↦?_
     refine qa (hK22 _ _ (ct A ?_))
     refine wrl (sdm A λa A↦?_)
     refine sdo (v := iV (((q + j + 1 : Nat) : Int))) A (qb rfl rfl (ar_add ((in_i64 (by omega) (by omega)).trans (by omega)))) λa A↦?_
     refine sda A λa A↦?_
     refine qa (hK21 _ _ (wsk fun K27 hK27 => wrl (sdm A λa A↦?_)))
     refine sda A λa A↦?_
     refine qa (hK27 _ _ (wr1 hret A ?_))
     have hz : hxN (l.drop (q + j)) = 0 := by first | exact hxN_not (by assumption) (by assumption) | exact hxN_end (by omega)
     have hjj : hxN (l.drop q) = j := by omega
     exact ⟨by unfold tiedN; rw [hq, hjj, hb24, if_pos (by rw [decide_eq_true (by omega)]; rfl)], M.bel⟩
    ·
     refine gcl A M (ef rfl rfl) ((hp_as hb24)) fun w29 hb28 M a A => ?_
     refine sdk (v := bV false) A λa A↦?_
     refine qa (hK22 _ _ (cf A ?_))
     refine wp_skip (hK21 _ _ (wsk fun K30 hK30 => wrl (sdm A λa A↦?_)))
     refine sda A λa A↦?_
     refine qa (hK30 _ _ (wr1 hret A ?_))
     have hz : hxN (l.drop (q + j)) = 0 := by first | exact hxN_not (by assumption) (by assumption) | exact hxN_end (by omega)
     have hjj : hxN (l.drop q) = j := by omega
     exact ⟨by unfold tiedN; rw [hq, hjj, hb24, if_neg (by rw [Bool.and_false]; decide)]; rfl, M.bel⟩
   ·
    have hb23' := of_decide_eq_false hb23
    refine sdc A qx hb23 λa A↦?_
    refine sdm A λa A↦?_
    iterate 4 refine qg A rfl rfl rfl λa A↦?_
    refine sdk (v := bV false) A λa A↦?_
    refine qa (hK22 _ _ (cf A ?_))
    refine wp_skip (hK21 _ _ (wsk fun K31 hK31 => wrl (sdm A λa A↦?_)))
    refine sda A λa A↦?_
    refine qa (hK31 _ _ (wr1 hret A ?_))
    have hz : hxN (l.drop (q + j)) = 0 := by first | exact hxN_not (by assumption) (by assumption) | exact hxN_end (by omega)
    have hjj : hxN (l.drop q) = j := by omega
    exact ⟨by unfold tiedN; rw [hq, hjj, if_neg (by rw [decide_eq_false (by omega), Bool.false_and]; decide)]; rfl, M.bel⟩
 ·
  have hb12' := of_decide_eq_false hb12
  refine sdc A qw hb12 λa A↦?_
  refine sdm A λa A↦?_
  iterate 6 refine qg A rfl rfl rfl λa A↦?_
  refine sdk (v := bV false) A λa A↦?_
  refine qa (hK11 _ _ (cf A ?_))
  refine wp_exit (hK6 _ _ (wsk fun K32 hK32 => wrl ?_))
  iterate 2 refine sdm A λa A↦?_
  refine sdo (v := iV (((q + j : Nat) : Int))) A (qb rfl rfl (ar_add ((in_i64 (by omega) (by omega)).trans (by omega)))) λa A↦?_
  refine sda A λa A↦?_
  refine qa (hK32 _ _ (wsk fun K33 hK33 => wsk fun K34 hK34 => wrl (sdm A λa A↦?_)))
  rcases tf (decide (0 < ((j : Nat) : Int))) with hb35 | hb35
  ·
   have hb35' := of_decide_eq_true hb35
   refine sdc A qx hb35 λa A↦?_
   iterate 3 refine sdm A λa A↦?_
   refine sdo (v := .string ((tx (l.drop (q + j))))) A (qs (s := l) (p := q + j) Tryz.underlying9 rfl rfl rfl (by omega)) λa A↦?_
   rcases tf (Lib.hasPrefix (l.drop (q + j)) [59]) with hb36 | hb36
   ·
    refine gcl A M (ef rfl rfl) ((hp_as hb36)) fun w38 hb37 M a A => ?_
    refine sdk (v := bV true) A λa A↦?_
    refine qa (hK34 _ _ (ct A ?_))
    refine wrl (sdm A λa A↦?_)
    refine sdo (v := iV (((q + j + 1 : Nat) : Int))) A (qb rfl rfl (ar_add ((in_i64 (by omega) (by omega)).trans (by omega)))) λa A↦?_
    refine sda A λa A↦?_
    refine qa (hK33 _ _ (wsk fun K39 hK39 => wrl (sdm A λa A↦?_)))
    refine sda A λa A↦?_
    refine qa (hK39 _ _ (wr1 hret A ?_))
    have hz : hxN (l.drop (q + j)) = 0 := by first | exact hxN_not (by assumption) (by assumption) | exact hxN_end (by omega)
    have hjj : hxN (l.drop q) = j := by omega
    exact ⟨by unfold tiedN; rw [hq, hjj, hb36, if_pos (by rw [decide_eq_true (by omega)]; rfl)], M.bel⟩
   ·
    refine gcl A M (ef rfl rfl) ((hp_as hb36)) fun w41 hb40 M a A => ?_
    refine sdk (v := bV false) A λa A↦?_
    refine qa (hK34 _ _ (cf A ?_))
    refine wp_skip (hK33 _ _ (wsk fun K42 hK42 => wrl (sdm A λa A↦?_)))
    refine sda A λa A↦?_
    refine qa (hK42 _ _ (wr1 hret A ?_))
    have hz : hxN (l.drop (q + j)) = 0 := by first | exact hxN_not (by assumption) (by assumption) | exact hxN_end (by omega)
    have hjj : hxN (l.drop q) = j := by omega
    exact ⟨by unfold tiedN; rw [hq, hjj, hb36, if_neg (by rw [Bool.and_false]; decide)]; rfl, M.bel⟩
  ·
   have hb35' := of_decide_eq_false hb35
   refine sdc A qx hb35 λa A↦?_
   refine sdm A λa A↦?_
   iterate 4 refine qg A rfl rfl rfl λa A↦?_
   refine sdk (v := bV false) A λa A↦?_
   refine qa (hK34 _ _ (cf A ?_))
   refine wp_skip (hK33 _ _ (wsk fun K43 hK43 => wrl (sdm A λa A↦?_)))
   refine sda A λa A↦?_
   refine qa (hK43 _ _ (wr1 hret A ?_))
   have hz : hxN (l.drop (q + j)) = 0 := by first | exact hxN_not (by assumption) (by assumption) | exact hxN_end (by omega)
   have hjj : hxN (l.drop q) = j := by omega
   exact ⟨by unfold tiedN; rw [hq, hjj, if_neg (by rw [decide_eq_false (by omega), Bool.false_and]; decide)]; rfl, M.bel⟩
end Go.Proofs.YtclkfideaameoaaGreatDoor.G
 ((delim_as (okR_dc _) hb15)) fun w17 hb16 M a A => ?_
   refine qa (hK14 _ _ (ct A ?_))
   refine wp_exit (hK3 _ _ (wsk fun K18 hK18 => wrl ?_))
   iterate 2 refine sdm A λa A↦?_
   refine sdo (v := .string ((tx (l.take n)))) A (zs (s := l) (p := n) Tryz.underlying9 rfl rfl rfl (by omega)) λa A↦?_
   refine sda A λa A↦?_
   refine qa (hK18 _ _ (wr1 hret A ?_))
   exact ⟨by rw [hn, show tokN (f + 1) (l.drop n) = 0 from tok_stop hb15, Nat.add_zero], M.bel⟩
  ·
   refine gcl A M (ef rfl rfl) ((delim_as (okR_dc _) hb15)) fun w20 hb19 M a A => ?_
   refine qa (hK14 _ _ (cf A ?_))
   refine wp_skip (hK13 _ _ (wsk fun K21 hK21 => wrl ?_))
   iterate 2 refine sdm A λa A↦?_
   refine sdo (v := iV (((n + (dcX (l.drop n)).2 : Nat) : Int))) A (qb rfl rfl (ar_add ((in_i64 (by omega) (by omega)).trans (by omega)))) λa A↦?_
   refine sda A λa A↦?_
   refine qa (hK21 _ _ (wsk fun K22 hK22 => wrl (sdm A λa A↦?_)))
   rcases tf (((((dcX (l.drop n)).1 : Nat) : Int) == 92)) with hb23 | hb23
   ·
    have hb23' := eq_of_beq hb23
    refine sdc A ze hb23 λa A↦?_
    refine qa (hK22 _ _ (ct A ?_))
    refine wrl ?_
    iterate 3 refine sdm A λa A↦?_
    refine sdo (v := .string ((tx (l.drop (n + (dcX (l.drop n)).2))))) A (qs (s := l) (p := n + (dcX (l.drop n)).2) Tryz.underlying9 rfl rfl rfl (by omega)) λa A↦?_
    have ht25 := tiedN_le (l.drop (n + (dcX (l.drop n)).2))
    rw [List.length_drop] at ht25
    refine gcl A M (ef rfl rfl) (jc (l := l.drop (n + (dcX (l.drop n)).2)) (hT.below M.bel) (by rw [List.length_drop]; omega)) fun w26 hb24 M a A => ?_
    refine sdo (v := iV (((n + (dcX (l.drop n)).2 + tiedN (l.drop (n + (dcX (l.drop n)).2)) : Nat) : Int))) A (qb rfl rfl (ar_add ((in_i64 (by omega) (by omega)).trans (by omega)))) λa A↦?_
    refine sda A λa A↦?_
    refine qa ?_
    have e7 := tok_go (f := f) hne hb15 (if_pos (eq_of_beq hb23))
    simp only [List.drop_drop] at e7
    refine hK5 _ _ _ (by omega) ⟨n + (dcX (l.drop n)).2 + tiedN (l.drop (n + (dcX (l.drop n)).2)), f, rfl, ⟨by omega, by omega, by rw [hn, e7, Nat.add_assoc n (dcX (l.drop n)).2 _]; exact (Nat.add_assoc _ _ _).symm⟩, A.keep _ ⟨rfl, rfl, rfl, trivial⟩, M⟩
   ·
    have hb23' := ne_of_beq_false hb23
    refine sdc A ze hb23 λa A↦?_
    refine qa (hK22 _ _ (cf A ?_))
    refine wp_skip ?_
    refine hK5 _ _ _ (by omega) ⟨n + (dcX (l.drop n)).2, f, rfl, ⟨by omega, by omega, by rw [hn, tok_go hne hb15 (if_neg (ne_of_beq_false hb23)), List.drop_drop, Nat.add_assoc]⟩, A.keep _ ⟨rfl, rfl, rfl, trivial⟩, M⟩
 ·
  have hb9' := of_decide_eq_false hb9
  refine sdc A qw hb9 λa A↦?_
  refine qa (hK8 _ _ (cf A ?_))
  refine wp_exit (hK3 _ _ (wsk fun K27 hK27 => wrl ?_))
  iterate 2 refine sdm A λa A↦?_
  refine sdo (v := .string ((tx (l.take n)))) A (zs (s := l) (p := n) Tryz.underlying9 rfl rfl rfl (by omega)) λa A↦?_
  refine sda A λa A↦?_
  refine qa (hK27 _ _ (wr1 hret A ?_))
  exact ⟨by rw [hn, show tokN (f + 1) (l.drop n) = 0 from (by rw [List.drop_eq_nil_of_le (by omega)]; exact tok_end _), Nat.add_zero], M.bel⟩
end Go.Proofs.YtclkfideaameoaaGreatDoor.G
neg (of_decide_eq_false hb5), if_neg (of_decide_eq_false hb8), if_pos (of_decide_eq_true hb11)]; rfl, M.bel⟩
   ·
    have hb11' := of_decide_eq_false hb11
    refine sdo (v := bV false) A (qb rfl rfl (fun w => (qe (a := l) (b := [98, 97, 99, 107, 115, 112, 97, 99, 101]) Tryz.underlying9 w).trans (by rw [hb11] <;> rfl))) λa A↦?_
    refine sda A λa A↦?_
    refine qa (hK10 _ _ (cf A ?_))
    refine wsk fun K13 hK13 => wrl ?_
    rcases tf (decide (l = [116, 97, 98])) with hb14 | hb14
    ·
     have hb14' := of_decide_eq_true hb14
     refine sdo (v := bV true) A (qb rfl rfl (fun w => (qe (a := l) (b := [116, 97, 98]) Tryz.underlying9 w).trans (by rw [hb14] <;> rfl))) λa A↦?_
     refine sda A λa A↦?_
     refine qa (hK13 _ _ (ct A ?_))
     refine wsk fun K15 hK15 => wrl ?_
     iterate 2 refine sda A λa A↦?_
     refine qa (hK15 _ _ (wp_ret (hret _ _ (en2 A rfl (qf rfl) (qf rfl) ?_))))
     exact ⟨by unfold nmdX; rw [if_neg (of_decide_eq_false hb5), if_neg (of_decide_eq_false hb8), if_neg (of_decide_eq_false hb11), if_pos (of_decide_eq_true hb14)]; rfl, M.bel⟩
    ·
     have hb14' := of_decide_eq_false hb14
     refine sdo (v := bV false) A (qb rfl rfl (fun w => (qe (a := l) (b := [116, 97, 98]) Tryz.underlying9 w).trans (by rw [hb14] <;> rfl))) λa A↦?_
     refine sda A λa A↦?_
     refine qa (hK13 _ _ (cf A ?_))
     refine wsk fun K16 hK16 => wsk fun K17 hK17 => wrl ?_
     rcases tf (decide (l = [108, 105, 110, 101, 102, 101, 101, 100])) with hb18 | hb18
     ·
      have hb18' := of_decide_eq_true hb18
      refine sdo (v := bV true) A (qb rfl rfl (fun w => (qe (a := l) (b := [108, 105, 110, 101, 102, 101, 101, 100]) Tryz.underlying9 w).trans (by rw [hb18] <;> rfl))) λa A↦?_
      refine sda A λa A↦?_
      refine qa (hK17 _ _ (ct A ?_))
      refine wp_skip (hK16 _ _ (ct A ?_))
      refine wsk fun K19 hK19 => wrl ?_
      iterate 2 refine sda A λa A↦?_
      refine qa (hK19 _ _ (wp_ret (hret _ _ (en2 A rfl (qf rfl) (qf rfl) ?_))))
      exact ⟨by unfold nmdX; rw [if_neg (of_decide_eq_false hb5), if_neg (of_decide_eq_false hb8), if_neg (of_decide_eq_false hb11), if_neg (of_decide_eq_false hb14), if_pos (of_decide_eq_true hb18)]; rfl, M.bel⟩
     ·
      have hb18' := of_decide_eq_false hb18
      refine sdo (v := bV false) A (qb rfl rfl (fun w => (qe (a := l) (b := [108, 105, 110, 101, 102, 101, 101, 100]) Tryz.underlying9 w).trans (by rw [hb18] <;> rfl))) λa A↦?_
      refine sda A λa A↦?_
      refine qa (hK17 _ _ (cf A ?_))
      refine wrl ?_
      rcases tf (decide (l = [110, 101, 119, 108, 105, 110, 101])) with hb20 | hb20
      ·
       have hb20' := of_decide_eq_true hb20
       refine sdo (v := bV true) A (qb rfl rfl (fun w => (qe (a := l) (b := [110, 101, 119, 108, 105, 110, 101]) Tryz.underlying9 w).trans (by rw [hb20] <;> rfl))) λa A↦?_
       refine sda A λa A↦?_
       refine qa (hK16 _ _ (ct A ?_))
       refine wsk fun K21 hK21 => wrl ?_
       iterate 2 refine sda A λa A↦?_
       refine qa (hK21 _ _ (wp_ret (hret _ _ (en2 A rfl (qf rfl) (qf rfl) ?_))))
       exact ⟨by unfold nmdX; rw [if_neg (of_decide_eq_false hb5), if_neg (of_decide_eq_false hb8), if_neg (of_decide_eq_false hb11), if_neg (of_decide_eq_false hb14), if_neg (of_decide_eq_false hb18), if_pos (of_decide_eq_true hb20)]; rfl, M.bel⟩
      ·
       have hb20' := of_decide_eq_false hb20
       refine sdo (v := bV false) A (qb rfl rfl (fun w => (qe (a := l) (b := [110, 101, 119, 108, 105, 110, 101]) Tryz.underlying9 w).trans (by rw [hb20] <;> rfl))) λa A↦?_
       refine sda A λa A↦?_
       refine qa (hK16 _ _ (cf A ?_))
       refine wsk fun K22 hK22 => wrl ?_
       rcases tf (decide (l = [118, 116, 97, 98])) with hb23 | hb23
       ·
        have hb23' := of_decide_eq_true hb23
        refine sdo (v := bV true) A (qb rfl rfl (fun w => (qe (a := l) (b := [118, 116, 97, 98]) Tryz.underlying9 w).trans (by rw [hb23] <;> rfl))) λa A↦?_
        refine sda A λa A↦?_
        refine qa (hK22 _ _ (ct A ?_))
        refine wsk fun K24 hK24 => wrl ?_
        iterate 2 refine sda A λa A↦?_
        refine qa (hK24 _ _ (wp_ret (hret _ _ (en2 A rfl (qf rfl) (qf rfl) ?_))))
        exact ⟨by unfold nmdX; rw [if_neg (of_decide_eq_false hb5), if_neg (of_decide_eq_false hb8), if_neg (of_decide_eq_false hb11), if_neg (of_decide_eq_false hb14), if_neg (of_decide_eq_false hb18), if_neg (of_decide_eq_false hb20), if_pos (of_decide_eq_true hb23)]; rfl, M.bel⟩
       ·
        have hb23' := of_decide_eq_false hb23
        refine sdo (v := bV false) A (qb rfl rfl (fun w => (qe (a := l) (b := [118, 116, 97, 98]) Tryz.underlying9 w).trans (by rw [hb23] <;> rfl))) λa A↦?_
        refine sda A λa A↦?_
        refine qa (hK22 _ _ (cf A ?_))
        refine wsk fun K25 hK25 => wrl ?_
        rcases tf (decide (l = [112, 97, 103, 101])) with hb26 | hb26
        ·
         have hb26' := of_decide_eq_true hb26
         refine sdo (v := bV true) A (qb rfl rfl (fun w => (qe (a := l) (b := [112, 97, 103, 101]) Tryz.underlying9 w).trans (by rw [hb26] <;> rfl))) λa A↦?_
         refine sda A λa A↦?_
         refine qa (hK25 _ _ (ct A ?_))
         refine wsk fun K27 hK27 => wrl ?_
         iterate 2 refine sda A λa A↦?_
         refine qa (hK27 _ _ (wp_ret (hret _ _ (en2 A rfl (qf rfl) (qf rfl) ?_))))
         exact ⟨by unfold nmdX; rw [if_neg (of_decide_eq_false hb5), if_neg (of_decide_eq_false hb8), if_neg (of_decide_eq_false hb11), if_neg (of_decide_eq_false hb14), if_neg (of_decide_eq_false hb18), if_neg (of_decide_eq_false hb20), if_neg (of_decide_eq_false hb23), if_pos (of_decide_eq_true hb26)]; rfl, M.bel⟩
        ·
         have hb26' := of_decide_eq_false hb26
         refine sdo (v := bV false) A (qb rfl rfl (fun w => (qe (a := l) (b := [112, 97, 103, 101]) Tryz.underlying9 w).trans (by rw [hb26] <;> rfl))) λa A↦?_
         refine sda A λa A↦?_
         refine qa (hK25 _ _ (cf A ?_))
         refine wsk fun K28 hK28 => wrl ?_
         rcases tf (decide (l = [114, 101, 116, 117, 114, 110])) with hb29 | hb29
         ·
          have hb29' := of_decide_eq_true hb29
          refine sdo (v := bV true) A (qb rfl rfl (fun w => (qe (a := l) (b := [114, 101, 116, 117, 114, 110]) Tryz.underlying9 w).trans (by rw [hb29] <;> rfl))) λa A↦?_
          refine sda A λa A↦?_
          refine qa (hK28 _ _ (ct A ?_))
          refine wsk fun K30 hK30 => wrl ?_
          iterate 2 refine sda A λa A↦?_
          refine qa (hK30 _ _ (wp_ret (hret _ _ (en2 A rfl (qf rfl) (qf rfl) ?_))))
          exact ⟨by unfold nmdX; rw [if_neg (of_decide_eq_false hb5), if_neg (of_decide_eq_false hb8), if_neg (of_decide_eq_false hb11), if_neg (of_decide_eq_false hb14), if_neg (of_decide_eq_false hb18), if_neg (of_decide_eq_false hb20), if_neg (of_decide_eq_false hb23), if_neg (of_decide_eq_false hb26), if_pos (of_decide_eq_true hb29)]; rfl, M.bel⟩
         ·
          have hb29' := of_decide_eq_false hb29
          refine sdo (v := bV false) A (qb rfl rfl (fun w => (qe (a := l) (b := [114, 101, 116, 117, 114, 110]) Tryz.underlying9 w).trans (by rw [hb29] <;> rfl))) λa A↦?_
          refine sda A λa A↦?_
          refine qa (hK28 _ _ (cf A ?_))
          refine wsk fun K31 hK31 => wrl ?_
          rcases tf (decide (l = [101, 115, 99])) with hb32 | hb32
          ·
           have hb32' := of_decide_eq_true hb32
           refine sdo (v := bV true) A (qb rfl rfl (fun w => (qe (a := l) (b := [101, 115, 99]) Tryz.underlying9 w).trans (by rw [hb32] <;> rfl))) λa A↦?_
           refine sda A λa A↦?_
           refine qa (hK31 _ _ (ct A ?_))
           refine wsk fun K33 hK33 => wrl ?_
           iterate 2 refine sda A λa A↦?_
           refine qa (hK33 _ _ (wp_ret (hret _ _ (en2 A rfl (qf rfl) (qf rfl) ?_))))
           exact ⟨by unfold nmdX; rw [if_neg (of_decide_eq_false hb5), if_neg (of_decide_eq_false hb8), if_neg (of_decide_eq_false hb11), if_neg (of_decide_eq_false hb14), if_neg (of_decide_eq_false hb18), if_neg (of_decide_eq_false hb20), if_neg (of_decide_eq_false hb23), if_neg (of_decide_eq_false hb26), if_neg (of_decide_eq_false hb29), if_pos (of_decide_eq_true hb32)]; rfl, M.bel⟩
          ·
           have hb32' := of_decide_eq_false hb32
           refine sdo (v := bV false) A (qb rfl rfl (fun w => (qe (a := l) (b := [101, 115, 99]) Tryz.underlying9 w).trans (by rw [hb32] <;> rfl))) λa A↦?_
           refine sda A λa A↦?_
           refine qa (hK31 _ _ (cf A ?_))
           refine wsk fun K34 hK34 => wrl ?_
           rcases tf (decide (l = [115, 112, 97, 99, 101])) with hb35 | hb35
           ·
            have hb35' := of_decide_eq_true hb35
            refine sdo (v := bV true) A (qb rfl rfl (fun w => (qe (a := l) (b := [115, 112, 97, 99, 101]) Tryz.underlying9 w).trans (by rw [hb35] <;> rfl))) λa A↦?_
            refine sda A λa A↦?_
            refine qa (hK34 _ _ (ct A ?_))
            refine wsk fun K36 hK36 => wrl ?_
            iterate 2 refine sda A λa A↦?_
            refine qa (hK36 _ _ (wp_ret (hret _ _ (en2 A rfl (qf rfl) (qf rfl) ?_))))
            exact ⟨by unfold nmdX; rw [if_neg (of_decide_eq_false hb5), if_neg (of_decide_eq_false hb8), if_neg (of_decide_eq_false hb11), if_neg (of_decide_eq_false hb14), if_neg (of_decide_eq_false hb18), if_neg (of_decide_eq_false hb20), if_neg (of_decide_eq_false hb23), if_neg (of_decide_eq_false hb26), if_neg (of_decide_eq_false hb29), if_neg (of_decide_eq_false hb32), if_pos (of_decide_eq_true hb35)]; rfl, M.bel⟩
           ·
            have hb35' := of_decide_eq_false hb35
            refine sdo (v := bV false) A (qb rfl rfl (fun w => (qe (a := l) (b := [115, 112, 97, 99, 101]) Tryz.underlying9 w).trans (by rw [hb35] <;> rfl))) λa A↦?_
            refine sda A λa A↦?_
            refine qa (hK34 _ _ (cf A ?_))
            refine wsk fun K37 hK37 => wrl ?_
            rcases tf (decide (l = [100, 101, 108, 101, 116, 101])) with hb38 | hb38
            ·
             have hb38' := of_decide_eq_true hb38
             refine sdo (v := bV true) A (qb rfl rfl (fun w => (qe (a := l) (b := [100, 101, 108, 101, 116, 101]) Tryz.underlying9 w).trans (by rw [hb38] <;> rfl))) λa A↦?_
             refine sda A λa A↦?_
             refine qa (hK37 _ _ (ct A ?_))
             refine wsk fun K39 hK39 => wrl ?_
             iterate 2 refine sda A λa A↦?_
             refine qa (hK39 _ _ (wp_ret (hret _ _ (en2 A rfl (qf rfl) (qf rfl) ?_))))
             exact ⟨by unfold nmdX; rw [if_neg (of_decide_eq_false hb5), if_neg (of_decide_eq_false hb8), if_neg (of_decide_eq_false hb11), if_neg (of_decide_eq_false hb14), if_neg (of_decide_eq_false hb18), if_neg (of_decide_eq_false hb20), if_neg (of_decide_eq_false hb23), if_neg (of_decide_eq_false hb26), if_neg (of_decide_eq_false hb29), if_neg (of_decide_eq_false hb32), if_neg (of_decide_eq_false hb35), if_pos (of_decide_eq_true hb38)]; rfl, M.bel⟩
            ·
             have hb38' := of_decide_eq_false hb38
             refine sdo (v := bV false) A (qb rfl rfl (fun w => (qe (a := l) (b := [100, 101, 108, 101, 116, 101]) Tryz.underlying9 w).trans (by rw [hb38] <;> rfl))) λa A↦?_
             refine sda A λa A↦?_
             refine qa (hK37 _ _ (cf A ?_))
             refine wp_skip (hK2 _ _ (wsk fun K40 hK40 => wrl ?_))
             iterate 2 refine sda A λa A↦?_
             refine qa (hK40 _ _ (wp_ret (hret _ _ (en2 A rfl (qf rfl) (qf rfl) ?_))))
             exact ⟨by unfold nmdX; rw [if_neg (of_decide_eq_false hb5), if_neg (of_decide_eq_false hb8), if_neg (of_decide_eq_false hb11), if_neg (of_decide_eq_false hb14), if_neg (of_decide_eq_false hb18), if_neg (of_decide_eq_false hb20), if_neg (of_decide_eq_false hb23), if_neg (of_decide_eq_false hb26), if_neg (of_decide_eq_false hb29), if_neg (of_decide_eq_false hb32), if_neg (of_decide_eq_false hb35), if_neg (of_decide_eq_false hb38)]; rfl, M.bel⟩
theorem jr {w0 w : World} {g p : Nat} {lg : Bool} {L : List UInt8} {T : List Ck} (hT : Tb w0) (hp : p ≤ L.length) (hl : L.length ≤ 1000000000) (hd0 : dotB (L.drop p) = true) (hM0 : Mg w0 w (.obj g (rC L p lg) :: T)) : Calls Tryz.prog 55 #[pA g 0] w fun e w' => e = .returned (bV true) ∧ Mg w0 w' (.obj g (rC L (p + 1) lg) :: T) := by
 have hd : decide ((L.drop p).take (tokN ((L.drop p).length + 1) (L.drop p)) = [46]) = true := hd0
 have hpf := dot_pre (of_decide_eq_true hd)
 have M : Mg w0 w (.obj g (rC L p lg) :: T) := hM0
 refine qr (l := [(0, pA g 0)]) Tryz.func55 rfl Tryz.ntmps55 rfl rfl ?_
 intro Q hret hnorm hP a A
 refine wsk fun K1 hK1 => wrl (sda A λa A↦?_)
 refine qa (hK1 _ _ (wsk fun K2 hK2 => wrl (sdm A λa A↦?_)))
 refine sct A (ef rfl rfl) (qz (p := p) (L := L) (T := (T)) (by omega) M) ?_
 rintro _ w4 ⟨rfl, hM3⟩
 replace M : Mg w0 w4 (.obj g (rC L p lg) :: T) := hM3
 refine ⟨_, rfl, ?_⟩
 intro a A
 refine gcl A M (ef rfl rfl) (token_any (l := L.drop p) (hT.below M.bel) (by rw [List.length_drop]; omega)) fun w6 hb5 M a A => ?_
 refine sdo (v := bV true) A (qb rfl rfl (fun w => (qe (a := (L.drop p).take (tokN ((L.drop p).length + 1) (L.drop p))) (b := [46]) Tryz.underlying9 w).trans (by rw [hd] <;> rfl))) λa A↦?_
 iterate 2 refine sdm A λa A↦?_
 have htl9 : 1 ≤ (L.drop p).length := (List.isPrefixOf_iff_prefix.1 hpf).length_le
 rw [List.length_drop] at htl9
 refine sct A (ef rfl rfl) (take_y (p := p) (L := L) (T := (T)) (by omega) (by omega) hpf M) ?_
 rintro _ w10 ⟨rfl, hM8⟩
 replace M : Mg w0 w10 (.obj g (rC L (p + 1) lg) :: T) := hM8
 refine ⟨_, rfl, ?_⟩
 intro a A
 refine sdk (v := bV true) A λa A↦?_
 refine sda A λa A↦?_
 refine qa (hK2 _ _ (wr1 hret A ?_))
 exact ⟨rfl, M⟩
theorem js {w0 w : World} {g p : Nat} {lg : Bool} {L : List UInt8} {T : List Ck} (hT : Tb w0) (hp : p ≤ L.length) (hl : L.length ≤ 1000000000) (hd0 : dotB (L.drop p) = false) (hM0 : Mg w0 w (.obj g (rC L p lg) :: T)) : Calls Tryz.prog 55 #[pA g 0] w fun e w' => e = .returned (bV false) ∧ Mg w0 w' (.obj g (rC L p lg) :: T) := by
 have hd : decide ((L.drop p).take (tokN ((L.drop p).length + 1) (L.drop p)) = [46]) = false := hd0
 
 have M : Mg w0 w (.obj g (rC L p lg) :: T) := hM0
 refine qr (l := [(0, pA g 0)]) Tryz.func55 rfl Tryz.ntmps55 rfl rfl ?_
 intro Q hret hnorm hP a A
 refine wsk fun K1 hK1 => wrl (sda A λa A↦?_)
 refine qa (hK1 _ _ (wsk fun K2 hK2 => wrl (sdm A λa A↦?_)))
 refine sct A (ef rfl rfl) (qz (p := p) (L := L) (T := (T)) (by omega) M) ?_
 rintro _ w4 ⟨rfl, hM3⟩
 replace M : Mg w0 w4 (.obj g (rC L p lg) :: T) := hM3
 refine ⟨_, rfl, ?_⟩
 intro a A
 refine gcl A M (ef rfl rfl) (token_any (l := L.drop p) (hT.below M.bel) (by rw [List.length_drop]; omega)) fun w6 hb5 M a A => ?_
 refine sdo (v := bV false) A (qb rfl rfl (fun w => (qe (a := (L.drop p).take (tokN ((L.drop p).length + 1) (L.drop p))) (b := [46]) Tryz.underlying9 w).trans (by rw [hd] <;> rfl))) λa A↦?_
 refine sdm A λa A↦?_
 iterate 2 refine qg A rfl rfl rfl λa A↦?_
 refine sdk (v := bV false) A λa A↦?_
 refine sda A λa A↦?_
 refine qa (hK2 _ _ (wr1 hret A ?_))
 exact ⟨rfl, M⟩
end Go.Proofs.YtclkfideaameoaaGreatDoor.G
:= by
 have M : Mg w w ([]) := Mg.start w
 refine qr (l := [(0, iV 5)]) Tryz.func106 rfl Tryz.ntmps106 rfl rfl ?_
 intro Q hret hnorm hP a A
 refine wsk fun K1 hK1 => wrl (sda A λa A↦?_)
 refine qa (hK1 _ _ (wsk fun K2 hK2 => wrl (sdm A λa A↦?_)))
 refine sdo (v := iV 21) A (qb rfl rfl (ar_add rfl)) λa A↦?_
 refine sdo (v := iV 2) A (qb rfl rfl (ar_quo (by decide) (by decide))) λa A↦?_
 refine sda A λa A↦?_
 refine qa (hK2 _ _ (wr1 hret A ?_))
 exact ⟨rfl, M.bel⟩
theorem ju {w : World} : Calls Tryz.prog 106 #[iV 6] w fun e w' => e = .returned (iV 2) ∧ Below w.heap.size w w' := by
 have M : Mg w w ([]) := Mg.start w
 refine qr (l := [(0, iV 6)]) Tryz.func106 rfl Tryz.ntmps106 rfl rfl ?_
 intro Q hret hnorm hP a A
 refine wsk fun K1 hK1 => wrl (sda A λa A↦?_)
 refine qa (hK1 _ _ (wsk fun K2 hK2 => wrl (sdm A λa A↦?_)))
 refine sdo (v := iV 22) A (qb rfl rfl (ar_add rfl)) λa A↦?_
 refine sdo (v := iV 2) A (qb rfl rfl (ar_quo (by decide) (by decide))) λa A↦?_
 refine sda A λa A↦?_
 refine qa (hK2 _ _ (wr1 hret A ?_))
 exact ⟨rfl, M.bel⟩
theorem jv {w : World} : Calls Tryz.prog 106 #[iV 7] w fun e w' => e = .returned (iV 2) ∧ Below w.heap.size w w' := by
 have M : Mg w w ([]) := Mg.start w
 refine qr (l := [(0, iV 7)]) Tryz.func106 rfl Tryz.ntmps106 rfl rfl ?_
 intro Q hret hnorm hP a A
 refine wsk fun K1 hK1 => wrl (sda A λa A↦?_)
 refine qa (hK1 _ _ (wsk fun K2 hK2 => wrl (sdm A λa A↦?_)))
 refine sdo (v := iV 23) A (qb rfl rfl (ar_add rfl)) λa A↦?_
 refine sdo (v := iV 2) A (qb rfl rfl (ar_quo (by decide) (by decide))) λa A↦?_
 refine sda A λa A↦?_
 refine qa (hK2 _ _ (wr1 hret A ?_))
 exact ⟨rfl, M.bel⟩
def s7 : List UInt8 := [10, 13, 194, 133, 226, 128, 168]
theorem zj : s7.length = 7 := rfl
theorem jw {i k : Nat} (h1 : i < k) (h2 : k < 7) : s7.getD i 0 ≠ s7.getD k 0 := by
 have h : ∀ i k : Fin 7, i < k → s7.getD i 0 ≠ s7.getD k 0 := by decide
 exact h ⟨i, by omega⟩ ⟨k, h2⟩ h1
theorem zh {l : List UInt8} {i : Nat} (h : i < l.length) : l[i]? = some (l.getD i 0) := by
 rw [List.getD_eq_getElem?_getD, List.getElem?_eq_getElem h]; rfl
theorem zk {a b : UInt8} (h : ((a.toNat : Nat) : Int) = ((b.toNat : Nat) : Int)) : a = b := UInt8.toNat_inj.1 (by omega)
def atS (B : List UInt8) (k : Nat) : Prop := B.length - 1 ≤ k ∧ k < 7 ∧ ∀ t, t < B.length → s7.getD (k - t) 0 = B.getD (B.length - 1 - t) 0
theorem jx {B : List UInt8} {i : Nat} (hB : 2 ≤ B.length) (h : Lib.indexByte (s7.drop (i + 1)) (B.getD (B.length - 1) 0) = -1) (hn : s7.getD i 0 ≠ B.getD (B.length - 1) 0) (hlt : ∀ k, k < i → ¬ atS B k) : ∀ k, ¬ atS B k := fun k hk => by
 have h0 : s7.getD k 0 = B.getD (B.length - 1) 0 := hk.2.2 0 (by omega)
 have hk7 := hk.2.1
 by_cases h1 : k < i
 ·
  exact hlt k h1 hk
 by_cases h2 : k = i
 ·
  subst h2; exact hn h0
 refine Lib.indexByte_none h (k - (i + 1)) ?_
 rw [List.getElem?_drop, show i + 1 + (k - (i + 1)) = k by omega, zh (by rw [zj]; exact hk7), h0]
theorem jd {B : List UInt8} {i o : Nat} (hB : 2 ≤ B.length) (h : Lib.indexByte (s7.drop (i + 1)) (B.getD (B.length - 1) 0) = ((o : Nat) : Int)) (hn : s7.getD i 0 ≠ B.getD (B.length - 1) 0) (hlt : ∀ k, k < i → ¬ atS B k) : i + o + 1 < 7 ∧ s7.getD (i + o + 1) 0 = B.getD (B.length - 1) 0 ∧ ∀ k, k < i + o + 1 → ¬ atS B k := by
 obtain ⟨h1, h2⟩ := Lib.indexByte_some h
 rw [List.getElem?_drop, show i + 1 + o = i + o + 1 by omega] at h1
 obtain ⟨h3, h4⟩ := List.getElem?_eq_some_iff.1 h1
 rw [zj] at h3
 have h5 := h1
 rw [zh (by rw [zj]; exact h3)] at h5
 refine ⟨h3, Option.some.inj h5, fun k hk hs => ?_⟩
 have h0 : s7.getD k 0 = B.getD (B.length - 1) 0 := hs.2.2 0 (by omega)
 by_cases h6 : k < i
 ·
  exact hlt k h6 hs
 by_cases h7 : k = i
 ·
  subst h7; exact hn h0
 refine h2 (k - (i + 1)) (by omega) ?_
 rw [List.getElem?_drop, show i + 1 + (k - (i + 1)) = k by omega, zh (by rw [zj]; omega), h0]
theorem jj {w : World} {i : Nat} (h1 : 1 ≤ i) (h : i ≤ 7) : Calls Tryz.prog 106 #[iV ((i : Nat) : Int)] w fun e w' => e = .returned (iV 2) ∧ Below w.heap.size w w' := by
 match i, h1, h with
 | 1, _, _ => exact cut_1
 | 2, _, _ => exact cut_2
 | 3, _, _ => exact cut_3
 | 4, _, _ => exact cut_4
 | 5, _, _ => exact cut_5
 | 6, _, _ => exact ju
 | 7, _, _ => exact jv
theorem jk {w : World} {r : Int} {B : List UInt8} (h2 : 2 ≤ B.length) (h4 : B.length ≤ 4) (h0 : 128 ≤ r) (hne : r ≠ 65533) (hv : Lib.validRune r = true) (henc : Utf8.encode r = tx B) : Calls Tryz.prog 71 #[.string (tx s7), .int .i32 r] w fun e w' => ∃ v : Int, e = .returned (iV v) ∧ (0 ≤ v ∧ (∃ k, atS B k) ∨ v < 0 ∧ ∀ k, ¬ atS B k) ∧ Below w.heap.size w w' := by
 have hs7 := zj
 have M : Mg w w ([]) := Mg.start w
 refine qr (l := [(0, .string ((tx s7))), (1, .int .i32 r)]) Tryz.func71 rfl Tryz.ntmps71 rfl rfl ?_
 intro Q hret hnorm hP a A
 refine wsk fun K1 hK1 => wrl (sda A λa A↦?_)
 refine qa (hK1 _ _ (wp_block (wsk fun K2 hK2 => wrl (sdm A λa A↦?_))))
 refine sdo (v := bV true) A (qb rfl rfl (fun w => (qn w).trans (by rw [show (decide (0 ≤ r)) = true from (decide_eq_true (by omega))]))) λa A↦?_
 iterate 2 refine sdm A λa A↦?_
 refine sdo (v := bV false) A (qb rfl rfl (fun w => (qw w).trans (by rw [show (decide (r < 128)) = false from (decide_eq_false (by omega))]))) λa A↦?_
 refine sdk (v := bV false) A λa A↦?_
 refine sda A λa A↦?_
 refine qa (hK2 _ _ (cf A ?_))
 refine wsk fun K3 hK3 => wrl (sdm A λa A↦?_)
 refine sdo (v := bV false) A (qb rfl rfl (fun w => (ze w).trans (by rw [show ((r == 65533)) = false from (beq_eq_false_iff_ne.2 (by omega))]))) λa A↦?_
 refine sda A λa A↦?_
 refine qa (hK3 _ _ (cf A ?_))
 refine wsk fun K4 hK4 => wrl (sdm A λa A↦?_)
 refine gcl A M (ef rfl rfl) (vr_as hv) fun w6 hb5 M a A => ?_
 refine sdo (v := bV false) A (zm rfl zr) λa A↦?_
 refine sda A λa A↦?_
 refine qa (hK4 _ _ (cf A ?_))
 refine zn 1 rfl ?_
 refine wsk fun K7 hK7 => wrl (sdm A λa A↦?_)
 refine sdo (v := .string ((tx B))) A (jh rfl (fun w => (run_convert_int_string w _ _ .i32 r (by kernel_rfl) Tryz.underlying9).trans (by rw [henc]))) λa A↦?_
 refine sda A λa A↦?_
 refine qa (hK7 _ _ (wsk fun K8 hK8 => wrl (sdm A λa A↦?_)))
 refine sdo (v := iV (((B.length : Nat) : Int))) A (zg (s := B) Tryz.underlying9 rfl) λa A↦?_
 refine sdo (v := iV (((B.length - 1 : Nat) : Int))) A (qb rfl rfl (ar_sub ((in_i64 (by omega) (by omega)).trans (by omega)))) λa A↦?_
 refine sda A λa A↦?_
 refine qa (hK8 _ _ (wsk fun K9 hK9 => wrl (sdm A λa A↦?_)))
 refine sda A λa A↦?_
 refine qa (hK9 _ _ (wsk fun K10 hK10 => wrl (sda A λa A↦?_)))
 refine qa (hK10 _ _ (wsk fun K11 hK11 => wp_block (zl (fun m_ a w1 => ∃ (i : Nat) (f : Nat), m_ = 8 - i ∧ (B.length - 1 ≤ i ∧ i ≤ 7 ∧ (∀ k, k < i → ¬ atS B k) ∧ (f = 0 ∨ f = 1 ∧ ∀ k, i ≤ k → k < 7 → s7.getD k 0 ≠ B.getD (B.length - 1) 0)) ∧ Sl a 187 [(0, .string ((tx s7))), (1, .int .i32 r), (7, .string ((tx B))), (8, iV (((B.length - 1 : Nat) : Int))), (9, iV (((i : Nat) : Int))), (10, iV (((f : Nat) : Int))), (17, .int .i32 r), (18, .string ((tx B))), (19, .string ((tx B))), (20, iV (((B.length : Nat) : Int))), (21, iV (((B.length - 1 : Nat) : Int))), (22, iV (((B.length - 1 : Nat) : Int))), (160, bV false), (161, .int .i32 r), (162, bV true), (163, bV true), (164, .int .i32 r), (165, bV false), (166, bV false), (171, bV false), (172, .int .i32 r), (173, bV false), (183, bV false), (184, .int .i32 r), (185, bV true), (186, bV false)] ∧ Mg w w1 ([])) _ ⟨B.length - 1, 0, rfl, ⟨Nat.le_refl _, by omega, fun k hk hs => absurd hs.1 (by omega), .inl rfl⟩, A.keep _ (by repeat' constructor), M⟩ ?_)))
 clear M A
 rintro m_ a w12 ⟨i, f, rfl, hinv14, A, M⟩ K13 hK13
 obtain ⟨hi1, hi2, hi3, hi4⟩ := hinv14
 refine wsk fun K15 hK15 => wsk fun K16 hK16 => wrl ?_
 iterate 2 refine sdm A λa A↦?_
 refine sdo (v := iV (((s7.length : Nat) : Int))) A (zg (s := s7) Tryz.underlying9 rfl) λa A↦?_
 rcases tf (decide (((i : Nat) : Int) < ((s7.length : Nat) : Int))) with hb17 | hb17
 ·
  have hb17' := of_decide_eq_true hb17
  refine sdc A qw hb17 λa A↦?_
  refine qa (hK16 _ _ (ct A ?_))
  refine wp_skip (hK15 _ _ (wp_block (zn 0 rfl ?_)))
  refine wsk fun K18 hK18 => ?_
  have hJ19 : ∀ a w1, (∃ (q : Nat), (B.length - 1 ≤ q ∧ i ≤ q ∧ q < 7 ∧ s7.getD q 0 = B.getD (B.length - 1) 0 ∧ (∀ k, k < q → ¬ atS B k) ∧ f = 0) ∧ Sl a 187 [(0, .string ((tx s7))), (1, .int .i32 r), (7, .string ((tx B))), (8, iV (((B.length - 1 : Nat) : Int))), (9, iV (((q : Nat) : Int))), (10, iV (((f : Nat) : Int))), (17, .int .i32 r), (18, .string ((tx B))), (19, .string ((tx B))), (20, iV (((B.length : Nat) : Int))), (21, iV (((B.length - 1 : Nat) : Int))), (22, iV (((B.length - 1 : Nat) : Int))), (23, iV (((i : Nat) : Int))), (24, .string ((tx s7))), (25, iV (((s7.length : Nat) : Int))), (26, bV true), (160, bV false), (161, .int .i32 r), (162, bV true), (163, bV true), (164, .int .i32 r), (165, bV false), (166, bV false), (171, bV false), (172, .int .i32 r), (173, bV false), (183, bV false), (184, .int .i32 r), (185, bV true), (186, bV false)] ∧ Mg w w1 ([])) → K18 a w1 := by
   clear A M
   rintro a w20 ⟨q, hf21, A, M⟩
   obtain ⟨hq1, hqi, hq2, hq3, hq4, hf0⟩ := hf21
   refine hK18 _ _ (wsk fun K22 hK22 => wsk fun K23 hK23 => wrl (sda A λa A↦?_))
   refine qa (hK23 _ _ (wp_block (zl (fun m_ a w1 => ∃ (j : Nat), m_ = B.length - j ∧ (1 ≤ j ∧ j ≤ B.length ∧ ∀ t, t < j → s7.getD (q - t) 0 = B.getD (B.length - 1 - t) 0) ∧ Sl a 187 [(0, .string ((tx s7))), (1, .int .i32 r), (7, .string ((tx B))), (8, iV (((B.length - 1 : Nat) : Int))), (9, iV (((q : Nat) : Int))), (10, iV (((f : Nat) : Int))), (12, iV (((j : Nat) : Int))), (17, .int .i32 r), (18, .string ((tx B))), (19, .string ((tx B))), (20, iV (((B.length : Nat) : Int))), (21, iV (((B.length - 1 : Nat) : Int))), (22, iV (((B.length - 1 : Nat) : Int))), (23, iV (((i : Nat) : Int))), (24, .string ((tx s7))), (25, iV (((s7.length : Nat) : Int))), (26, bV true), (160, bV false), (161, .int .i32 r), (162, bV true), (163, bV true), (164, .int .i32 r), (165, bV false), (166, bV false), (171, bV false), (172, .int .i32 r), (173, bV false), (183, bV false), (184, .int .i32 r), (185, bV true), (186, bV false)] ∧ Mg w w1 ([])) _ ⟨1, rfl, ⟨Nat.le_refl _, by omega, fun t ht => by rw [show t = 0 by omega]; exact hq3⟩, A.keep _ (by repeat' constructor), M⟩ ?_)))
   clear M A
   rintro m_ a w24 ⟨j, rfl, hinv26, A, M⟩ K25 hK25
   obtain ⟨hj1, hj2, hj3⟩ := hinv26
   refine wsk fun K27 hK27 => wsk fun K28 hK28 => wrl ?_
   iterate 2 refine sdm A λa A↦?_
   refine sdo (v := iV (((B.length : Nat) : Int))) A (zg (s := B) Tryz.underlying9 rfl) λa A↦?_
   rcases tf (decide (((j : Nat) : Int) < ((B.length : Nat) : Int))) with hb29 | hb29
   ·
    have hb29' := of_decide_eq_true hb29
    refine sdc A qw hb29 λa A↦?_
    refine qa (hK28 _ _ (ct A ?_))
    refine wp_skip (hK27 _ _ (wsk fun K30 hK30 => wp_block (wsk fun K31 hK31 => zi (S := fun w1 => Mg w w1 ([])) (by kernel_rfl) ?_)))
    replace M := M.drew
    refine amv A 0 rfl hP (M.sub ns) λa A↦?_
    refine amv A 1 rfl hP (M.sub ns) λa A↦?_
    refine amv A 2 rfl hP (M.sub ns) λa A↦?_
    refine atk (v := iV (((q - j : Nat) : Int))) A 3 rfl hP (M.sub ns) (λ_ M↦qb rfl rfl (ar_sub ((in_i64 (by omega) (by omega)).trans (by omega)))) λa A↦?_
    refine atk (v := .int .u8 ((((s7.getD (q - j) 0).toNat : Nat) : Int))) A 4 rfl hP (M.sub ns) (λ_ M↦zb (s := s7) (i := q - j) (b := s7.getD (q - j) 0) Tryz.underlying9 rfl rfl rfl (zh (by omega))) λa A↦?_
    refine amv A 5 rfl hP (M.sub ns) λa A↦?_
    refine amv A 6 rfl hP (M.sub ns) λa A↦?_
    refine amv A 7 rfl hP (M.sub ns) λa A↦?_
    refine atk (v := iV (((B.length - 1 - j : Nat) : Int))) A 8 rfl hP (M.sub ns) (λ_ M↦qb rfl rfl (ar_sub ((in_i64 (by omega) (by omega)).trans (by omega)))) λa A↦?_
    refine atk (v := .int .u8 ((((B.getD (B.length - 1 - j) 0).toNat : Nat) : Int))) A 9 rfl hP (M.sub ns) (λ_ M↦zb (s := B) (i := B.length - 1 - j) (b := B.getD (B.length - 1 - j) 0) Tryz.underlying9 rfl rfl rfl (zh (by omega))) λa A↦?_
    rcases tf (((((s7.getD (q - j) 0).toNat : Nat) : Int) != (((B.getD (B.length - 1 - j) 0).toNat : Nat) : Int))) with hb32 | hb32
    ·
     have hb32' := bne_iff_ne.1 hb32
     refine atk (v := bV true) A 10 rfl hP (M.sub ns) (λ_ M↦qb rfl rfl (fun w => (za w).trans (by rw [hb32]))) λa A↦?_
     refine qy (by kernel_rfl) ?_
     refine hK31 _ _ (ct A ?_)
     refine wp_goto (And.intro rfl ?_)
     refine wsk fun K33 hK33 => wp_skip (hK33 _ _ (wsk fun K34 hK34 => wrl (sdm A λa A↦?_)))
     refine sdo (v := iV (((f + 1 : Nat) : Int))) A (qb rfl rfl (ar_add ((in_i64 (by omega) (by omega)).trans (by omega)))) λa A↦?_
     refine sda A λa A↦?_
     refine qa (hK34 _ _ (wsk fun K35 hK35 => wrl (sdm A λa A↦?_)))
     refine sdo (v := iV (((q + 1 : Nat) : Int))) A (qb rfl rfl (ar_add ((in_i64 (by omega) (by omega)).trans (by omega)))) λa A↦?_
     refine sda A λa A↦?_
     refine qa (hK35 _ _ (wsk fun K36 hK36 => wrl ?_))
     iterate 3 refine sdm A λa A↦?_
     refine gcl A M (ef rfl rfl) (jj (by omega) (by omega)) fun w38 hb37 M a A => ?_
     refine sdo (v := bV false) A (qb rfl rfl (fun w => (qx w).trans (by rw [show (decide (2 < ((f + 1 : Nat) : Int))) = false from (decide_eq_false (by omega))]))) λa A↦?_
     refine sdk (v := bV false) A λa A↦?_
     refine sdm A λa A↦?_
     iterate 4 refine qg A rfl rfl rfl λa A↦?_
     refine sdk (v := bV false) A λa A↦?_
     iterate 2 refine sdm A λa A↦?_
     iterate 5 refine qg A rfl rfl rfl λa A↦?_
     refine sdk (v := bV false) A λa A↦?_
     refine sdm A λa A↦?_
     iterate 4 refine qg A rfl rfl rfl λa A↦?_
     iterate 2 refine sdk (v := bV false) A λa A↦?_
     refine qa (hK36 _ _ (cf A ?_))
     refine wp_skip ?_
     refine hK13 _ _ _ (by omega) ⟨q + 1, f + 1, rfl, ⟨by omega, by omega, fun k hk hs => by by_cases h9 : k < q; exact hq4 k h9 hs; rw [show k = q by omega] at hs; exact bne_iff_ne.1 hb32 (by rw [hs.2.2 j (by omega)]), .inr ⟨by omega, fun k h8 h9 k9 => jw (i := q) (k := k) (by omega) h9 (hq3.trans k9.symm)⟩⟩, A.keep _ (by repeat' constructor), M⟩
    ·
     have hb32' := bne_eq_false_iff_eq.1 hb32
     refine atk (v := bV false) A 10 rfl hP (M.sub ns) (λ_ M↦qb rfl rfl (fun w => (za w).trans (by rw [hb32]))) λa A↦?_
     refine qy (by kernel_rfl) ?_
     refine hK31 _ _ (cf A ?_)
     refine wp_skip (hK30 _ _ (wrl (sdm A λa A↦?_)))
     refine sdo (v := iV (((j + 1 : Nat) : Int))) A (qb rfl rfl (ar_add ((in_i64 (by omega) (by omega)).trans (by omega)))) λa A↦?_
     refine sda A λa A↦?_
     refine qa ?_
     refine hK25 _ _ _ (by omega) ⟨j + 1, rfl, ⟨by omega, by omega, fun t ht => by by_cases h9 : t < j; exact hj3 t h9; rw [show t = j by omega]; exact zk (by simpa using hb32)⟩, A.keep _ (by repeat' constructor), M⟩
   ·
    have hb29' := of_decide_eq_false hb29
    refine sdc A qw hb29 λa A↦?_
    refine qa (hK28 _ _ (cf A ?_))
    refine wp_exit (hK22 _ _ (wsk fun K39 hK39 => wsk fun K40 hK40 => wrl ?_))
    iterate 2 refine sdm A λa A↦?_
    refine sdo (v := iV (((q - (B.length - 1) : Nat) : Int))) A (qb rfl rfl (ar_sub ((in_i64 (by omega) (by omega)).trans (by omega)))) λa A↦?_
    refine sda A λa A↦?_
    refine qa (hK40 _ _ (wr1 hret A ?_))
    exact ⟨_, rfl, .inl ⟨by omega, q, hq1, hq2, fun t ht => hj3 t (by have h9 := of_decide_eq_false hb29; omega)⟩, M.bel⟩
  refine wsk fun K41 hK41 => zi (S := fun w1 => Mg w w1 ([])) (by kernel_rfl) ?_
  replace M := M.drew
  refine amv A 0 rfl hP (M.sub ns) λa A↦?_
  refine amv A 1 rfl hP (M.sub ns) λa A↦?_
  refine atk (v := .int .u8 ((((s7.getD i 0).toNat : Nat) : Int))) A 2 rfl hP (M.sub ns) (λ_ M↦zb (s := s7) (i := i) (b := s7.getD i 0) Tryz.underlying9 rfl rfl rfl (zh (by omega))) λa A↦?_
  refine amv A 3 rfl hP (M.sub ns) λa A↦?_
  refine amv A 4 rfl hP (M.sub ns) λa A↦?_
  refine atk (v := .int .u8 ((((B.getD (B.length - 1) 0).toNat : Nat) : Int))) A 5 rfl hP (M.sub ns) (λ_ M↦zb (s := B) (i := B.length - 1) (b := B.getD (B.length - 1) 0) Tryz.underlying9 rfl rfl rfl (zh (by omega))) λa A↦?_
  rcases tf (((((s7.getD i 0).toNat : Nat) : Int) != (((B.getD (B.length - 1) 0).toNat : Nat) : Int))) with hb42 | hb42
  ·
   have hb42' := bne_iff_ne.1 hb42
   refine atk (v := bV true) A 6 rfl hP (M.sub ns) (λ_ M↦qb rfl rfl (fun w => (za w).trans (by rw [hb42]))) λa A↦?_
   refine qy (by kernel_rfl) ?_
   refine hK41 _ _ (ct A ?_)
   refine wsk fun K43 hK43 => zi (S := fun w1 => Mg w w1 ([])) (by kernel_rfl) ?_
   replace M := M.drew
   refine amv A 0 rfl hP (M.sub ns) λa A↦?_
   refine amv A 1 rfl hP (M.sub ns) λa A↦?_
   refine atk (v := iV (((i + 1 : Nat) : Int))) A 2 rfl hP (M.sub ns) (λ_ M↦qb rfl rfl (ar_add ((in_i64 (by omega) (by omega)).trans (by omega)))) λa A↦?_
   refine atk (v := .string ((tx (s7.drop (i + 1))))) A 3 rfl hP (M.sub ns) (λ_ M↦qs (s := s7) (p := i + 1) Tryz.underlying9 rfl rfl rfl (by omega)) λa A↦?_
   refine amv A 4 rfl hP (M.sub ns) λa A↦?_
   refine amv A 5 rfl hP (M.sub ns) λa A↦?_
   refine atk (v := .int .u8 ((((B.getD (B.length - 1) 0).toNat : Nat) : Int))) A 6 rfl hP (M.sub ns) (λ_ M↦zb (s := B) (i := B.length - 1) (b := B.getD (B.length - 1) 0) Tryz.underlying9 rfl rfl rfl (zh (by omega))) λa A↦?_
   rcases tf (decide (0 ≤ Lib.indexByte (s7.drop (i + 1)) (B.getD (B.length - 1) 0))) with hb45 | hb45
   ·
    have hb45' := of_decide_eq_true hb45
    obtain ⟨o, ho47⟩ := Int.eq_ofNat_of_zero_le (of_decide_eq_true hb45)
    have hoB := (jd h2 ho47 (fun k9 => bne_iff_ne.1 hb42 (by rw [k9])) hi3).1
    refine zv (by kernel_rfl) (ji A 7 rfl rfl rfl rfl (ef rfl rfl) (ib_as (l := s7.drop (i + 1)) (b := B.getD (B.length - 1) 0) ho47) ?_)
    rintro _ w48 ⟨rfl, hb46⟩
    replace M := M.call hb46
    refine ⟨_, rfl, (M.sub ns), ?_⟩
    intro a A
    refine atk A 8 rfl hP (M.sub ns) (λ_ M↦zd rfl) λa A↦?_
    refine qy (by kernel_rfl) ?_
    refine hK43 _ _ (wsk fun K49 hK49 => wsk fun K50 hK50 => wrl (sdm A λa A↦?_))
    refine sdo (v := bV false) A (qb rfl rfl (fun w => (qw w).trans (by rw [show (decide (((o : Nat) : Int) < 0)) = false from (decide_eq_false (by omega))]))) λa A↦?_
    refine qa (hK50 _ _ (cf A ?_))
    refine wp_skip (hK49 _ _ (wrl ?_))
    iterate 2 refine sdm A λa A↦?_
    refine sdo (v := iV (((o + 1 : Nat) : Int))) A (qb rfl rfl (ar_add ((in_i64 (by omega) (by omega)).trans (by omega)))) λa A↦?_
    refine sdo (v := iV (((i + o + 1 : Nat) : Int))) A (qb rfl rfl (ar_add ((in_i64 (by omega) (by omega)).trans (by omega)))) λa A↦?_
    refine sda A λa A↦?_
    refine qa ?_
    exact hJ19 _ _ ⟨i + o + 1, (by obtain ⟨y1, y2, y3⟩ := jd h2 ho47 (fun k9 => bne_iff_ne.1 hb42 (by rw [k9])) hi3; exact ⟨by omega, by omega, y1, y2, y3, hi4.elim id fun k => absurd y2 (k.2 _ (by omega) y1)⟩), A.keep _ (by repeat' constructor), M⟩
   ·
    have hb45' := of_decide_eq_false hb45
    have ho52 : Lib.indexByte (s7.drop (i + 1)) (B.getD (B.length - 1) 0) = -1 := by have h8 := Lib.indexByte_ge (s7.drop (i + 1)) (B.getD (B.length - 1) 0); have h9 := of_decide_eq_false hb45; omega
    refine zv (by kernel_rfl) (ji A 7 rfl rfl rfl rfl (ef rfl rfl) (ib_as (l := s7.drop (i + 1)) (b := B.getD (B.length - 1) 0) ho52) ?_)
    rintro _ w53 ⟨rfl, hb51⟩
    replace M := M.call hb51
    refine ⟨_, rfl, (M.sub ns), ?_⟩
    intro a A
    refine atk A 8 rfl hP (M.sub ns) (λ_ M↦zd rfl) λa A↦?_
    refine qy (by kernel_rfl) ?_
    refine hK43 _ _ (wsk fun K54 hK54 => wsk fun K55 hK55 => wrl (sdm A λa A↦?_))
    refine sdo (v := bV true) A dbK λa A↦?_
    refine qa (hK55 _ _ (ct A ?_))
    refine wsk fun K56 hK56 => wrl (sda A λa A↦?_)
    refine qa (hK56 _ _ (wr1 hret A ?_))
    exact ⟨_, rfl, .inr ⟨by decide, jx h2 ho52 (fun k9 => bne_iff_ne.1 hb42 (by rw [k9])) hi3⟩, M.bel⟩
  ·
   have hb42' := bne_eq_false_iff_eq.1 hb42
   refine atk (v := bV false) A 6 rfl hP (M.sub ns) (λ_ M↦qb rfl rfl (fun w => (za w).trans (by rw [hb42]))) λa A↦?_
   refine qy (by kernel_rfl) ?_
   refine hK41 _ _ (cf A ?_)
   refine wp_skip ?_
   exact hJ19 _ _ ⟨i, (by have y2 : s7.getD i 0 = B.getD (B.length - 1) 0 := zk (by simpa using hb42); exact ⟨hi1, Nat.le_refl _, by omega, y2, hi3, hi4.elim id fun k => absurd y2 (k.2 _ (Nat.le_refl _) (by omega))⟩), A.keep _ (by repeat' constructor), M⟩
 ·
  have hb17' := of_decide_eq_false hb17
  refine sdc A qw hb17 λa A↦?_
  refine qa (hK16 _ _ (cf A ?_))
  refine wp_exit (hK11 _ _ (wsk fun K57 hK57 => wsk fun K58 hK58 => wrl (sda A λa A↦?_)))
  refine qa (hK58 _ _ (wr1 hret A ?_))
  exact ⟨_, rfl, .inr ⟨by decide, fun k hk => hi3 k (by have h8 := hk.2.1; have h9 := of_decide_eq_false hb17; omega) hk⟩, M.bel⟩
theorem zp {w : World} {r : Int} {B : List UInt8} (h2 : 2 ≤ B.length) (h4 : B.length ≤ 4) (h0 : 128 ≤ r) (hne : r ≠ 65533) (hv : Lib.validRune r = true) (henc : Utf8.encode r = tx B) (hx : (∃ k, atS B k) ↔ ln7 r = true) : Calls Tryz.prog 71 #[.string (tx s7), .int .i32 r] w fun e w' => ∃ v : Int, e = .returned (iV v) ∧ decide (0 ≤ v) = ln7 r ∧ Below w.heap.size w w' := (jk h2 h4 h0 hne hv henc).mono fun e w' ⟨v, h1, h3, h5⟩ => by
 refine ⟨v, h1, ?_, h5⟩
 rcases h3 with ⟨h6, h7⟩ | ⟨h6, h7⟩
 ·
  rw [hx.1 h7]; exact decide_eq_true h6
 ·
  rw [show ln7 r = false from Bool.eq_false_iff.2 fun k => (hx.2 k).elim h7]; exact decide_eq_false (by omega)
theorem je {k : Nat} (h : k < 7) : k = 0 ∨ k = 1 ∨ k = 2 ∨ k = 3 ∨ k = 4 ∨ k = 5 ∨ k = 6 := by omega
theorem xe {r : Int} {b0 b1 : UInt8} (h0 : 128 ≤ r) (h1 : r ≤ 2047) (e0 : ((b0.toNat : Nat) : Int) = 192 + r / 64) (e1 : ((b1.toNat : Nat) : Int) = 128 + r % 64) : (∃ k, atS [b0, b1] k) ↔ ln7 r = true := by
 constructor
 ·
  rintro ⟨k, q1, q2, q3⟩
  have z1 : s7.getD k 0 = b1 := q3 0 (by simp)
  have z0 : s7.getD (k - 1) 0 = b0 := q3 1 (by simp)
  subst z1 z0
  apply decide_eq_true
  rcases je q2 with rfl | rfl | rfl | rfl | rfl | rfl | rfl <;> simp [s7] at e0 e1 <;> omega
 ·
  intro h
  have hr : r = 133 := by have := of_decide_eq_true h; omega
  subst hr
  obtain rfl : b0 = 194 := zk (e0.trans (by decide))
  obtain rfl : b1 = 133 := zk (e1.trans (by decide))
  exact ⟨3, by decide, by decide, by decide⟩
theorem xf {r : Int} {b0 b1 b2 : UInt8} (h0 : 2048 ≤ r) (h1 : r ≤ 65535) (e0 : ((b0.toNat : Nat) : Int) = 224 + r / 4096) (e1 : ((b1.toNat : Nat) : Int) = 128 + r / 64 % 64) (e2 : ((b2.toNat : Nat) : Int) = 128 + r % 64) : (∃ k, atS [b0, b1, b2] k) ↔ ln7 r = true := by
 constructor
 ·
  rintro ⟨k, q1, q2, q3⟩
  have z2 : s7.getD k 0 = b2 := q3 0 (by simp)
  have z1 : s7.getD (k - 1) 0 = b1 := q3 1 (by simp)
  have z0 : s7.getD (k - 2) 0 = b0 := q3 2 (by simp)
  subst z2 z1 z0
  apply decide_eq_true
  rcases je q2 with rfl | rfl | rfl | rfl | rfl | rfl | rfl <;> simp [s7] at e0 e1 e2 <;> omega
 ·
  intro h
  have hr : r = 8232 := by have := of_decide_eq_true h; omega
  subst hr
  obtain rfl : b0 = 226 := zk (e0.trans (by decide))
  obtain rfl : b1 = 128 := zk (e1.trans (by decide))
  obtain rfl : b2 = 168 := zk (e2.trans (by decide))
  exact ⟨6, by decide, by decide, by decide⟩
theorem xg {r : Int} {b0 b1 b2 b3 : UInt8} (h0 : 65536 ≤ r) (h1 : r ≤ 1114111) (e0 : ((b0.toNat : Nat) : Int) = 240 + r / 262144) : (∃ k, atS [b0, b1, b2, b3] k) ↔ ln7 r = true := by
 constructor
 ·
  rintro ⟨k, q1, q2, q3⟩
  have z0 : s7.getD (k - 3) 0 = b0 := q3 3 (by simp)
  subst z0
  exfalso
  rcases je q2 with rfl | rfl | rfl | rfl | rfl | rfl | rfl <;> simp [s7] at e0 <;> omega
 ·
  intro h
  have := of_decide_eq_true h
  omega
theorem jo {w : World} {r : Int} (h : C.OkR r) : Calls Tryz.prog 71 #[.string (tx [10, 13, 194, 133, 226, 128, 168]), .int .i32 r] w fun e w' => ∃ v : Int, e = .returned (iV v) ∧ decide (0 ≤ v) = ln7 r ∧ Below w.heap.size w w' := by
 by_cases h128 : r < 128
 ·
  have h0 : 0 ≤ r := by unfold C.OkR at h; omega
  refine (Tryz.strings_IndexRune_ascii (tx [10, 13, 194, 133, 226, 128, 168]) r w h0 h128).mono ?_
  rintro e w' ⟨rfl, rfl⟩
  have := C.ix7 r.toNat (by omega)
  rw [Int.toNat_of_nonneg h0] at this
  exact ⟨_, rfl, this, Below.refl _ _⟩
 ·
  by_cases he : r = 65533
  ·
   subst he
   refine (C.irune_err7 w).mono ?_
   rintro e w' ⟨rfl, hb⟩
   exact ⟨_, rfl, by decide, hb⟩
  ·
   have hv := h.valid
   unfold C.OkR at h
   by_cases h2 : r ≤ 2047
   ·
    exact zp (by simp) (by simp) (by omega) he hv (enc_tx hv (by unfold Lib.encodeRune; rw [Lib.encodeRuneZ_two (by omega) h2]; rfl)) (xe (by omega) h2 (byte_of (x := 192 + r / 64) (by omega) (by omega)) (byte_of (x := 128 + r % 64) (by omega) (by omega)))
   ·
    by_cases h3 : r ≤ 65535
    ·
     exact zp (by simp) (by simp) (by omega) he hv (enc_tx hv (by unfold Lib.encodeRune; rw [Lib.encodeRuneZ_three (by omega)]; rfl)) (xf (by omega) h3 (byte_of (x := 224 + r / 4096) (by omega) (by omega)) (byte_of (x := 128 + r / 64 % 64) (by omega) (by omega)) (byte_of (x := 128 + r % 64) (by omega) (by omega)))
    ·
     exact zp (by simp) (by simp) (by omega) he hv (enc_tx hv (by unfold Lib.encodeRune; rw [Lib.encodeRuneZ_four (by omega) (by omega)]; rfl)) (xg (by omega) (by omega) (byte_of (x := 240 + r / 262144) (by omega) (by omega)))
def lnX (l : List UInt8) : Nat := C.lnN l.length l
theorem zu {w : World} {l : List UInt8} (hl : l.length < 4294967281) : Calls Tryz.prog 51 #[.string (tx l), .string (tx [10, 13, 194, 133, 226, 128, 168])] w fun e w' => (∃ v : Int, e = .returned (iV v) ∧ (v = ((lnX l : Nat) : Int) ∧ lnX l < l.length ∨ v = -1 ∧ lnX l = l.length)) ∧ Below w.heap.size w w' := by
 have := C.iany7 (tx l) (fun r w h => jo h) w (by rw [jf]; exact hl)
 rwa [jf, xd] at this
theorem xh {w : World} {l : List UInt8} (hl : l.length < 4294967281) (h : decide (lnX l < l.length) = true) : Calls Tryz.prog 51 #[.string (tx l), .string (tx [10, 13, 194, 133, 226, 128, 168])] w fun e w' => e = .returned (iV ((lnX l : Nat) : Int)) ∧ Below w.heap.size w w' := (zu hl).mono fun e w' h1 => by
 obtain ⟨⟨v, rfl, h2 | h2⟩, hb⟩ := h1
 ·
  exact ⟨by rw [h2.1], hb⟩
 ·
  exact absurd (of_decide_eq_true h) (by omega)
theorem xi {w : World} {l : List UInt8} (hl : l.length < 4294967281) (h : decide (lnX l < l.length) = false) : Calls Tryz.prog 51 #[.string (tx l), .string (tx [10, 13, 194, 133, 226, 128, 168])] w fun e w' => e = .returned (iV (-1)) ∧ lnX l = l.length ∧ Below w.heap.size w w' := (zu hl).mono fun e w' h1 => by
 obtain ⟨⟨v, rfl, h2 | h2⟩, hb⟩ := h1
 ·
  exact absurd h2.2 (of_decide_eq_false h)
 ·
  exact ⟨by rw [h2.1], h2.2, hb⟩
end Go.Proofs.YtclkfideaameoaaGreatDoor.G
