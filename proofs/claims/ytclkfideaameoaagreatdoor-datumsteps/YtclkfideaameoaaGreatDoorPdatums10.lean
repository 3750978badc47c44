/- RdT -/
import Derived.Test.YtclkfideaameoaaGreatDoorPdatums10
import Derived.Test.YtclkfideaameoaaGreatDoorRows
import Derived.Handed
import Derived.FnData
import Derived.LaidLaws
import Derived.Lib.LaidU8
import Derived.KernelRfl
import Derived.Test.YtclkfideaameoaaGreatDoorPdatums10y
import Derived.Test.YtclkfideaameoaaGreatDoorPdatums10w
import Derived.Test.YtclkfideaameoaaGreatDoorProg
set_option linter.unusedVariables false
set_option linter.unusedSimpArgs false
set_option maxHeartbeats 1000000
namespace Go.Proofs.YtclkfideaameoaaGreatDoor.G
open Go.RowKit
set_option maxRecDepth 100000
theorem ze {W : World} {n nm : String} {d : DataW Unit} {g t : Nat} {ms : Array (String × TypeId)} (hg : Tryz.prog.globalNamed n = some g) (ht : (Tryz.prog.globals[g]?).map (·.type) = some t) (hi : Tryz.prog.underlying t = some (.interface ms)) (h : Lib.VarReads Tryz.prog W n (.iface nm d)) :
  ∃ ev : Value, W.cell? ⟨g, 0, none⟩ = some ev ∧ (ev = .nilIface ∨ ∃ te pe, ev = .iface te pe) := by
 obtain ⟨g', t', cs, fuel, p, h1, h2, h3, h4⟩ := h
 obtain rfl : g' = g := Option.some.inj (h1.symm.trans hg)
 obtain rfl : t' = t := Option.some.inj (h2.symm.trans ht)
 obtain ⟨_, u, v, hc, _⟩ := iface_of_trod hi h4
 refine ⟨.iface u v, ?_, .inr ⟨u, v, rfl⟩⟩
 rw [World.var?_cell h1 h3 0, ← Array.getElem?_toList, hc]
 rfl
theorem ju {W : World} (h : World.ShapedOpen Tryz.prog W) : ∃ m : Int, W.cell? ⟨Tryz.lays145_ren.g 1, 0, none⟩ = some (iV m) := by
 obtain ⟨ha, _⟩ := h
 obtain ⟨cs, h1, h2, h3⟩ := ha 2 #[iV 0] 3 (of_decide_eq_true (by kernel_rfl)) (by kernel_rfl)
 obtain ⟨ts, e1, _, e2⟩ := h3 (by kernel_rfl)
 have ets : ts = [3] := Option.some.inj (e1.symm.trans (by kernel_rfl))
 subst ets
 have h0 : 0 < cs.size := by rw [h2]; exact Nat.one_pos
 obtain ⟨u, hu, ho⟩ := e2 0 cs[0] (Array.getElem?_eq_getElem h0)
 obtain rfl : 3 = u := Option.some.inj hu
 have hc : W.cell? ⟨2, 0, none⟩ = some cs[0] := by
  simp only [World.cell?, h1]
  exact Array.getElem?_eq_getElem h0
 unfold Cell.ok at ho
 rw [Tryz.underlying3] at ho
 generalize cs[0] = v at hc ho
 cases v with
 | int k n =>
  obtain ⟨e, _⟩ := ho
  cases e
  exact ⟨n, hc⟩
 | _ => exact absurd ho id
theorem xg {W : World} (hT : Tb W) (hR : Lib.VarReads Tryz.prog W "strconv.ErrRange" Rows.laid_strconv_ErrRange) (S : Lib.VarReads Tryz.prog W "strconv.ErrSyntax" Rows.laid_strconv_ErrSyntax) (hO : World.ShapedOpen Tryz.prog W) : Env W :=
 ⟨hT, ⟨ze (by kernel_rfl) (by kernel_rfl) Tryz.underlying85 S, ze (by kernel_rfl) (by kernel_rfl) Tryz.underlying85 hR⟩, ju hO⟩
theorem jq {W : World} {s : ByteArray} (hE : Env W) (hs : s.size ≤ 140737488351232) : Calls Tryz.prog 4 #[.string s] W fun e w' => e = .returned (bV true) ∧ Below W.heap.size W w' := by
 have h := steps_any (L := s.data.toList) hE (by rw [Array.length_toList]; exact Nat.le_trans hs (by decide))
 have e : tx s.data.toList = s := xm s
 rwa [e] at h
end Go.Proofs.YtclkfideaameoaaGreatDoor.G
namespace Go.Proofs.YtclkfideaameoaaGreatDoor.G
open Go.RowKit
set_option maxRecDepth 100000
theorem RdA_is1_3 : Is1 Tryz.prog 3 := ⟨⟨_, Tryz.underlying3, rfl⟩, by kernel_rfl⟩
theorem RdA_is1_9 : Is1 Tryz.prog 9 := ⟨⟨_, Tryz.underlying9, rfl⟩, by kernel_rfl⟩
theorem RdA_fld_50_0 : FieldAt Tryz.prog 50 0 0 := ⟨_, _, Tryz.underlying50, rfl, rfl, by kernel_rfl⟩
theorem RdA_fld_50_1 : FieldAt Tryz.prog 50 1 1 := ⟨_, _, Tryz.underlying50, rfl, rfl, by kernel_rfl⟩
def flt : List PanicEntry := [{ v := .iface 47 (.agg #[]), recovered := false }]
theorem ja {P : Program} {w : World} {l : List (Nat × Value)} {dst : Option Tmp} {ty t : TypeId} {pos : String} {after : Array Edge} {guard : Option (Nat × Bool)} {x : Operand} {v : Value} (ht : P.concrete t = true) (hx : ev l x = some v) : Does P l ⟨dst, .makeInterface t x, ty, pos, after, guard⟩ w (.iface t v) w := fun ρ h => by
 simp [execOp, h x _ hx, run_makeInterface w t v ht]
theorem jn {w : World} : Calls Tryz.prog 23 #[bV true] w fun e w' => e = .returned (.tuple #[]) ∧ Below w.heap.size w w' := by
 have M : Mg w w ([]) := Mg.start w
 refine qr (l := [(0, bV true)]) Tryz.func23 rfl Tryz.ntmps23 rfl rfl ?_
 intro Q hret hnorm hP a A
 refine wsk fun K1 hK1 => wrl (sdm A λa A↦?_)
 refine sdo (v := bV false) A (zn rfl zs) λa A↦?_
 refine qa (hK1 _ _ (cf A ?_))
 refine wp_skip (hnorm _ _ (xn (v := .tuple #[]) A rfl .nil rfl ?_))
 exact ⟨rfl, M.bel⟩
theorem zx {w : World} : Calls Tryz.prog 23 #[bV false] w fun e w' => e = .panicked flt ∧ Below w.heap.size w w' := by
 have M : Mg w w ([]) := Mg.start w
 refine zy (l := [(0, bV false)]) Tryz.func23 rfl Tryz.ntmps23 rfl rfl ?_
 intro Q hret hnorm hP hX a A
 refine wsk fun K1 hK1 => wrl (sdm A λa A↦?_)
 refine sdo (v := bV true) A (zn rfl zs) λa A↦?_
 refine qa (hK1 _ _ (ct A ?_))
 refine wrl (sdo (v := .agg #[]) A (jm rfl (fun w => by kernel_rfl)) λa A↦?_)
 refine sdo (v := .iface 47 (.agg #[])) A (ja (by kernel_rfl) rfl) λa A↦?_
 refine jp (v := .iface 47 (.agg #[])) A rfl (fun ρ h => by simp only [execOp, h (.tmp 5) _ rfl]; rfl) ?_
 exact hX _ _ _ _ _ A ⟨rfl, M.bel⟩
theorem qz {w0 w : World} {g p : Nat} {lg : Bool} {L : List UInt8} {T : List Ck} (hp : p ≤ L.length) (hM0 : Mg w0 w (.obj g (rC L p lg) :: T)) : Calls Tryz.prog 21 #[pA g 0] w fun e w' => e = .returned (.string (tx (L.drop p))) ∧ Mg w0 w' (.obj g (rC L p lg) :: T) := by
 have M : Mg w0 w (.obj g (rC L p lg) :: T) := hM0
 refine qr (l := [(0, pA g 0)]) Tryz.func21 rfl Tryz.ntmps21 rfl rfl ?_
 intro Q hret hnorm hP a A
 refine wsk fun K1 hK1 => wrl (sda A λa A↦?_)
 refine qa (hK1 _ _ (wsk fun K2 hK2 => zj (S := fun w1 => Mg w0 w1 (.obj g (rC L p lg) :: [])) (by kernel_rfl) ?_))
 replace M := M.drew
 refine amv A 0 rfl hP (M.sub (cc ns)) λa A↦?_
 refine atk A 1 rfl hP (M.sub (cc ns)) (λ_ M↦zg rfl) λa A↦?_
 refine atk (v := pA g 0) A 2 rfl hP (M.sub (cc ns)) (λ_ M↦qj RdA_fld_50_0 rfl rfl) λa A↦?_
 refine atk A 3 rfl hP (M.sub (cc ns)) (λ_ M↦zu M RdA_is1_9 rfl 0 rfl rfl) λa A↦?_
 refine amv A 4 rfl hP (M.sub (cc ns)) λa A↦?_
 refine atk A 5 rfl hP (M.sub (cc ns)) (λ_ M↦zg rfl) λa A↦?_
 refine atk (v := pA g 1) A 6 rfl hP (M.sub (cc ns)) (λ_ M↦qj RdA_fld_50_1 rfl rfl) λa A↦?_
 refine atk A 7 rfl hP (M.sub (cc ns)) (λ_ M↦zu M RdA_is1_3 rfl 0 rfl rfl) λa A↦?_
 refine atk (v := .string ((tx (L.drop p)))) A 8 rfl hP (M.sub (cc ns)) (λ_ M↦qs (s := L) (p := p) Tryz.underlying9 rfl rfl rfl (by omega)) λa A↦?_
 refine atk A 9 rfl hP (M.sub (cc ns)) (λ_ M↦zd rfl) λa A↦?_
 refine qy (by kernel_rfl) ?_
 refine hK2 _ _ (wr1 hret A ?_)
 exact ⟨rfl, M⟩
end Go.Proofs.YtclkfideaameoaaGreatDoor.G
∧ Mg w0 w' (.obj g (rC L p lg) :: T) := by
 have M : Mg w0 w (.obj g (rC L p lg) :: T) := hM0
 refine qr (l := [(0, pA g 0), (1, .string ((tx t)))]) Tryz.func32 rfl Tryz.ntmps32 rfl rfl ?_
 intro Q hret hnorm hP a A
 refine wsk fun K1 hK1 => wrl (sda A λa A↦?_)
 refine qa (hK1 _ _ (wsk fun K2 hK2 => wsk fun K3 hK3 => wrl (sdm A λa A↦?_)))
 refine sct A (ef rfl rfl) (qz (p := p) (L := L) (T := (T)) (by omega) M) ?_
 rintro _ w5 ⟨rfl, hM4⟩
 replace M : Mg w0 w5 (.obj g (rC L p lg) :: T) := hM4
 refine ⟨_, rfl, ?_⟩
 intro a A
 refine sdm A λa A↦?_
 refine gcl A M (ef rfl rfl) ((hp_as hh)) fun w7 hb6 M a A => ?_
 refine sdo (v := bV true) A (zn rfl zs) λa A↦?_
 refine qa (hK3 _ _ (ct A ?_))
 refine wsk fun K8 hK8 => wrl (sda A λa A↦?_)
 refine qa (hK8 _ _ (wr1 hret A ?_))
 exact ⟨rfl, M⟩
theorem xd {w0 w : World} {g p : Nat} {lg : Bool} {L : List UInt8} {T : List Ck} (hT : Tb w0) (hp : p ≤ L.length) (hl : L.length ≤ 1000000000) (hne : L.drop p ≠ []) (hM0 : Mg w0 w (.obj g (rC L p lg) :: T)) : Calls Tryz.prog 53 #[pA g 0] w fun e w' => e = .returned (.int .i32 (((dcX (L.drop p)).1 : Nat) : Int)) ∧ Mg w0 w' (.obj g (rC L (p + (dcX (L.drop p)).2) lg) :: T) := by
 obtain ⟨hw1, hw2⟩ := dcX_wide hne
 rw [List.length_drop] at hw2
 have M : Mg w0 w (.obj g (rC L p lg) :: T) := hM0
 refine qr (l := [(0, pA g 0)]) Tryz.func53 rfl Tryz.ntmps53 rfl rfl ?_
 intro Q hret hnorm hP a A
 refine wsk fun K1 hK1 => wrl (sda A λa A↦?_)
 refine qa (hK1 _ _ (wsk fun K2 hK2 => wrl (sdm A λa A↦?_)))
 refine sct A (ef rfl rfl) (qz (p := p) (L := L) (T := (T)) (by omega) M) ?_
 rintro _ w4 ⟨rfl, hM3⟩
 replace M : Mg w0 w4 (.obj g (rC L p lg) :: T) := hM3
 refine ⟨_, rfl, ?_⟩
 intro a A
 refine gcl A M (ef rfl rfl) (dc_any (l := L.drop p) (hT.below M.bel)) fun w6 hb5 M a A => ?_
 refine sdm A λa A↦?_
 iterate 2 refine sdo A (qp (vs := [.int .i32 ((((dcX (L.drop p)).1 : Nat) : Int)), iV ((((dcX (L.drop p)).2 : Nat) : Int))]) rfl rfl) λa A↦?_
 iterate 2 refine sda A λa A↦?_
 refine qa (hK2 _ _ (wsk fun K7 hK7 => wrl (sdm A λa A↦?_)))
 refine sdo (v := bV true) A (qb rfl rfl (fun w => (qx w).trans (by rw [show (decide (0 < (((dcX (L.drop p)).2 : Nat) : Int))) = true from (decide_eq_true (by omega))]))) λa A↦?_
 refine gcl A M (ef rfl rfl) (jn) fun w9 hb8 M a A => ?_
 refine qa (hK7 _ _ (wsk fun K10 hK10 => wrl (sdm A λa A↦?_)))
 refine sdo A (zg rfl) λa A↦?_
 refine sdo (v := pA g 1) A (qj RdB_fld_50_1 rfl rfl) λa A↦?_
 refine sdo A (zu M RdB_is1_3 rfl 0 rfl rfl) λa A↦?_
 refine sdm A λa A↦?_
 refine sdo (v := iV (((p + (dcX (L.drop p)).2 : Nat) : Int))) A (qb rfl rfl (ar_add ((in_i64 (by omega) (by omega)).trans (by omega)))) λa A↦?_
 refine sdo A (zg rfl) λa A↦?_
 refine sdo (v := pA g 1) A (qj RdB_fld_50_1 rfl rfl) λa A↦?_
 refine xb (L' := (.obj g (rC L (p + (dcX (L.drop p)).2) lg) :: T)) A M rfl rfl (xa rfl rfl rfl (by kernel_rfl) M 0 rfl rfl rfl) 0 rfl rfl rfl ?_
 intro w11 M
 refine qa (hK10 _ _ (wsk fun K12 hK12 => wrl (sdm A λa A↦?_)))
 refine sda A λa A↦?_
 refine qa (hK12 _ _ (wr1 hret A ?_))
 exact ⟨rfl, M⟩
theorem jv {w0 w : World} {g p : Nat} {lg : Bool} {L : List UInt8} {T : List Ck} (hT : Tb w0) (hp : p ≤ L.length) (hl : L.length ≤ 1000000000) (hne : L.drop p = []) (hM0 : Mg w0 w (.obj g (rC L p lg) :: T)) : Calls Tryz.prog 53 #[pA g 0] w fun e w' => e = .panicked flt ∧ Mg w0 w' (.obj g (rC L p lg) :: T) := by
 have hw1 : (dcX (L.drop p)).2 = 0 := by rw [hne]; rfl
 have M : Mg w0 w (.obj g (rC L p lg) :: T) := hM0
 refine zy (l := [(0, pA g 0)]) Tryz.func53 rfl Tryz.ntmps53 rfl rfl ?_
 intro Q hret hnorm hP hX a A
 refine wsk fun K1 hK1 => wrl (sda A λa A↦?_)
 refine qa (hK1 _ _ (wsk fun K2 hK2 => wrl (sdm A λa A↦?_)))
 refine sct A (ef rfl rfl) (qz (p := p) (L := L) (T := (T)) (by omega) M) ?_
 rintro _ w4 ⟨rfl, hM3⟩
 replace M : Mg w0 w4 (.obj g (rC L p lg) :: T) := hM3
 refine ⟨_, rfl, ?_⟩
 intro a A
 refine gcl A M (ef rfl rfl) (dc_any (l := L.drop p) (hT.below M.bel)) fun w6 hb5 M a A => ?_
 refine sdm A λa A↦?_
 iterate 2 refine sdo A (qp (vs := [.int .i32 ((((dcX (L.drop p)).1 : Nat) : Int)), iV ((((dcX (L.drop p)).2 : Nat) : Int))]) rfl rfl) λa A↦?_
 iterate 2 refine sda A λa A↦?_
 refine qa (hK2 _ _ (wsk fun K7 hK7 => wrl (sdm A λa A↦?_)))
 refine sdo (v := bV false) A (qb rfl rfl (fun w => (qx w).trans (by rw [show (decide (0 < (((dcX (L.drop p)).2 : Nat) : Int))) = false from (decide_eq_false (by omega))]))) λa A↦?_
 refine zr A rfl rfl rfl (ef rfl rfl) (zx) ?_
 rintro _ w9 ⟨rfl, hp10⟩
 exact .inl ⟨_, rfl, hX _ _ _ _ _ A (⟨rfl, M.call hp10⟩)⟩
end Go.Proofs.YtclkfideaameoaaGreatDoor.G
true) A λa A↦?_
     refine sda A λa A↦?_
     refine qa (hK2 _ _ (wr1 hret A ?_))
     exact ⟨by unfold isHx; rw [hb3, hb4, hb5, hb6]; rfl, M.bel⟩
    ·
     have hb6' := of_decide_eq_false hb6
     refine sdc A ql hb6 λa A↦?_
     iterate 2 refine sdk (v := bV false) A λa A↦?_
     iterate 2 refine sdm A λa A↦?_
     rcases tf (decide (65 ≤ ((b.toNat : Nat) : Int))) with hb7 | hb7
     ·
      have hb7' := of_decide_eq_true hb7
      refine sdc A qk hb7 λa A↦?_
      iterate 2 refine sdm A λa A↦?_
      rcases tf (decide (((b.toNat : Nat) : Int) ≤ 70)) with hb8 | hb8
      ·
       have hb8' := of_decide_eq_true hb8
       refine sdc A ql hb8 λa A↦?_
       iterate 2 refine sdk (v := bV true) A λa A↦?_
       refine sda A λa A↦?_
       refine qa (hK2 _ _ (wr1 hret A ?_))
       exact ⟨by unfold isHx; rw [hb3, hb4, hb5, hb6, hb7, hb8]; rfl, M.bel⟩
      ·
       have hb8' := of_decide_eq_false hb8
       refine sdc A ql hb8 λa A↦?_
       iterate 2 refine sdk (v := bV false) A λa A↦?_
       refine sda A λa A↦?_
       refine qa (hK2 _ _ (wr1 hret A ?_))
       exact ⟨by unfold isHx; rw [hb3, hb4, hb5, hb6, hb7, hb8]; rfl, M.bel⟩
     ·
      have hb7' := of_decide_eq_false hb7
      refine sdc A qk hb7 λa A↦?_
      refine sdm A λa A↦?_
      iterate 2 refine qg A rfl rfl rfl λa A↦?_
      iterate 2 refine sdk (v := bV false) A λa A↦?_
      refine sda A λa A↦?_
      refine qa (hK2 _ _ (wr1 hret A ?_))
      exact ⟨by unfold isHx; rw [hb3, hb4, hb5, hb6, hb7]; rfl, M.bel⟩
   ·
    have hb5' := of_decide_eq_false hb5
    refine sdc A qk hb5 λa A↦?_
    refine sdm A λa A↦?_
    iterate 2 refine qg A rfl rfl rfl λa A↦?_
    iterate 2 refine sdk (v := bV false) A λa A↦?_
    iterate 2 refine sdm A λa A↦?_
    rcases tf (decide (65 ≤ ((b.toNat : Nat) : Int))) with hb9 | hb9
    ·
     have hb9' := of_decide_eq_true hb9
     refine sdc A qk hb9 λa A↦?_
     iterate 2 refine sdm A λa A↦?_
     rcases tf (decide (((b.toNat : Nat) : Int) ≤ 70)) with hb10 | hb10
     ·
      have hb10' := of_decide_eq_true hb10
      refine sdc A ql hb10 λa A↦?_
      iterate 2 refine sdk (v := bV true) A λa A↦?_
      refine sda A λa A↦?_
      refine qa (hK2 _ _ (wr1 hret A ?_))
      exact ⟨by unfold isHx; rw [hb3, hb4, hb5, hb9, hb10]; rfl, M.bel⟩
     ·
      have hb10' := of_decide_eq_false hb10
      refine sdc A ql hb10 λa A↦?_
      iterate 2 refine sdk (v := bV false) A λa A↦?_
      refine sda A λa A↦?_
      refine qa (hK2 _ _ (wr1 hret A ?_))
      exact ⟨by unfold isHx; rw [hb3, hb4, hb5, hb9, hb10]; rfl, M.bel⟩
    ·
     have hb9' := of_decide_eq_false hb9
     refine sdc A qk hb9 λa A↦?_
     refine sdm A λa A↦?_
     iterate 2 refine qg A rfl rfl rfl λa A↦?_
     iterate 2 refine sdk (v := bV false) A λa A↦?_
     refine sda A λa A↦?_
     refine qa (hK2 _ _ (wr1 hret A ?_))
     exact ⟨by unfold isHx; rw [hb3, hb4, hb5, hb9]; rfl, M.bel⟩
 ·
  have hb3' := of_decide_eq_false hb3
  refine sdc A qk hb3 λa A↦?_
  refine sdm A λa A↦?_
  iterate 2 refine qg A rfl rfl rfl λa A↦?_
  refine sdk (v := bV false) A λa A↦?_
  iterate 2 refine sdm A λa A↦?_
  rcases tf (decide (97 ≤ ((b.toNat : Nat) : Int))) with hb11 | hb11
  ·
   have hb11' := of_decide_eq_true hb11
   refine sdc A qk hb11 λa A↦?_
   iterate 2 refine sdm A λa A↦?_
   rcases tf (decide (((b.toNat : Nat) : Int) ≤ 102)) with hb12 | hb12
   ·
    have hb12' := of_decide_eq_true hb12
    refine sdc A ql hb12 λa A↦?_
    iterate 2 refine sdk (v := bV true) A λa A↦?_
    refine sdm A λa A↦?_
    iterate 3 refine qg A rfl rfl rfl λa A↦?_
    iterate 2 refine jr A rfl rfl rfl λa A↦?_
    refine qg A rfl rfl rfl λa A↦?_
    refine sdk (v := bV true) A λa A↦?_
    refine sda A λa A↦?_
    refine qa (hK2 _ _ (wr1 hret A ?_))
    exact ⟨by unfold isHx; rw [hb3, hb11, hb12]; rfl, M.bel⟩
   ·
    have hb12' := of_decide_eq_false hb12
    refine sdc A ql hb12 λa A↦?_
    iterate 2 refine sdk (v := bV false) A λa A↦?_
    iterate 2 refine sdm A λa A↦?_
    rcases tf (decide (65 ≤ ((b.toNat : Nat) : Int))) with hb13 | hb13
    ·
     have hb13' := of_decide_eq_true hb13
     refine sdc A qk hb13 λa A↦?_
     iterate 2 refine sdm A λa A↦?_
     rcases tf (decide (((b.toNat : Nat) : Int) ≤ 70)) with hb14 | hb14
     ·
      have hb14' := of_decide_eq_true hb14
      refine sdc A ql hb14 λa A↦?_
      iterate 2 refine sdk (v := bV true) A λa A↦?_
      refine sda A λa A↦?_
      refine qa (hK2 _ _ (wr1 hret A ?_))
      exact ⟨by unfold isHx; rw [hb3, hb11, hb12, hb13, hb14]; rfl, M.bel⟩
     ·
      have hb14' := of_decide_eq_false hb14
      refine sdc A ql hb14 λa A↦?_
      iterate 2 refine sdk (v := bV false) A λa A↦?_
      refine sda A λa A↦?_
      refine qa (hK2 _ _ (wr1 hret A ?_))
      exact ⟨by unfold isHx; rw [hb3, hb11, hb12, hb13, hb14]; rfl, M.bel⟩
    ·
     have hb13' := of_decide_eq_false hb13
     refine sdc A qk hb13 λa A↦?_
     refine sdm A λa A↦?_
     iterate 2 refine qg A rfl rfl rfl λa A↦?_
     iterate 2 refine sdk (v := bV false) A λa A↦?_
     refine sda A λa A↦?_
     refine qa (hK2 _ _ (wr1 hret A ?_))
     exact ⟨by unfold isHx; rw [hb3, hb11, hb12, hb13]; rfl, M.bel⟩
  ·
   have hb11' := of_decide_eq_false hb11
   refine sdc A qk hb11 λa A↦?_
   refine sdm A λa A↦?_
   iterate 2 refine qg A rfl rfl rfl λa A↦?_
   iterate 2 refine sdk (v := bV false) A λa A↦?_
   iterate 2 refine sdm A λa A↦?_
   rcases tf (decide (65 ≤ ((b.toNat : Nat) : Int))) with hb15 | hb15
   ·
    have hb15' := of_decide_eq_true hb15
    refine sdc A qk hb15 λa A↦?_
    iterate 2 refine sdm A λa A↦?_
    rcases tf (decide (((b.toNat : Nat) : Int) ≤ 70)) with hb16 | hb16
    ·
     have hb16' := of_decide_eq_true hb16
     refine sdc A ql hb16 λa A↦?_
     iterate 2 refine sdk (v := bV true) A λa A↦?_
     refine sda A λa A↦?_
     refine qa (hK2 _ _ (wr1 hret A ?_))
     exact ⟨by unfold isHx; rw [hb3, hb11, hb15, hb16]; rfl, M.bel⟩
    ·
     have hb16' := of_decide_eq_false hb16
     refine sdc A ql hb16 λa A↦?_
     iterate 2 refine sdk (v := bV false) A λa A↦?_
     refine sda A λa A↦?_
     refine qa (hK2 _ _ (wr1 hret A ?_))
     exact ⟨by unfold isHx; rw [hb3, hb11, hb15, hb16]; rfl, M.bel⟩
   ·
    have hb15' := of_decide_eq_false hb15
    refine sdc A qk hb15 λa A↦?_
    refine sdm A λa A↦?_
    iterate 2 refine qg A rfl rfl rfl λa A↦?_
    iterate 2 refine sdk (v := bV false) A λa A↦?_
    refine sda A λa A↦?_
    refine qa (hK2 _ _ (wr1 hret A ?_))
    exact ⟨by unfold isHx; rw [hb3, hb11, hb15]; rfl, M.bel⟩
theorem jb {w : World} {b : UInt8} {c : Bool} (h : isHx b = c) : Calls Tryz.prog 116 #[.int .u8 ((b.toNat : Nat) : Int)] w fun e w' => e = .returned (bV c) ∧ Below w.heap.size w w' := h ▸ hex_any
theorem jc {w : World} {l : List UInt8} (hT : Tb w) (hl : l.length ≤ 1000000000) : Calls Tryz.prog 86 #[.string (tx l)] w fun e w' => e = .returned (iV ((tiedN l : Nat) : Int)) ∧ Below w.heap.size w w' := by
 have M : Mg w w ([]) := Mg.start w
 refine qr (l := [(0, .string ((tx l)))]) Tryz.func86 rfl Tryz.ntmps86 rfl rfl ?_
 intro Q hret hnorm hP a A
 refine wsk fun K1 hK1 => wrl (sda A λa A↦?_)
 refine qa (hK1 _ _ (wsk fun K2 hK2 => wrl (sdm A λa A↦?_)))
 refine sct A (ef rfl rfl) (dc_any (l := l) (hT.below M.bel)) ?_
 rintro _ w4 ⟨rfl, hb3⟩
 obtain ⟨q, hq⟩ : ∃ q, (dcX l).2 = q := ⟨_, rfl⟩
 have hql := dcX_le l
 rw [hq] at hql ⊢
 replace M := M.call hb3
 refine ⟨_, rfl, ?_⟩
 intro a A
 refine sdm A λa A↦?_
 iterate 2 refine sdo A (qp (vs := [.int .i32 ((((dcX l).1 : Nat) : Int)), iV (((q : Nat) : Int))]) rfl rfl) λa A↦?_
 iterate 2 refine sda A λa A↦?_
 refine qa (hK2 _ _ (wsk fun K5 hK5 => wrl (sda A λa A↦?_)))
 refine qa (hK5 _ _ (wsk fun K6 hK6 => wp_block (zm (fun m_ a w1 => ∃ (j : Nat), m_ = 1 + (l.length - (q + j)) ∧ (q + j ≤ l.length ∧ hxN (l.drop q) = j + hxN (l.drop (q + j))) ∧ Sl a 41 [(0, .string ((tx l))), (2, iV 0), (3, .int .i32 ((((dcX l).1 : Nat) : Int))), (4, iV (((q : Nat) : Int))), (5, iV (((j : Nat) : Int))), (6, .tuple #[.int .i32 ((((dcX l).1 : Nat) : Int)), iV (((q : Nat) : Int))]), (7, .string ((tx l))), (8, .tuple #[.int .i32 ((((dcX l).1 : Nat) : Int)), iV (((q : Nat) : Int))]), (9, .int .i32 ((((dcX l).1 : Nat) : Int))), (10, iV (((q : Nat) : Int)))] ∧ Mg w w1 ([])) _ ⟨0, rfl, ⟨by omega, by rw [Nat.zero_add, Nat.add_zero]⟩, A.keep _ (by repeat' constructor), M⟩ ?_)))
 clear M A
 rintro m_ a w7 ⟨j, rfl, hinv9, A, M⟩ K8 hK8
 obtain ⟨hj0, hj⟩ := hinv9
 refine wsk fun K10 hK10 => wsk fun K11 hK11 => wrl ?_
 iterate 2 refine sdm A λa A↦?_
 refine sdo (v := iV (((q + j : Nat) : Int))) A (qb rfl rfl (ar_add ((in_i64 (by omega) (by omega)).trans (by omega)))) λa A↦?_
 refine sdm A λa A↦?_
 refine sdo (v := iV (((l.length : Nat) : Int))) A (zh (s := l) Tryz.underlying9 rfl) λa A↦?_
 rcases tf (decide (((q + j : Nat) : Int) < ((l.length : Nat) : Int))) with hb12 | hb12
 ·
  have hb12' := of_decide_eq_true hb12
  refine sdc A qw hb12 λa A↦?_
  iterate 4 refine sdm A λa A↦?_
  refine sdo (v := iV (((q + j : Nat) : Int))) A (qb rfl rfl (ar_add ((in_i64 (by omega) (by omega)).trans (by omega)))) λa A↦?_
  obtain ⟨b13, hb14⟩ : ∃ b, l[q + j]? = some b := ⟨_, List.getElem?_eq_getElem (show q + j < l.length by omega)⟩
  refine sdo (v := .int .u8 (((b13.toNat : Nat) : Int))) A (zb (s := l) (i := q + j) Tryz.underlying9 rfl rfl rfl hb14) λa A↦?_
  rcases tf (isHx b13) with hb15 | hb15
  ·
   refine gcl A M (ef rfl rfl) ((jb hb15)) fun w17 hb16 M a A => ?_
   refine sdk (v := bV true) A λa A↦?_
   refine qa (hK11 _ _ (ct A ?_))
   refine wp_skip (hK10 _ _ (wp_block (wrl (sdm A λa A↦?_))))
   refine sdo (v := iV (((j + 1 : Nat) : Int))) A (qb rfl rfl (ar_add ((in_i64 (by omega) (by omega)).trans (by omega)))) λa A↦?_
   refine sda A λa A↦?_
   refine qa ?_
   refine hK8 _ _ _ (by omega) ⟨j + 1, rfl, ⟨by omega, by rw [hj, hxN_hit hb14 hb15, Nat.add_assoc]; omega⟩, A.keep _ (by repeat' constructor), M⟩
  ·
   refine gcl A M (ef rfl rfl) ((jb hb15)) fun w19 hb18 M a A => ?_
   refine sdk (v := bV false) A λa A↦?_
   refine qa (hK11 _ _ (cf A ?_))
   refine wp_exit (hK6 _ _ (wsk fun K20 hK20 => wrl ?_))
   iterate 2 refine sdm A λa A↦?_
   refine sdo (v := iV (((q + j : Nat) : Int))) A (qb rfl rfl (ar_add ((in_i64 (by omega) (by omega)).trans (by omega)))) λa A↦?_
   refine sda A λa A↦?_
   refine qa (hK20 _ _ (wsk fun K21 hK21 => wsk fun K22 hK22 => wrl (sdm A λa A↦?_)))
   rcases tf (decide (0 < ((j : Nat) : Int))) with hb23 | hb23
   ·
    have hb23' := of_decide_eq_true hb23
    refine sdc A qx hb23 λa A↦?_
    iterate 3 refine sdm A λa A↦?_
    refine sdo (v := .string ((tx (l.drop (q + j))))) A (qs (s := l) (p := q + j) Tryz.underlying9 rfl rfl rfl (by omega)) λa A↦?_
    rcases tf (Lib.hasPrefix (l.drop (q + j)) [59]) with hb24 | hb24
    ·
     refine gcl A M (ef rfl rfl) ((hp_as hb24)) fun w26 hb25 M a A => ?_
     refine sdk (v := bV true) A λa A↦?_
     refine qa (hK22 _ _ (ct A ?_))
     refine wrl (sdm A λa A↦?_)
     refine sdo (v := iV (((q + j + 1 : Nat) : Int))) A (qb rfl rfl (ar_add ((in_i64 (by omega) (by omega)).trans (by omega)))) λa A↦?_
     refine sda A λa A↦?_
     refine qa (hK21 _ _ (wsk fun K27 hK27 => wrl (sdm A λa A↦?_)))
     refine sda A λa A↦?_
     refine qa (hK27 _ _ (wr1 hret A ?_))
     have hz : hxN (l.drop (q + j)) = 0 := by first | exact hxN_not (by assumption) (by assumption) | exact hxN_end (by omega)
     have hjj : hxN (l.drop q) = j := by omega
     exact ⟨by unfold tiedN; rw [hq, hjj, hb24, if_pos (by rw [decide_eq_true (by omega)]; rfl)], M.bel⟩
    ·
     refine gcl A M (ef rfl rfl) ((hp_as hb24)) fun w29 hb28 M a A => ?_
     refine sdk (v := bV false) A λa A↦?_
     refine qa (hK22 _ _ (cf A ?_))
     refine wp_skip (hK21 _ _ (wsk fun K30 hK30 => wrl (sdm A λa A↦?_)))
     refine sda A λa A↦?_
     refine qa (hK30 _ _ (wr1 hret A ?_))
     have hz : hxN (l.drop (q + j)) = 0 := by first | exact hxN_not (by assumption) (by assumption) | exact hxN_end (by omega)
     have hjj : hxN (l.drop q) = j := by omega
     exact ⟨by unfold tiedN; rw [hq, hjj, hb24, if_neg (by rw [Bool.and_false]; decide)]; rfl, M.bel⟩
   ·
    have hb23' := of_decide_eq_false hb23
    refine sdc A qx hb23 λa A↦?_
    refine sdm A λa A↦?_
    iterate 4 refine qg A rfl rfl rfl λa A↦?_
    refine sdk (v := bV false) A λa A↦?_
    refine qa (hK22 _ _ (cf A ?_))
    refine wp_skip (hK21 _ _ (wsk fun K31 hK31 => wrl (sdm A λa A↦?_)))
    refine sda A λa A↦?_
    refine qa (hK31 _ _ (wr1 hret A ?_))
    have hz : hxN (l.drop (q + j)) = 0 := by first | exact hxN_not (by assumption) (by assumption) | exact hxN_end (by omega)
    have hjj : hxN (l.drop q) = j := by omega
    exact ⟨by unfold tiedN; rw [hq, hjj, if_neg (by rw [decide_eq_false (by omega), Bool.false_and]; decide)]; rfl, M.bel⟩
 ·
  have hb12' := of_decide_eq_false hb12
  refine sdc A qw hb12 λa A↦?_
  refine sdm A λa A↦?_
  iterate 6 refine qg A rfl rfl rfl λa A↦?_
  refine sdk (v := bV false) A λa A↦?_
  refine qa (hK11 _ _ (cf A ?_))
  refine wp_exit (hK6 _ _ (wsk fun K32 hK32 => wrl ?_))
  iterate 2 refine sdm A λa A↦?_
  refine sdo (v := iV (((q + j : Nat) : Int))) A (qb rfl rfl (ar_add ((in_i64 (by omega) (by omega)).trans (by omega)))) λa A↦?_
  refine sda A λa A↦?_
  refine qa (hK32 _ _ (wsk fun K33 hK33 => wsk fun K34 hK34 => wrl (sdm A λa A↦?_)))
  rcases tf (decide (0 < ((j : Nat) : Int))) with hb35 | hb35
  ·
   have hb35' := of_decide_eq_true hb35
   refine sdc A qx hb35 λa A↦?_
   iterate 3 refine sdm A λa A↦?_
   refine sdo (v := .string ((tx (l.drop (q + j))))) A (qs (s := l) (p := q + j) Tryz.underlying9 rfl rfl rfl (by omega)) λa A↦?_
   rcases tf (Lib.hasPrefix (l.drop (q + j)) [59]) with hb36 | hb36
   ·
    refine gcl A M (ef rfl rfl) ((hp_as hb36)) fun w38 hb37 M a A => ?_
    refine sdk (v := bV true) A λa A↦?_
    refine qa (hK34 _ _ (ct A ?_))
    refine wrl (sdm A λa A↦?_)
    refine sdo (v := iV (((q + j + 1 : Nat) : Int))) A (qb rfl rfl (ar_add ((in_i64 (by omega) (by omega)).trans (by omega)))) λa A↦?_
    refine sda A λa A↦?_
    refine qa (hK33 _ _ (wsk fun K39 hK39 => wrl (sdm A λa A↦?_)))
    refine sda A λa A↦?_
    refine qa (hK39 _ _ (wr1 hret A ?_))
    have hz : hxN (l.drop (q + j)) = 0 := by first | exact hxN_not (by assumption) (by assumption) | exact hxN_end (by omega)
    have hjj : hxN (l.drop q) = j := by omega
    exact ⟨by unfold tiedN; rw [hq, hjj, hb36, if_pos (by rw [decide_eq_true (by omega)]; rfl)], M.bel⟩
   ·
    refine gcl A M (ef rfl rfl) ((hp_as hb36)) fun w41 hb40 M a A => ?_
    refine sdk (v := bV false) A λa A↦?_
    refine qa (hK34 _ _ (cf A ?_))
    refine wp_skip (hK33 _ _ (wsk fun K42 hK42 => wrl (sdm A λa A↦?_)))
    refine sda A λa A↦?_
    refine qa (hK42 _ _ (wr1 hret A ?_))
    have hz : hxN (l.drop (q + j)) = 0 := by first | exact hxN_not (by assumption) (by assumption) | exact hxN_end (by omega)
    have hjj : hxN (l.drop q) = j := by omega
    exact ⟨by unfold tiedN; rw [hq, hjj, hb36, if_neg (by rw [Bool.and_false]; decide)]; rfl, M.bel⟩
  ·
   have hb35' := of_decide_eq_false hb35
   refine sdc A qx hb35 λa A↦?_
   refine sdm A λa A↦?_
   iterate 4 refine qg A rfl rfl rfl λa A↦?_
   refine sdk (v := bV false) A λa A↦?_
   refine qa (hK34 _ _ (cf A ?_))
   refine wp_skip (hK33 _ _ (wsk fun K43 hK43 => wrl (sdm A λa A↦?_)))
   refine sda A λa A↦?_
   refine qa (hK43 _ _ (wr1 hret A ?_))
   have hz : hxN (l.drop (q + j)) = 0 := by first | exact hxN_not (by assumption) (by assumption) | exact hxN_end (by omega)
   have hjj : hxN (l.drop q) = j := by omega
   exact ⟨by unfold tiedN; rw [hq, hjj, if_neg (by rw [decide_eq_false (by omega), Bool.false_and]; decide)]; rfl, M.bel⟩
end Go.Proofs.YtclkfideaameoaaGreatDoor.G
 ((delim_as (okR_dc _) hb15)) fun w17 hb16 M a A => ?_
   refine qa (hK14 _ _ (ct A ?_))
   refine wp_exit (hK3 _ _ (wsk fun K18 hK18 => wrl ?_))
   iterate 2 refine sdm A λa A↦?_
   refine sdo (v := .string ((tx (l.take n)))) A (zt (s := l) (p := n) Tryz.underlying9 rfl rfl rfl (by omega)) λa A↦?_
   refine sda A λa A↦?_
   refine qa (hK18 _ _ (wr1 hret A ?_))
   exact ⟨by rw [hn, show tokN (f + 1) (l.drop n) = 0 from tok_stop hb15, Nat.add_zero], M.bel⟩
  ·
   refine gcl A M (ef rfl rfl) ((delim_as (okR_dc _) hb15)) fun w20 hb19 M a A => ?_
   refine qa (hK14 _ _ (cf A ?_))
   refine wp_skip (hK13 _ _ (wsk fun K21 hK21 => wrl ?_))
   iterate 2 refine sdm A λa A↦?_
   refine sdo (v := iV (((n + (dcX (l.drop n)).2 : Nat) : Int))) A (qb rfl rfl (ar_add ((in_i64 (by omega) (by omega)).trans (by omega)))) λa A↦?_
   refine sda A λa A↦?_
   refine qa (hK21 _ _ (wsk fun K22 hK22 => wrl (sdm A λa A↦?_)))
   rcases tf (((((dcX (l.drop n)).1 : Nat) : Int) == 92)) with hb23 | hb23
   ·
    have hb23' := eq_of_beq hb23
    refine sdc A zf hb23 λa A↦?_
    refine qa (hK22 _ _ (ct A ?_))
    refine wrl ?_
    iterate 3 refine sdm A λa A↦?_
    refine sdo (v := .string ((tx (l.drop (n + (dcX (l.drop n)).2))))) A (qs (s := l) (p := n + (dcX (l.drop n)).2) Tryz.underlying9 rfl rfl rfl (by omega)) λa A↦?_
    have ht25 := tiedN_le (l.drop (n + (dcX (l.drop n)).2))
    rw [List.length_drop] at ht25
    refine gcl A M (ef rfl rfl) (jc (l := l.drop (n + (dcX (l.drop n)).2)) (hT.below M.bel) (by rw [List.length_drop]; omega)) fun w26 hb24 M a A => ?_
    refine sdo (v := iV (((n + (dcX (l.drop n)).2 + tiedN (l.drop (n + (dcX (l.drop n)).2)) : Nat) : Int))) A (qb rfl rfl (ar_add ((in_i64 (by omega) (by omega)).trans (by omega)))) λa A↦?_
    refine sda A λa A↦?_
    refine qa ?_
    have e7 := tok_go (f := f) hne hb15 (if_pos (eq_of_beq hb23))
    simp only [List.drop_drop] at e7
    refine hK5 _ _ _ (by omega) ⟨n + (dcX (l.drop n)).2 + tiedN (l.drop (n + (dcX (l.drop n)).2)), f, rfl, ⟨by omega, by omega, by rw [hn, e7, Nat.add_assoc n (dcX (l.drop n)).2 _]; exact (Nat.add_assoc _ _ _).symm⟩, A.keep _ ⟨rfl, rfl, rfl, trivial⟩, M⟩
   ·
    have hb23' := ne_of_beq_false hb23
    refine sdc A zf hb23 λa A↦?_
    refine qa (hK22 _ _ (cf A ?_))
    refine wp_skip ?_
    refine hK5 _ _ _ (by omega) ⟨n + (dcX (l.drop n)).2, f, rfl, ⟨by omega, by omega, by rw [hn, tok_go hne hb15 (if_neg (ne_of_beq_false hb23)), List.drop_drop, Nat.add_assoc]⟩, A.keep _ ⟨rfl, rfl, rfl, trivial⟩, M⟩
 ·
  have hb9' := of_decide_eq_false hb9
  refine sdc A qw hb9 λa A↦?_
  refine qa (hK8 _ _ (cf A ?_))
  refine wp_exit (hK3 _ _ (wsk fun K27 hK27 => wrl ?_))
  iterate 2 refine sdm A λa A↦?_
  refine sdo (v := .string ((tx (l.take n)))) A (zt (s := l) (p := n) Tryz.underlying9 rfl rfl rfl (by omega)) λa A↦?_
  refine sda A λa A↦?_
  refine qa (hK27 _ _ (wr1 hret A ?_))
  exact ⟨by rw [hn, show tokN (f + 1) (l.drop n) = 0 from (by rw [List.drop_eq_nil_of_le (by omega)]; exact tok_end _), Nat.add_zero], M.bel⟩
end Go.Proofs.YtclkfideaameoaaGreatDoor.G
neg (of_decide_eq_false hb5), if_neg (of_decide_eq_false hb8), if_pos (of_decide_eq_true hb11)]; rfl, M.bel⟩
   ·
    have hb11' := of_decide_eq_false hb11
    refine sdo (v := bV false) A (qb rfl rfl (fun w => (qe (a := l) (b := [98, 97, 99, 107, 115, 112, 97, 99, 101]) Tryz.underlying9 w).trans (by rw [hb11] <;> rfl))) λa A↦?_
    refine sda A λa A↦?_
    refine qa (hK10 _ _ (cf A ?_))
    refine wsk fun K13 hK13 => wrl ?_
    rcases tf (decide (l = [116, 97, 98])) with hb14 | hb14
    ·
     have hb14' := of_decide_eq_true hb14
     refine sdo (v := bV true) A (qb rfl rfl (fun w => (qe (a := l) (b := [116, 97, 98]) Tryz.underlying9 w).trans (by rw [hb14] <;> rfl))) λa A↦?_
     refine sda A λa A↦?_
     refine qa (hK13 _ _ (ct A ?_))
     refine wsk fun K15 hK15 => wrl ?_
     iterate 2 refine sda A λa A↦?_
     refine qa (hK15 _ _ (wp_ret (hret _ _ (en2 A rfl (qf rfl) (qf rfl) ?_))))
     exact ⟨by unfold nmdX; rw [if_neg (of_decide_eq_false hb5), if_neg (of_decide_eq_false hb8), if_neg (of_decide_eq_false hb11), if_pos (of_decide_eq_true hb14)]; rfl, M.bel⟩
    ·
     have hb14' := of_decide_eq_false hb14
     refine sdo (v := bV false) A (qb rfl rfl (fun w => (qe (a := l) (b := [116, 97, 98]) Tryz.underlying9 w).trans (by rw [hb14] <;> rfl))) λa A↦?_
     refine sda A λa A↦?_
     refine qa (hK13 _ _ (cf A ?_))
     refine wsk fun K16 hK16 => wsk fun K17 hK17 => wrl ?_
     rcases tf (decide (l = [108, 105, 110, 101, 102, 101, 101, 100])) with hb18 | hb18
     ·
      have hb18' := of_decide_eq_true hb18
      refine sdo (v := bV true) A (qb rfl rfl (fun w => (qe (a := l) (b := [108, 105, 110, 101, 102, 101, 101, 100]) Tryz.underlying9 w).trans (by rw [hb18] <;> rfl))) λa A↦?_
      refine sda A λa A↦?_
      refine qa (hK17 _ _ (ct A ?_))
      refine wp_skip (hK16 _ _ (ct A ?_))
      refine wsk fun K19 hK19 => wrl ?_
      iterate 2 refine sda A λa A↦?_
      refine qa (hK19 _ _ (wp_ret (hret _ _ (en2 A rfl (qf rfl) (qf rfl) ?_))))
      exact ⟨by unfold nmdX; rw [if_neg (of_decide_eq_false hb5), if_neg (of_decide_eq_false hb8), if_neg (of_decide_eq_false hb11), if_neg (of_decide_eq_false hb14), if_pos (of_decide_eq_true hb18)]; rfl, M.bel⟩
     ·
      have hb18' := of_decide_eq_false hb18
      refine sdo (v := bV false) A (qb rfl rfl (fun w => (qe (a := l) (b := [108, 105, 110, 101, 102, 101, 101, 100]) Tryz.underlying9 w).trans (by rw [hb18] <;> rfl))) λa A↦?_
      refine sda A λa A↦?_
      refine qa (hK17 _ _ (cf A ?_))
      refine wrl ?_
      rcases tf (decide (l = [110, 101, 119, 108, 105, 110, 101])) with hb20 | hb20
      ·
       have hb20' := of_decide_eq_true hb20
       refine sdo (v := bV true) A (qb rfl rfl (fun w => (qe (a := l) (b := [110, 101, 119, 108, 105, 110, 101]) Tryz.underlying9 w).trans (by rw [hb20] <;> rfl))) λa A↦?_
       refine sda A λa A↦?_
       refine qa (hK16 _ _ (ct A ?_))
       refine wsk fun K21 hK21 => wrl ?_
       iterate 2 refine sda A λa A↦?_
       refine qa (hK21 _ _ (wp_ret (hret _ _ (en2 A rfl (qf rfl) (qf rfl) ?_))))
       exact ⟨by unfold nmdX; rw [if_neg (of_decide_eq_false hb5), if_neg (of_decide_eq_false hb8), if_neg (of_decide_eq_false hb11), if_neg (of_decide_eq_false hb14), if_neg (of_decide_eq_false hb18), if_pos (of_decide_eq_true hb20)]; rfl, M.bel⟩
      ·
       have hb20' := of_decide_eq_false hb20
       refine sdo (v := bV false) A (qb rfl rfl (fun w => (qe (a := l) (b := [110, 101, 119, 108, 105, 110, 101]) Tryz.underlying9 w).trans (by rw [hb20] <;> rfl))) λa A↦?_
       refine sda A λa A↦?_
       refine qa (hK16 _ _ (cf A ?_))
       refine wsk fun K22 hK22 => wrl ?_
       rcases tf (decide (l = [118, 116, 97, 98])) with hb23 | hb23
       ·
        have hb23' := of_decide_eq_true hb23
        refine sdo (v := bV true) A (qb rfl rfl (fun w => (qe (a := l) (b := [118, 116, 97, 98]) Tryz.underlying9 w).trans (by rw [hb23] <;> rfl))) λa A↦?_
        refine sda A λa A↦?_
        refine qa (hK22 _ _ (ct A ?_))
        refine wsk fun K24 hK24 => wrl ?_
        iterate 2 refine sda A λa A↦?_
        refine qa (hK24 _ _ (wp_ret (hret _ _ (en2 A rfl (qf rfl) (qf rfl) ?_))))
        exact ⟨by unfold nmdX; rw [if_neg (of_decide_eq_false hb5), if_neg (of_decide_eq_false hb8), if_neg (of_decide_eq_false hb11), if_neg (of_decide_eq_false hb14), if_neg (of_decide_eq_false hb18), if_neg (of_decide_eq_false hb20), if_pos (of_decide_eq_true hb23)]; rfl, M.bel⟩
       ·
        have hb23' := of_decide_eq_false hb23
        refine sdo (v := bV false) A (qb rfl rfl (fun w => (qe (a := l) (b := [118, 116, 97, 98]) Tryz.underlying9 w).trans (by rw [hb23] <;> rfl))) λa A↦?_
        refine sda A λa A↦?_
        refine qa (hK22 _ _ (cf A ?_))
        refine wsk fun K25 hK25 => wrl ?_
        rcases tf (decide (l = [112, 97, 103, 101])) with hb26 | hb26
        ·
         have hb26' := of_decide_eq_true hb26
         refine sdo (v := bV true) A (qb rfl rfl (fun w => (qe (a := l) (b := [112, 97, 103, 101]) Tryz.underlying9 w).trans (by rw [hb26] <;> rfl))) λa A↦?_
         refine sda A λa A↦?_
         refine qa (hK25 _ _ (ct A ?_))
         refine wsk fun K27 hK27 => wrl ?_
         iterate 2 refine sda A λa A↦?_
         refine qa (hK27 _ _ (wp_ret (hret _ _ (en2 A rfl (qf rfl) (qf rfl) ?_))))
         exact ⟨by unfold nmdX; rw [if_neg (of_decide_eq_false hb5), if_neg (of_decide_eq_false hb8), if_neg (of_decide_eq_false hb11), if_neg (of_decide_eq_false hb14), if_neg (of_decide_eq_false hb18), if_neg (of_decide_eq_false hb20), if_neg (of_decide_eq_false hb23), if_pos (of_decide_eq_true hb26)]; rfl, M.bel⟩
        ·
         have hb26' := of_decide_eq_false hb26
         refine sdo (v := bV false) A (qb rfl rfl (fun w => (qe (a := l) (b := [112, 97, 103, 101]) Tryz.underlying9 w).trans (by rw [hb26] <;> rfl))) λa A↦?_
         refine sda A λa A↦?_
         refine qa (hK25 _ _ (cf A ?_))
         refine wsk fun K28 hK28 => wrl ?_
         rcases tf (decide (l = [114, 101, 116, 117, 114, 110])) with hb29 | hb29
         ·
          have hb29' := of_decide_eq_true hb29
          refine sdo (v := bV true) A (qb rfl rfl (fun w => (qe (a := l) (b := [114, 101, 116, 117, 114, 110]) Tryz.underlying9 w).trans (by rw [hb29] <;> rfl))) λa A↦?_
          refine sda A λa A↦?_
          refine qa (hK28 _ _ (ct A ?_))
          refine wsk fun K30 hK30 => wrl ?_
          iterate 2 refine sda A λa A↦?_
          refine qa (hK30 _ _ (wp_ret (hret _ _ (en2 A rfl (qf rfl) (qf rfl) ?_))))
          exact ⟨by unfold nmdX; rw [if_neg (of_decide_eq_false hb5), if_neg (of_decide_eq_false hb8), if_neg (of_decide_eq_false hb11), if_neg (of_decide_eq_false hb14), if_neg (of_decide_eq_false hb18), if_neg (of_decide_eq_false hb20), if_neg (of_decide_eq_false hb23), if_neg (of_decide_eq_false hb26), if_pos (of_decide_eq_true hb29)]; rfl, M.bel⟩
         ·
          have hb29' := of_decide_eq_false hb29
          refine sdo (v := bV false) A (qb rfl rfl (fun w => (qe (a := l) (b := [114, 101, 116, 117, 114, 110]) Tryz.underlying9 w).trans (by rw [hb29] <;> rfl))) λa A↦?_
          refine sda A λa A↦?_
          refine qa (hK28 _ _ (cf A ?_))
          refine wsk fun K31 hK31 => wrl ?_
          rcases tf (decide (l = [101, 115, 99])) with hb32 | hb32
          ·
           have hb32' := of_decide_eq_true hb32
           refine sdo (v := bV true) A (qb rfl rfl (fun w => (qe (a := l) (b := [101, 115, 99]) Tryz.underlying9 w).trans (by rw [hb32] <;> rfl))) λa A↦?_
           refine sda A λa A↦?_
           refine qa (hK31 _ _ (ct A ?_))
           refine wsk fun K33 hK33 => wrl ?_
           iterate 2 refine sda A λa A↦?_
           refine qa (hK33 _ _ (wp_ret (hret _ _ (en2 A rfl (qf rfl) (qf rfl) ?_))))
           exact ⟨by unfold nmdX; rw [if_neg (of_decide_eq_false hb5), if_neg (of_decide_eq_false hb8), if_neg (of_decide_eq_false hb11), if_neg (of_decide_eq_false hb14), if_neg (of_decide_eq_false hb18), if_neg (of_decide_eq_false hb20), if_neg (of_decide_eq_false hb23), if_neg (of_decide_eq_false hb26), if_neg (of_decide_eq_false hb29), if_pos (of_decide_eq_true hb32)]; rfl, M.bel⟩
          ·
           have hb32' := of_decide_eq_false hb32
           refine sdo (v := bV false) A (qb rfl rfl (fun w => (qe (a := l) (b := [101, 115, 99]) Tryz.underlying9 w).trans (by rw [hb32] <;> rfl))) λa A↦?_
           refine sda A λa A↦?_
           refine qa (hK31 _ _ (cf A ?_))
           refine wsk fun K34 hK34 => wrl ?_
           rcases tf (decide (l = [115, 112, 97, 99, 101])) with hb35 | hb35
           ·
            have hb35' := of_decide_eq_true hb35
            refine sdo (v := bV true) A (qb rfl rfl (fun w => (qe (a := l) (b := [115, 112, 97, 99, 101]) Tryz.underlying9 w).trans (by rw [hb35] <;> rfl))) λa A↦?_
            refine sda A λa A↦?_
            refine qa (hK34 _ _ (ct A ?_))
            refine wsk fun K36 hK36 => wrl ?_
            iterate 2 refine sda A λa A↦?_
            refine qa (hK36 _ _ (wp_ret (hret _ _ (en2 A rfl (qf rfl) (qf rfl) ?_))))
            exact ⟨by unfold nmdX; rw [if_neg (of_decide_eq_false hb5), if_neg (of_decide_eq_false hb8), if_neg (of_decide_eq_false hb11), if_neg (of_decide_eq_false hb14), if_neg (of_decide_eq_false hb18), if_neg (of_decide_eq_false hb20), if_neg (of_decide_eq_false hb23), if_neg (of_decide_eq_false hb26), if_neg (of_decide_eq_false hb29), if_neg (of_decide_eq_false hb32), if_pos (of_decide_eq_true hb35)]; rfl, M.bel⟩
           ·
            have hb35' := of_decide_eq_false hb35
            refine sdo (v := bV false) A (qb rfl rfl (fun w => (qe (a := l) (b := [115, 112, 97, 99, 101]) Tryz.underlying9 w).trans (by rw [hb35] <;> rfl))) λa A↦?_
            refine sda A λa A↦?_
            refine qa (hK34 _ _ (cf A ?_))
            refine wsk fun K37 hK37 => wrl ?_
            rcases tf (decide (l = [100, 101, 108, 101, 116, 101])) with hb38 | hb38
            ·
             have hb38' := of_decide_eq_true hb38
             refine sdo (v := bV true) A (qb rfl rfl (fun w => (qe (a := l) (b := [100, 101, 108, 101, 116, 101]) Tryz.underlying9 w).trans (by rw [hb38] <;> rfl))) λa A↦?_
             refine sda A λa A↦?_
             refine qa (hK37 _ _ (ct A ?_))
             refine wsk fun K39 hK39 => wrl ?_
             iterate 2 refine sda A λa A↦?_
             refine qa (hK39 _ _ (wp_ret (hret _ _ (en2 A rfl (qf rfl) (qf rfl) ?_))))
             exact ⟨by unfold nmdX; rw [if_neg (of_decide_eq_false hb5), if_neg (of_decide_eq_false hb8), if_neg (of_decide_eq_false hb11), if_neg (of_decide_eq_false hb14), if_neg (of_decide_eq_false hb18), if_neg (of_decide_eq_false hb20), if_neg (of_decide_eq_false hb23), if_neg (of_decide_eq_false hb26), if_neg (of_decide_eq_false hb29), if_neg (of_decide_eq_false hb32), if_neg (of_decide_eq_false hb35), if_pos (of_decide_eq_true hb38)]; rfl, M.bel⟩
            ·
             have hb38' := of_decide_eq_false hb38
             refine sdo (v := bV false) A (qb rfl rfl (fun w => (qe (a := l) (b := [100, 101, 108, 101, 116, 101]) Tryz.underlying9 w).trans (by rw [hb38] <;> rfl))) λa A↦?_
             refine sda A λa A↦?_
             refine qa (hK37 _ _ (cf A ?_))
             refine wp_skip (hK2 _ _ (wsk fun K40 hK40 => wrl ?_))
             iterate 2 refine sda A λa A↦?_
             refine qa (hK40 _ _ (wp_ret (hret _ _ (en2 A rfl (qf rfl) (qf rfl) ?_))))
             exact ⟨by unfold nmdX; rw [if_neg (of_decide_eq_false hb5), if_neg (of_decide_eq_false hb8), if_neg (of_decide_eq_false hb11), if_neg (of_decide_eq_false hb14), if_neg (of_decide_eq_false hb18), if_neg (of_decide_eq_false hb20), if_neg (of_decide_eq_false hb23), if_neg (of_decide_eq_false hb26), if_neg (of_decide_eq_false hb29), if_neg (of_decide_eq_false hb32), if_neg (of_decide_eq_false hb35), if_neg (of_decide_eq_false hb38)]; rfl, M.bel⟩
theorem js {w0 w : World} {g p : Nat} {lg : Bool} {L : List UInt8} {T : List Ck} (hT : Tb w0) (hp : p ≤ L.length) (hl : L.length ≤ 1000000000) (hd0 : dotB (L.drop p) = true) (hM0 : Mg w0 w (.obj g (rC L p lg) :: T)) : Calls Tryz.prog 55 #[pA g 0] w fun e w' => e = .returned (bV true) ∧ Mg w0 w' (.obj g (rC L (p + 1) lg) :: T) := by
 have hd : decide ((L.drop p).take (tokN ((L.drop p).length + 1) (L.drop p)) = [46]) = true := hd0
 have hpf := dot_pre (of_decide_eq_true hd)
 have M : Mg w0 w (.obj g (rC L p lg) :: T) := hM0
 refine qr (l := [(0, pA g 0)]) Tryz.func55 rfl Tryz.ntmps55 rfl rfl ?_
 intro Q hret hnorm hP a A
 refine wsk fun K1 hK1 => wrl (sda A λa A↦?_)
 refine qa (hK1 _ _ (wsk fun K2 hK2 => wrl (sdm A λa A↦?_)))
 refine sct A (ef rfl rfl) (qz (p := p) (L := L) (T := (T)) (by omega) M) ?_
 rintro _ w4 ⟨rfl, hM3⟩
 replace M : Mg w0 w4 (.obj g (rC L p lg) :: T) := hM3
 refine ⟨_, rfl, ?_⟩
 intro a A
 refine gcl A M (ef rfl rfl) (token_any (l := L.drop p) (hT.below M.bel) (by rw [List.length_drop]; omega)) fun w6 hb5 M a A => ?_
 refine sdo (v := bV true) A (qb rfl rfl (fun w => (qe (a := (L.drop p).take (tokN ((L.drop p).length + 1) (L.drop p))) (b := [46]) Tryz.underlying9 w).trans (by rw [hd] <;> rfl))) λa A↦?_
 iterate 2 refine sdm A λa A↦?_
 have htl9 : 1 ≤ (L.drop p).length := (List.isPrefixOf_iff_prefix.1 hpf).length_le
 rw [List.length_drop] at htl9
 refine sct A (ef rfl rfl) (take_y (p := p) (L := L) (T := (T)) (by omega) (by omega) hpf M) ?_
 rintro _ w10 ⟨rfl, hM8⟩
 replace M : Mg w0 w10 (.obj g (rC L (p + 1) lg) :: T) := hM8
 refine ⟨_, rfl, ?_⟩
 intro a A
 refine sdk (v := bV true) A λa A↦?_
 refine sda A λa A↦?_
 refine qa (hK2 _ _ (wr1 hret A ?_))
 exact ⟨rfl, M⟩
theorem jt {w0 w : World} {g p : Nat} {lg : Bool} {L : List UInt8} {T : List Ck} (hT : Tb w0) (hp : p ≤ L.length) (hl : L.length ≤ 1000000000) (hd0 : dotB (L.drop p) = false) (hM0 : Mg w0 w (.obj g (rC L p lg) :: T)) : Calls Tryz.prog 55 #[pA g 0] w fun e w' => e = .returned (bV false) ∧ Mg w0 w' (.obj g (rC L p lg) :: T) := by
 have hd : decide ((L.drop p).take (tokN ((L.drop p).length + 1) (L.drop p)) = [46]) = false := hd0
 
 have M : Mg w0 w (.obj g (rC L p lg) :: T) := hM0
 refine qr (l := [(0, pA g 0)]) Tryz.func55 rfl Tryz.ntmps55 rfl rfl ?_
 intro Q hret hnorm hP a A
 refine wsk fun K1 hK1 => wrl (sda A λa A↦?_)
 refine qa (hK1 _ _ (wsk fun K2 hK2 => wrl (sdm A λa A↦?_)))
 refine sct A (ef rfl rfl) (qz (p := p) (L := L) (T := (T)) (by omega) M) ?_
 rintro _ w4 ⟨rfl, hM3⟩
 replace M : Mg w0 w4 (.obj g (rC L p lg) :: T) := hM3
 refine ⟨_, rfl, ?_⟩
 intro a A
 refine gcl A M (ef rfl rfl) (token_any (l := L.drop p) (hT.below M.bel) (by rw [List.length_drop]; omega)) fun w6 hb5 M a A => ?_
 refine sdo (v := bV false) A (qb rfl rfl (fun w => (qe (a := (L.drop p).take (tokN ((L.drop p).length + 1) (L.drop p))) (b := [46]) Tryz.underlying9 w).trans (by rw [hd] <;> rfl))) λa A↦?_
 refine sdm A λa A↦?_
 iterate 2 refine qg A rfl rfl rfl λa A↦?_
 refine sdk (v := bV false) A λa A↦?_
 refine sda A λa A↦?_
 refine qa (hK2 _ _ (wr1 hret A ?_))
 exact ⟨rfl, M⟩
end Go.Proofs.YtclkfideaameoaaGreatDoor.G
:= by
 have M : Mg w w ([]) := Mg.start w
 refine qr (l := [(0, iV 5)]) Tryz.func106 rfl Tryz.ntmps106 rfl rfl ?_
 intro Q hret hnorm hP a A
 refine wsk fun K1 hK1 => wrl (sda A λa A↦?_)
 refine qa (hK1 _ _ (wsk fun K2 hK2 => wrl (sdm A λa A↦?_)))
 refine sdo (v := iV 21) A (qb rfl rfl (ar_add rfl)) λa A↦?_
 refine sdo (v := iV 2) A (qb rfl rfl (ar_quo (by decide) (by decide))) λa A↦?_
 refine sda A λa A↦?_
 refine qa (hK2 _ _ (wr1 hret A ?_))
 exact ⟨rfl, M.bel⟩
theorem jw {w : World} : Calls Tryz.prog 106 #[iV 6] w fun e w' => e = .returned (iV 2) ∧ Below w.heap.size w w' := by
 have M : Mg w w ([]) := Mg.start w
 refine qr (l := [(0, iV 6)]) Tryz.func106 rfl Tryz.ntmps106 rfl rfl ?_
 intro Q hret hnorm hP a A
 refine wsk fun K1 hK1 => wrl (sda A λa A↦?_)
 refine qa (hK1 _ _ (wsk fun K2 hK2 => wrl (sdm A λa A↦?_)))
 refine sdo (v := iV 22) A (qb rfl rfl (ar_add rfl)) λa A↦?_
 refine sdo (v := iV 2) A (qb rfl rfl (ar_quo (by decide) (by decide))) λa A↦?_
 refine sda A λa A↦?_
 refine qa (hK2 _ _ (wr1 hret A ?_))
 exact ⟨rfl, M.bel⟩
theorem jx {w : World} : Calls Tryz.prog 106 #[iV 7] w fun e w' => e = .returned (iV 2) ∧ Below w.heap.size w w' := by
 have M : Mg w w ([]) := Mg.start w
 refine qr (l := [(0, iV 7)]) Tryz.func106 rfl Tryz.ntmps106 rfl rfl ?_
 intro Q hret hnorm hP a A
 refine wsk fun K1 hK1 => wrl (sda A λa A↦?_)
 refine qa (hK1 _ _ (wsk fun K2 hK2 => wrl (sdm A λa A↦?_)))
 refine sdo (v := iV 23) A (qb rfl rfl (ar_add rfl)) λa A↦?_
 refine sdo (v := iV 2) A (qb rfl rfl (ar_quo (by decide) (by decide))) λa A↦?_
 refine sda A λa A↦?_
 refine qa (hK2 _ _ (wr1 hret A ?_))
 exact ⟨rfl, M.bel⟩
def s7 : List UInt8 := [10, 13, 194, 133, 226, 128, 168]
theorem zk : s7.length = 7 := rfl
theorem jy {i k : Nat} (h1 : i < k) (h2 : k < 7) : s7.getD i 0 ≠ s7.getD k 0 := by
 have h : ∀ i k : Fin 7, i < k → s7.getD i 0 ≠ s7.getD k 0 := by decide
 exact h ⟨i, by omega⟩ ⟨k, h2⟩ h1
theorem zi {l : List UInt8} {i : Nat} (h : i < l.length) : l[i]? = some (l.getD i 0) := by
 rw [List.getD_eq_getElem?_getD, List.getElem?_eq_getElem h]; rfl
theorem zl {a b : UInt8} (h : ((a.toNat : Nat) : Int) = ((b.toNat : Nat) : Int)) : a = b := UInt8.toNat_inj.1 (by omega)
def atS (B : List UInt8) (k : Nat) : Prop := B.length - 1 ≤ k ∧ k < 7 ∧ ∀ t, t < B.length → s7.getD (k - t) 0 = B.getD (B.length - 1 - t) 0
theorem jz {B : List UInt8} {i : Nat} (hB : 2 ≤ B.length) (h : Lib.indexByte (s7.drop (i + 1)) (B.getD (B.length - 1) 0) = -1) (hn : s7.getD i 0 ≠ B.getD (B.length - 1) 0) (hlt : ∀ k, k < i → ¬ atS B k) : ∀ k, ¬ atS B k := fun k hk => by
 have h0 : s7.getD k 0 = B.getD (B.length - 1) 0 := hk.2.2 0 (by omega)
 have hk7 := hk.2.1
 by_cases h1 : k < i
 ·
  exact hlt k h1 hk
 by_cases h2 : k = i
 ·
  subst h2; exact hn h0
 refine Lib.indexByte_none h (k - (i + 1)) ?_
 rw [List.getElem?_drop, show i + 1 + (k - (i + 1)) = k by omega, zi (by rw [zk]; exact hk7), h0]
theorem jd {B : List UInt8} {i o : Nat} (hB : 2 ≤ B.length) (h : Lib.indexByte (s7.drop (i + 1)) (B.getD (B.length - 1) 0) = ((o : Nat) : Int)) (hn : s7.getD i 0 ≠ B.getD (B.length - 1) 0) (hlt : ∀ k, k < i → ¬ atS B k) : i + o + 1 < 7 ∧ s7.getD (i + o + 1) 0 = B.getD (B.length - 1) 0 ∧ ∀ k, k < i + o + 1 → ¬ atS B k := by
 obtain ⟨h1, h2⟩ := Lib.indexByte_some h
 rw [List.getElem?_drop, show i + 1 + o = i + o + 1 by omega] at h1
 obtain ⟨h3, h4⟩ := List.getElem?_eq_some_iff.1 h1
 rw [zk] at h3
 have h5 := h1
 rw [zi (by rw [zk]; exact h3)] at h5
 refine ⟨h3, Option.some.inj h5, fun k hk hs => ?_⟩
 have h0 : s7.getD k 0 = B.getD (B.length - 1) 0 := hs.2.2 0 (by omega)
 by_cases h6 : k < i
 ·
  exact hlt k h6 hs
 by_cases h7 : k = i
 ·
  subst h7; exact hn h0
 refine h2 (k - (i + 1)) (by omega) ?_
 rw [List.getElem?_drop, show i + 1 + (k - (i + 1)) = k by omega, zi (by rw [zk]; omega), h0]
theorem jj {w : World} {i : Nat} (h1 : 1 ≤ i) (h : i ≤ 7) : Calls Tryz.prog 106 #[iV ((i : Nat) : Int)] w fun e w' => e = .returned (iV 2) ∧ Below w.heap.size w w' := by
 match i, h1, h with
 | 1, _, _ => exact cut_1
 | 2, _, _ => exact cut_2
 | 3, _, _ => exact cut_3
 | 4, _, _ => exact cut_4
 | 5, _, _ => exact cut_5
 | 6, _, _ => exact jw
 | 7, _, _ => exact jx
theorem jk {w : World} {r : Int} {B : List UInt8} (h2 : 2 ≤ B.length) (h4 : B.length ≤ 4) (h0 : 128 ≤ r) (hne : r ≠ 65533) (hv : Lib.validRune r = true) (henc : Utf8.encode r = tx B) : Calls Tryz.prog 71 #[.string (tx s7), .int .i32 r] w fun e w' => ∃ v : Int, e = .returned (iV v) ∧ (0 ≤ v ∧ (∃ k, atS B k) ∨ v < 0 ∧ ∀ k, ¬ atS B k) ∧ Below w.heap.size w w' := by
 have hs7 := zk
 have M : Mg w w ([]) := Mg.start w
 refine qr (l := [(0, .string ((tx s7))), (1, .int .i32 r)]) Tryz.func71 rfl Tryz.ntmps71 rfl rfl ?_
 intro Q hret hnorm hP a A
 refine wsk fun K1 hK1 => wrl (sda A λa A↦?_)
 refine qa (hK1 _ _ (wp_block (wsk fun K2 hK2 => wrl (sdm A λa A↦?_))))
 refine sdo (v := bV true) A (qb rfl rfl (fun w => (ql w).trans (by rw [show (decide (0 ≤ r)) = true from (decide_eq_true (by omega))]))) λa A↦?_
 iterate 2 refine sdm A λa A↦?_
 refine sdo (v := bV false) A (qb rfl rfl (fun w => (qw w).trans (by rw [show (decide (r < 128)) = false from (decide_eq_false (by omega))]))) λa A↦?_
 refine sdk (v := bV false) A λa A↦?_
 refine sda A λa A↦?_
 refine qa (hK2 _ _ (cf A ?_))
 refine wsk fun K3 hK3 => wrl (sdm A λa A↦?_)
 refine sdo (v := bV false) A (qb rfl rfl (fun w => (zf w).trans (by rw [show ((r == 65533)) = false from (beq_eq_false_iff_ne.2 (by omega))]))) λa A↦?_
 refine sda A λa A↦?_
 refine qa (hK3 _ _ (cf A ?_))
 refine wsk fun K4 hK4 => wrl (sdm A λa A↦?_)
 refine gcl A M (ef rfl rfl) (vr_as hv) fun w6 hb5 M a A => ?_
 refine sdo (v := bV false) A (zn rfl zs) λa A↦?_
 refine sda A λa A↦?_
 refine qa (hK4 _ _ (cf A ?_))
 refine zp 1 rfl ?_
 refine wsk fun K7 hK7 => wrl (sdm A λa A↦?_)
 refine sdo (v := .string ((tx B))) A (jh rfl (fun w => (run_convert_int_string w _ _ .i32 r (by kernel_rfl) Tryz.underlying9).trans (by rw [henc]))) λa A↦?_
 refine sda A λa A↦?_
 refine qa (hK7 _ _ (wsk fun K8 hK8 => wrl (sdm A λa A↦?_)))
 refine sdo (v := iV (((B.length : Nat) : Int))) A (zh (s := B) Tryz.underlying9 rfl) λa A↦?_
 refine sdo (v := iV (((B.length - 1 : Nat) : Int))) A (qb rfl rfl (ar_sub ((in_i64 (by omega) (by omega)).trans (by omega)))) λa A↦?_
 refine sda A λa A↦?_
 refine qa (hK8 _ _ (wsk fun K9 hK9 => wrl (sdm A λa A↦?_)))
 refine sda A λa A↦?_
 refine qa (hK9 _ _ (wsk fun K10 hK10 => wrl (sda A λa A↦?_)))
 refine qa (hK10 _ _ (wsk fun K11 hK11 => wp_block (zm (fun m_ a w1 => ∃ (i : Nat) (f : Nat), m_ = 8 - i ∧ (B.length - 1 ≤ i ∧ i ≤ 7 ∧ (∀ k, k < i → ¬ atS B k) ∧ (f = 0 ∨ f = 1 ∧ ∀ k, i ≤ k → k < 7 → s7.getD k 0 ≠ B.getD (B.length - 1) 0)) ∧ Sl a 187 [(0, .string ((tx s7))), (1, .int .i32 r), (7, .string ((tx B))), (8, iV (((B.length - 1 : Nat) : Int))), (9, iV (((i : Nat) : Int))), (10, iV (((f : Nat) : Int))), (17, .int .i32 r), (18, .string ((tx B))), (19, .string ((tx B))), (20, iV (((B.length : Nat) : Int))), (21, iV (((B.length - 1 : Nat) : Int))), (22, iV (((B.length - 1 : Nat) : Int))), (160, bV false), (161, .int .i32 r), (162, bV true), (163, bV true), (164, .int .i32 r), (165, bV false), (166, bV false), (171, bV false), (172, .int .i32 r), (173, bV false), (183, bV false), (184, .int .i32 r), (185, bV true), (186, bV false)] ∧ Mg w w1 ([])) _ ⟨B.length - 1, 0, rfl, ⟨Nat.le_refl _, by omega, fun k hk hs => absurd hs.1 (by omega), .inl rfl⟩, A.keep _ (by repeat' constructor), M⟩ ?_)))
 clear M A
 rintro m_ a w12 ⟨i, f, rfl, hinv14, A, M⟩ K13 hK13
 obtain ⟨hi1, hi2, hi3, hi4⟩ := hinv14
 refine wsk fun K15 hK15 => wsk fun K16 hK16 => wrl ?_
 iterate 2 refine sdm A λa A↦?_
 refine sdo (v := iV (((s7.length : Nat) : Int))) A (zh (s := s7) Tryz.underlying9 rfl) λa A↦?_
 rcases tf (decide (((i : Nat) : Int) < ((s7.length : Nat) : Int))) with hb17 | hb17
 ·
  have hb17' := of_decide_eq_true hb17
  refine sdc A qw hb17 λa A↦?_
  refine qa (hK16 _ _ (ct A ?_))
  refine wp_skip (hK15 _ _ (wp_block (zp 0 rfl ?_)))
  refine wsk fun K18 hK18 => ?_
  have hJ19 : ∀ a w1, (∃ (q : Nat), (B.length - 1 ≤ q ∧ i ≤ q ∧ q < 7 ∧ s7.getD q 0 = B.getD (B.length - 1) 0 ∧ (∀ k, k < q → ¬ atS B k) ∧ f = 0) ∧ Sl a 187 [(0, .string ((tx s7))), (1, .int .i32 r), (7, .string ((tx B))), (8, iV (((B.length - 1 : Nat) : Int))), (9, iV (((q : Nat) : Int))), (10, iV (((f : Nat) : Int))), (17, .int .i32 r), (18, .string ((tx B))), (19, .string ((tx B))), (20, iV (((B.length : Nat) : Int))), (21, iV (((B.length - 1 : Nat) : Int))), (22, iV (((B.length - 1 : Nat) : Int))), (23, iV (((i : Nat) : Int))), (24, .string ((tx s7))), (25, iV (((s7.length : Nat) : Int))), (26, bV true), (160, bV false), (161, .int .i32 r), (162, bV true), (163, bV true), (164, .int .i32 r), (165, bV false), (166, bV false), (171, bV false), (172, .int .i32 r), (173, bV false), (183, bV false), (184, .int .i32 r), (185, bV true), (186, bV false)] ∧ Mg w w1 ([])) → K18 a w1 := by
   clear A M
   rintro a w20 ⟨q, hf21, A, M⟩
   obtain ⟨hq1, hqi, hq2, hq3, hq4, hf0⟩ := hf21
   refine hK18 _ _ (wsk fun K22 hK22 => wsk fun K23 hK23 => wrl (sda A λa A↦?_))
   refine qa (hK23 _ _ (wp_block (zm (fun m_ a w1 => ∃ (j : Nat), m_ = B.length - j ∧ (1 ≤ j ∧ j ≤ B.length ∧ ∀ t, t < j → s7.getD (q - t) 0 = B.getD (B.length - 1 - t) 0) ∧ Sl a 187 [(0, .string ((tx s7))), (1, .int .i32 r), (7, .string ((tx B))), (8, iV (((B.length - 1 : Nat) : Int))), (9, iV (((q : Nat) : Int))), (10, iV (((f : Nat) : Int))), (12, iV (((j : Nat) : Int))), (17, .int .i32 r), (18, .string ((tx B))), (19, .string ((tx B))), (20, iV (((B.length : Nat) : Int))), (21, iV (((B.length - 1 : Nat) : Int))), (22, iV (((B.length - 1 : Nat) : Int))), (23, iV (((i : Nat) : Int))), (24, .string ((tx s7))), (25, iV (((s7.length : Nat) : Int))), (26, bV true), (160, bV false), (161, .int .i32 r), (162, bV true), (163, bV true), (164, .int .i32 r), (165, bV false), (166, bV false), (171, bV false), (172, .int .i32 r), (173, bV false), (183, bV false), (184, .int .i32 r), (185, bV true), (186, bV false)] ∧ Mg w w1 ([])) _ ⟨1, rfl, ⟨Nat.le_refl _, by omega, fun t ht => by rw [show t = 0 by omega]; exact hq3⟩, A.keep _ (by repeat' constructor), M⟩ ?_)))
   clear M A
   rintro m_ a w24 ⟨j, rfl, hinv26, A, M⟩ K25 hK25
   obtain ⟨hj1, hj2, hj3⟩ := hinv26
   refine wsk fun K27 hK27 => wsk fun K28 hK28 => wrl ?_
   iterate 2 refine sdm A λa A↦?_
   refine sdo (v := iV (((B.length : Nat) : Int))) A (zh (s := B) Tryz.underlying9 rfl) λa A↦?_
   rcases tf (decide (((j : Nat) : Int) < ((B.length : Nat) : Int))) with hb29 | hb29
   ·
    have hb29' := of_decide_eq_true hb29
    refine sdc A qw hb29 λa A↦?_
    refine qa (hK28 _ _ (ct A ?_))
    refine wp_skip (hK27 _ _ (wsk fun K30 hK30 => wp_block (wsk fun K31 hK31 => zj (S := fun w1 => Mg w w1 ([])) (by kernel_rfl) ?_)))
    replace M := M.drew
    refine amv A 0 rfl hP (M.sub ns) λa A↦?_
    refine amv A 1 rfl hP (M.sub ns) λa A↦?_
    refine amv A 2 rfl hP (M.sub ns) λa A↦?_
    refine atk (v := iV (((q - j : Nat) : Int))) A 3 rfl hP (M.sub ns) (λ_ M↦qb rfl rfl (ar_sub ((in_i64 (by omega) (by omega)).trans (by omega)))) λa A↦?_
    refine atk (v := .int .u8 ((((s7.getD (q - j) 0).toNat : Nat) : Int))) A 4 rfl hP (M.sub ns) (λ_ M↦zb (s := s7) (i := q - j) (b := s7.getD (q - j) 0) Tryz.underlying9 rfl rfl rfl (zi (by omega))) λa A↦?_
    refine amv A 5 rfl hP (M.sub ns) λa A↦?_
    refine amv A 6 rfl hP (M.sub ns) λa A↦?_
    refine amv A 7 rfl hP (M.sub ns) λa A↦?_
    refine atk (v := iV (((B.length - 1 - j : Nat) : Int))) A 8 rfl hP (M.sub ns) (λ_ M↦qb rfl rfl (ar_sub ((in_i64 (by omega) (by omega)).trans (by omega)))) λa A↦?_
    refine atk (v := .int .u8 ((((B.getD (B.length - 1 - j) 0).toNat : Nat) : Int))) A 9 rfl hP (M.sub ns) (λ_ M↦zb (s := B) (i := B.length - 1 - j) (b := B.getD (B.length - 1 - j) 0) Tryz.underlying9 rfl rfl rfl (zi (by omega))) λa A↦?_
    rcases tf (((((s7.getD (q - j) 0).toNat : Nat) : Int) != (((B.getD (B.length - 1 - j) 0).toNat : Nat) : Int))) with hb32 | hb32
    ·
     have hb32' := bne_iff_ne.1 hb32
     refine atk (v := bV true) A 10 rfl hP (M.sub ns) (λ_ M↦qb rfl rfl (fun w => (za w).trans (by rw [hb32]))) λa A↦?_
     refine qy (by kernel_rfl) ?_
     refine hK31 _ _ (ct A ?_)
     refine wp_goto (And.intro rfl ?_)
     refine wsk fun K33 hK33 => wp_skip (hK33 _ _ (wsk fun K34 hK34 => wrl (sdm A λa A↦?_)))
     refine sdo (v := iV (((f + 1 : Nat) : Int))) A (qb rfl rfl (ar_add ((in_i64 (by omega) (by omega)).trans (by omega)))) λa A↦?_
     refine sda A λa A↦?_
     refine qa (hK34 _ _ (wsk fun K35 hK35 => wrl (sdm A λa A↦?_)))
     refine sdo (v := iV (((q + 1 : Nat) : Int))) A (qb rfl rfl (ar_add ((in_i64 (by omega) (by omega)).trans (by omega)))) λa A↦?_
     refine sda A λa A↦?_
     refine qa (hK35 _ _ (wsk fun K36 hK36 => wrl ?_))
     iterate 3 refine sdm A λa A↦?_
     refine gcl A M (ef rfl rfl) (jj (by omega) (by omega)) fun w38 hb37 M a A => ?_
     refine sdo (v := bV false) A (qb rfl rfl (fun w => (qx w).trans (by rw [show (decide (2 < ((f + 1 : Nat) : Int))) = false from (decide_eq_false (by omega))]))) λa A↦?_
     refine sdk (v := bV false) A λa A↦?_
     refine sdm A λa A↦?_
     iterate 4 refine qg A rfl rfl rfl λa A↦?_
     refine sdk (v := bV false) A λa A↦?_
     iterate 2 refine sdm A λa A↦?_
     iterate 5 refine qg A rfl rfl rfl λa A↦?_
     refine sdk (v := bV false) A λa A↦?_
     refine sdm A λa A↦?_
     iterate 4 refine qg A rfl rfl rfl λa A↦?_
     iterate 2 refine sdk (v := bV false) A λa A↦?_
     refine qa (hK36 _ _ (cf A ?_))
     refine wp_skip ?_
     refine hK13 _ _ _ (by omega) ⟨q + 1, f + 1, rfl, ⟨by omega, by omega, fun k hk hs => by by_cases h9 : k < q; exact hq4 k h9 hs; rw [show k = q by omega] at hs; exact bne_iff_ne.1 hb32 (by rw [hs.2.2 j (by omega)]), .inr ⟨by omega, fun k h8 h9 k9 => jy (i := q) (k := k) (by omega) h9 (hq3.trans k9.symm)⟩⟩, A.keep _ (by repeat' constructor), M⟩
    ·
     have hb32' := bne_eq_false_iff_eq.1 hb32
     refine atk (v := bV false) A 10 rfl hP (M.sub ns) (λ_ M↦qb rfl rfl (fun w => (za w).trans (by rw [hb32]))) λa A↦?_
     refine qy (by kernel_rfl) ?_
     refine hK31 _ _ (cf A ?_)
     refine wp_skip (hK30 _ _ (wrl (sdm A λa A↦?_)))
     refine sdo (v := iV (((j + 1 : Nat) : Int))) A (qb rfl rfl (ar_add ((in_i64 (by omega) (by omega)).trans (by omega)))) λa A↦?_
     refine sda A λa A↦?_
     refine qa ?_
     refine hK25 _ _ _ (by omega) ⟨j + 1, rfl, ⟨by omega, by omega, fun t ht => by by_cases h9 : t < j; exact hj3 t h9; rw [show t = j by omega]; exact zl (by simpa using hb32)⟩, A.keep _ (by repeat' constructor), M⟩
   ·
    have hb29' := of_decide_eq_false hb29
    refine sdc A qw hb29 λa A↦?_
    refine qa (hK28 _ _ (cf A ?_))
    refine wp_exit (hK22 _ _ (wsk fun K39 hK39 => wsk fun K40 hK40 => wrl ?_))
    iterate 2 refine sdm A λa A↦?_
    refine sdo (v := iV (((q - (B.length - 1) : Nat) : Int))) A (qb rfl rfl (ar_sub ((in_i64 (by omega) (by omega)).trans (by omega)))) λa A↦?_
    refine sda A λa A↦?_
    refine qa (hK40 _ _ (wr1 hret A ?_))
    exact ⟨_, rfl, .inl ⟨by omega, q, hq1, hq2, fun t ht => hj3 t (by have h9 := of_decide_eq_false hb29; omega)⟩, M.bel⟩
  refine wsk fun K41 hK41 => zj (S := fun w1 => Mg w w1 ([])) (by kernel_rfl) ?_
  replace M := M.drew
  refine amv A 0 rfl hP (M.sub ns) λa A↦?_
  refine amv A 1 rfl hP (M.sub ns) λa A↦?_
  refine atk (v := .int .u8 ((((s7.getD i 0).toNat : Nat) : Int))) A 2 rfl hP (M.sub ns) (λ_ M↦zb (s := s7) (i := i) (b := s7.getD i 0) Tryz.underlying9 rfl rfl rfl (zi (by omega))) λa A↦?_
  refine amv A 3 rfl hP (M.sub ns) λa A↦?_
  refine amv A 4 rfl hP (M.sub ns) λa A↦?_
  refine atk (v := .int .u8 ((((B.getD (B.length - 1) 0).toNat : Nat) : Int))) A 5 rfl hP (M.sub ns) (λ_ M↦zb (s := B) (i := B.length - 1) (b := B.getD (B.length - 1) 0) Tryz.underlying9 rfl rfl rfl (zi (by omega))) λa A↦?_
  rcases tf (((((s7.getD i 0).toNat : Nat) : Int) != (((B.getD (B.length - 1) 0).toNat : Nat) : Int))) with hb42 | hb42
  ·
   have hb42' := bne_iff_ne.1 hb42
   refine atk (v := bV true) A 6 rfl hP (M.sub ns) (λ_ M↦qb rfl rfl (fun w => (za w).trans (by rw [hb42]))) λa A↦?_
   refine qy (by kernel_rfl) ?_
   refine hK41 _ _ (ct A ?_)
   refine wsk fun K43 hK43 => zj (S := fun w1 => Mg w w1 ([])) (by kernel_rfl) ?_
   replace M := M.drew
   refine amv A 0 rfl hP (M.sub ns) λa A↦?_
   refine amv A 1 rfl hP (M.sub ns) λa A↦?_
   refine atk (v := iV (((i + 1 : Nat) : Int))) A 2 rfl hP (M.sub ns) (λ_ M↦qb rfl rfl (ar_add ((in_i64 (by omega) (by omega)).trans (by omega)))) λa A↦?_
   refine atk (v := .string ((tx (s7.drop (i + 1))))) A 3 rfl hP (M.sub ns) (λ_ M↦qs (s := s7) (p := i + 1) Tryz.underlying9 rfl rfl rfl (by omega)) λa A↦?_
   refine amv A 4 rfl hP (M.sub ns) λa A↦?_
   refine amv A 5 rfl hP (M.sub ns) λa A↦?_
   refine atk (v := .int .u8 ((((B.getD (B.length - 1) 0).toNat : Nat) : Int))) A 6 rfl hP (M.sub ns) (λ_ M↦zb (s := B) (i := B.length - 1) (b := B.getD (B.length - 1) 0) Tryz.underlying9 rfl rfl rfl (zi (by omega))) λa A↦?_
   rcases tf (decide (0 ≤ Lib.indexByte (s7.drop (i + 1)) (B.getD (B.length - 1) 0))) with hb45 | hb45
   ·
    have hb45' := of_decide_eq_true hb45
    obtain ⟨o, ho47⟩ := Int.eq_ofNat_of_zero_le (of_decide_eq_true hb45)
    have hoB := (jd h2 ho47 (fun k9 => bne_iff_ne.1 hb42 (by rw [k9])) hi3).1
    refine zw (by kernel_rfl) (ji A 7 rfl rfl rfl rfl (ef rfl rfl) (ib_as (l := s7.drop (i + 1)) (b := B.getD (B.length - 1) 0) ho47) ?_)
    rintro _ w48 ⟨rfl, hb46⟩
    replace M := M.call hb46
    refine ⟨_, rfl, (M.sub ns), ?_⟩
    intro a A
    refine atk A 8 rfl hP (M.sub ns) (λ_ M↦zd rfl) λa A↦?_
    refine qy (by kernel_rfl) ?_
    refine hK43 _ _ (wsk fun K49 hK49 => wsk fun K50 hK50 => wrl (sdm A λa A↦?_))
    refine sdo (v := bV false) A (qb rfl rfl (fun w => (qw w).trans (by rw [show (decide (((o : Nat) : Int) < 0)) = false from (decide_eq_false (by omega))]))) λa A↦?_
    refine qa (hK50 _ _ (cf A ?_))
    refine wp_skip (hK49 _ _ (wrl ?_))
    iterate 2 refine sdm A λa A↦?_
    refine sdo (v := iV (((o + 1 : Nat) : Int))) A (qb rfl rfl (ar_add ((in_i64 (by omega) (by omega)).trans (by omega)))) λa A↦?_
    refine sdo (v := iV (((i + o + 1 : Nat) : Int))) A (qb rfl rfl (ar_add ((in_i64 (by omega) (by omega)).trans (by omega)))) λa A↦?_
    refine sda A λa A↦?_
    refine qa ?_
    exact hJ19 _ _ ⟨i + o + 1, (by obtain ⟨y1, y2, y3⟩ := jd h2 ho47 (fun k9 => bne_iff_ne.1 hb42 (by rw [k9])) hi3; exact ⟨by omega, by omega, y1, y2, y3, hi4.elim id fun k => absurd y2 (k.2 _ (by omega) y1)⟩), A.keep _ (by repeat' constructor), M⟩
   ·
    have hb45' := of_decide_eq_false hb45
    have ho52 : Lib.indexByte (s7.drop (i + 1)) (B.getD (B.length - 1) 0) = -1 := by have h8 := Lib.indexByte_ge (s7.drop (i + 1)) (B.getD (B.length - 1) 0); have h9 := of_decide_eq_false hb45; omega
    refine zw (by kernel_rfl) (ji A 7 rfl rfl rfl rfl (ef rfl rfl) (ib_as (l := s7.drop (i + 1)) (b := B.getD (B.length - 1) 0) ho52) ?_)
    rintro _ w53 ⟨rfl, hb51⟩
    replace M := M.call hb51
    refine ⟨_, rfl, (M.sub ns), ?_⟩
    intro a A
    refine atk A 8 rfl hP (M.sub ns) (λ_ M↦zd rfl) λa A↦?_
    refine qy (by kernel_rfl) ?_
    refine hK43 _ _ (wsk fun K54 hK54 => wsk fun K55 hK55 => wrl (sdm A λa A↦?_))
    refine sdo (v := bV true) A dbK λa A↦?_
    refine qa (hK55 _ _ (ct A ?_))
    refine wsk fun K56 hK56 => wrl (sda A λa A↦?_)
    refine qa (hK56 _ _ (wr1 hret A ?_))
    exact ⟨_, rfl, .inr ⟨by decide, jz h2 ho52 (fun k9 => bne_iff_ne.1 hb42 (by rw [k9])) hi3⟩, M.bel⟩
  ·
   have hb42' := bne_eq_false_iff_eq.1 hb42
   refine atk (v := bV false) A 6 rfl hP (M.sub ns) (λ_ M↦qb rfl rfl (fun w => (za w).trans (by rw [hb42]))) λa A↦?_
   refine qy (by kernel_rfl) ?_
   refine hK41 _ _ (cf A ?_)
   refine wp_skip ?_
   exact hJ19 _ _ ⟨i, (by have y2 : s7.getD i 0 = B.getD (B.length - 1) 0 := zl (by simpa using hb42); exact ⟨hi1, Nat.le_refl _, by omega, y2, hi3, hi4.elim id fun k => absurd y2 (k.2 _ (Nat.le_refl _) (by omega))⟩), A.keep _ (by repeat' constructor), M⟩
 ·
  have hb17' := of_decide_eq_false hb17
  refine sdc A qw hb17 λa A↦?_
  refine qa (hK16 _ _ (cf A ?_))
  refine wp_exit (hK11 _ _ (wsk fun K57 hK57 => wsk fun K58 hK58 => wrl (sda A λa A↦?_)))
  refine qa (hK58 _ _ (wr1 hret A ?_))
  exact ⟨_, rfl, .inr ⟨by decide, fun k hk => hi3 k (by have h8 := hk.2.1; have h9 := of_decide_eq_false hb17; omega) hk⟩, M.bel⟩
theorem zq {w : World} {r : Int} {B : List UInt8} (h2 : 2 ≤ B.length) (h4 : B.length ≤ 4) (h0 : 128 ≤ r) (hne : r ≠ 65533) (hv : Lib.validRune r = true) (henc : Utf8.encode r = tx B) (hx : (∃ k, atS B k) ↔ ln7 r = true) : Calls Tryz.prog 71 #[.string (tx s7), .int .i32 r] w fun e w' => ∃ v : Int, e = .returned (iV v) ∧ decide (0 ≤ v) = ln7 r ∧ Below w.heap.size w w' := (jk h2 h4 h0 hne hv henc).mono fun e w' ⟨v, h1, h3, h5⟩ => by
 refine ⟨v, h1, ?_, h5⟩
 rcases h3 with ⟨h6, h7⟩ | ⟨h6, h7⟩
 ·
  rw [hx.1 h7]; exact decide_eq_true h6
 ·
  rw [show ln7 r = false from Bool.eq_false_iff.2 fun k => (hx.2 k).elim h7]; exact decide_eq_false (by omega)
theorem je {k : Nat} (h : k < 7) : k = 0 ∨ k = 1 ∨ k = 2 ∨ k = 3 ∨ k = 4 ∨ k = 5 ∨ k = 6 := by omega
theorem xh {r : Int} {b0 b1 : UInt8} (h0 : 128 ≤ r) (h1 : r ≤ 2047) (e0 : ((b0.toNat : Nat) : Int) = 192 + r / 64) (e1 : ((b1.toNat : Nat) : Int) = 128 + r % 64) : (∃ k, atS [b0, b1] k) ↔ ln7 r = true := by
 constructor
 ·
  rintro ⟨k, q1, q2, q3⟩
  have z1 : s7.getD k 0 = b1 := q3 0 (by simp)
  have z0 : s7.getD (k - 1) 0 = b0 := q3 1 (by simp)
  subst z1 z0
  apply decide_eq_true
  rcases je q2 with rfl | rfl | rfl | rfl | rfl | rfl | rfl <;> simp [s7] at e0 e1 <;> omega
 ·
  intro h
  have hr : r = 133 := by have := of_decide_eq_true h; omega
  subst hr
  obtain rfl : b0 = 194 := zl (e0.trans (by decide))
  obtain rfl : b1 = 133 := zl (e1.trans (by decide))
  exact ⟨3, by decide, by decide, by decide⟩
theorem xi {r : Int} {b0 b1 b2 : UInt8} (h0 : 2048 ≤ r) (h1 : r ≤ 65535) (e0 : ((b0.toNat : Nat) : Int) = 224 + r / 4096) (e1 : ((b1.toNat : Nat) : Int) = 128 + r / 64 % 64) (e2 : ((b2.toNat : Nat) : Int) = 128 + r % 64) : (∃ k, atS [b0, b1, b2] k) ↔ ln7 r = true := by
 constructor
 ·
  rintro ⟨k, q1, q2, q3⟩
  have z2 : s7.getD k 0 = b2 := q3 0 (by simp)
  have z1 : s7.getD (k - 1) 0 = b1 := q3 1 (by simp)
  have z0 : s7.getD (k - 2) 0 = b0 := q3 2 (by simp)
  subst z2 z1 z0
  apply decide_eq_true
  rcases je q2 with rfl | rfl | rfl | rfl | rfl | rfl | rfl <;> simp [s7] at e0 e1 e2 <;> omega
 ·
  intro h
  have hr : r = 8232 := by have := of_decide_eq_true h; omega
  subst hr
  obtain rfl : b0 = 226 := zl (e0.trans (by decide))
  obtain rfl : b1 = 128 := zl (e1.trans (by decide))
  obtain rfl : b2 = 168 := zl (e2.trans (by decide))
  exact ⟨6, by decide, by decide, by decide⟩
theorem xj {r : Int} {b0 b1 b2 b3 : UInt8} (h0 : 65536 ≤ r) (h1 : r ≤ 1114111) (e0 : ((b0.toNat : Nat) : Int) = 240 + r / 262144) : (∃ k, atS [b0, b1, b2, b3] k) ↔ ln7 r = true := by
 constructor
 ·
  rintro ⟨k, q1, q2, q3⟩
  have z0 : s7.getD (k - 3) 0 = b0 := q3 3 (by simp)
  subst z0
  exfalso
  rcases je q2 with rfl | rfl | rfl | rfl | rfl | rfl | rfl <;> simp [s7] at e0 <;> omega
 ·
  intro h
  have := of_decide_eq_true h
  omega
theorem jo {w : World} {r : Int} (h : C.OkR r) : Calls Tryz.prog 71 #[.string (tx [10, 13, 194, 133, 226, 128, 168]), .int .i32 r] w fun e w' => ∃ v : Int, e = .returned (iV v) ∧ decide (0 ≤ v) = ln7 r ∧ Below w.heap.size w w' := by
 by_cases h128 : r < 128
 ·
  have h0 : 0 ≤ r := by unfold C.OkR at h; omega
  refine (Tryz.strings_IndexRune_ascii (tx [10, 13, 194, 133, 226, 128, 168]) r w h0 h128).mono ?_
  rintro e w' ⟨rfl, rfl⟩
  have := C.ix7 r.toNat (by omega)
  rw [Int.toNat_of_nonneg h0] at this
  exact ⟨_, rfl, this, Below.refl _ _⟩
 ·
  by_cases he : r = 65533
  ·
   subst he
   refine (C.irune_err7 w).mono ?_
   rintro e w' ⟨rfl, hb⟩
   exact ⟨_, rfl, by decide, hb⟩
  ·
   have hv := h.valid
   unfold C.OkR at h
   by_cases h2 : r ≤ 2047
   ·
    exact zq (by simp) (by simp) (by omega) he hv (enc_tx hv (by unfold Lib.encodeRune; rw [Lib.encodeRuneZ_two (by omega) h2]; rfl)) (xh (by omega) h2 (byte_of (x := 192 + r / 64) (by omega) (by omega)) (byte_of (x := 128 + r % 64) (by omega) (by omega)))
   ·
    by_cases h3 : r ≤ 65535
    ·
     exact zq (by simp) (by simp) (by omega) he hv (enc_tx hv (by unfold Lib.encodeRune; rw [Lib.encodeRuneZ_three (by omega)]; rfl)) (xi (by omega) h3 (byte_of (x := 224 + r / 4096) (by omega) (by omega)) (byte_of (x := 128 + r / 64 % 64) (by omega) (by omega)) (byte_of (x := 128 + r % 64) (by omega) (by omega)))
    ·
     exact zq (by simp) (by simp) (by omega) he hv (enc_tx hv (by unfold Lib.encodeRune; rw [Lib.encodeRuneZ_four (by omega) (by omega)]; rfl)) (xj (by omega) (by omega) (byte_of (x := 240 + r / 262144) (by omega) (by omega)))
def lnX (l : List UInt8) : Nat := C.lnN l.length l
theorem zv {w : World} {l : List UInt8} (hl : l.length < 4294967281) : Calls Tryz.prog 51 #[.string (tx l), .string (tx [10, 13, 194, 133, 226, 128, 168])] w fun e w' => (∃ v : Int, e = .returned (iV v) ∧ (v = ((lnX l : Nat) : Int) ∧ lnX l < l.length ∨ v = -1 ∧ lnX l = l.length)) ∧ Below w.heap.size w w' := by
 have := C.iany7 (tx l) (fun r w h => jo h) w (by rw [jg]; exact hl)
 rwa [jg, xe] at this
theorem xk {w : World} {l : List UInt8} (hl : l.length < 4294967281) (h : decide (lnX l < l.length) = true) : Calls Tryz.prog 51 #[.string (tx l), .string (tx [10, 13, 194, 133, 226, 128, 168])] w fun e w' => e = .returned (iV ((lnX l : Nat) : Int)) ∧ Below w.heap.size w w' := (zv hl).mono fun e w' h1 => by
 obtain ⟨⟨v, rfl, h2 | h2⟩, hb⟩ := h1
 ·
  exact ⟨by rw [h2.1], hb⟩
 ·
  exact absurd (of_decide_eq_true h) (by omega)
theorem xl {w : World} {l : List UInt8} (hl : l.length < 4294967281) (h : decide (lnX l < l.length) = false) : Calls Tryz.prog 51 #[.string (tx l), .string (tx [10, 13, 194, 133, 226, 128, 168])] w fun e w' => e = .returned (iV (-1)) ∧ lnX l = l.length ∧ Below w.heap.size w w' := (zv hl).mono fun e w' h1 => by
 obtain ⟨⟨v, rfl, h2 | h2⟩, hb⟩ := h1
 ·
  exact absurd h2.2 (of_decide_eq_false h)
 ·
  exact ⟨by rw [h2.1], h2.2, hb⟩
end Go.Proofs.YtclkfideaameoaaGreatDoor.G
gb 0, v69] 83) :: .row BY 1 (v69) (((acc ++ Lib.encodeRune 10)).length) ((Lib.byteCells ((acc ++ Lib.encodeRune 10)))) :: .obj g (rC L (q + (dcX (L.drop q)).2) lg) :: T) := N.bring 1 rfl rfl
      replace N : Mg w0 w72 (.obj g (rC L (q + (dcX (L.drop q)).2) lg) :: .obj gb (.cells #[pA gb 0, v69] 83) :: .row BY 1 (v69) (((acc ++ Lib.encodeRune 10)).length) ((Lib.byteCells ((acc ++ Lib.encodeRune 10)))) :: T) := N.bring 2 rfl rfl
      have hel := enc_len 10
      refine hK5 _ _ _ (by omega) ⟨q + (dcX (L.drop q)).2, f, acc ++ Lib.encodeRune 10, pA gb 0, v69, rfl, ⟨by omega, by omega, .inr rfl, hv70, fun k => absurd k enc_ne, by rw [List.length_append]; omega, hi.go hb9 hb19 (by unfold quoS; rw [if_neg (ne_of_beq_false hb30), if_neg (ne_of_beq_false hb39), if_pos (eq_of_beq hb68)])⟩, A.keep _ ⟨rfl, rfl, rfl, trivial⟩, N⟩
     ·
      have hb68' := ne_of_beq_false hb68
      refine sdc A zf hb68 λa A↦?_
      refine sda A λa A↦?_
      refine qa (hK67 _ _ (cf A ?_))
      refine wrl ?_
      rcases tf (((((dcX (L.drop q)).1 : Nat) : Int) == 8232)) with hb73 | hb73
      ·
       have hb73' := eq_of_beq hb73
       refine sdc A zf hb73 λa A↦?_
       refine sda A λa A↦?_
       refine qa (hK66 _ _ (ct A ?_))
       refine wrl (sda A λa A↦?_)
       refine qa (hK27 _ _ (wrl (sdm A λa A↦?_)))
       replace N : Mg w0 w26 (.row BY 1 (v) acc.length ((Lib.byteCells acc)) :: .obj g (rC L (q + (dcX (L.drop q)).2) lg) :: .obj gb (.cells #[pb, v] 83) :: T) := N.bring 2 rfl rfl
       replace N : Mg w0 w26 (.obj gb (.cells #[pb, v] 83) :: .row BY 1 (v) acc.length ((Lib.byteCells acc)) :: .obj g (rC L (q + (dcX (L.drop q)).2) lg) :: T) := N.bring 2 rfl rfl
       refine sct A (ef rfl rfl) (wruneM (T := (.obj g (rC L (q + (dcX (L.drop q)).2) lg) :: T)) (bs := acc) hpb (Ck.lt (N.has 0 rfl) gb rfl).1 (Nat.le_refl gb) (QL.cons hgl hQT).qm hv0 N (r := 10) (by omega) (by omega) (by omega)) ?_
       rintro _ w77 ⟨⟨z9, rfl⟩, v74, hv75, hM76⟩
       replace N : Mg w0 w77 (.obj gb (.cells #[pA gb 0, v74] 83) :: .row BY 1 (v74) (((acc ++ Lib.encodeRune 10)).length) ((Lib.byteCells ((acc ++ Lib.encodeRune 10)))) :: .obj g (rC L (q + (dcX (L.drop q)).2) lg) :: T) := hM76
       refine ⟨_, rfl, ?_⟩
       intro a A
       refine qa ?_
       replace N : Mg w0 w77 (.row BY 1 (v74) (((acc ++ Lib.encodeRune 10)).length) ((Lib.byteCells ((acc ++ Lib.encodeRune 10)))) :: .obj gb (.cells #[pA gb 0, v74] 83) :: .obj g (rC L (q + (dcX (L.drop q)).2) lg) :: T) := N.bring 1 rfl rfl
       replace N : Mg w0 w77 (.obj gb (.cells #[pA gb 0, v74] 83) :: .row BY 1 (v74) (((acc ++ Lib.encodeRune 10)).length) ((Lib.byteCells ((acc ++ Lib.encodeRune 10)))) :: .obj g (rC L (q + (dcX (L.drop q)).2) lg) :: T) := N.bring 1 rfl rfl
       replace N : Mg w0 w77 (.obj g (rC L (q + (dcX (L.drop q)).2) lg) :: .obj gb (.cells #[pA gb 0, v74] 83) :: .row BY 1 (v74) (((acc ++ Lib.encodeRune 10)).length) ((Lib.byteCells ((acc ++ Lib.encodeRune 10)))) :: T) := N.bring 2 rfl rfl
       have hel := enc_len 10
       refine hK5 _ _ _ (by omega) ⟨q + (dcX (L.drop q)).2, f, acc ++ Lib.encodeRune 10, pA gb 0, v74, rfl, ⟨by omega, by omega, .inr rfl, hv75, fun k => absurd k enc_ne, by rw [List.length_append]; omega, hi.go hb9 hb19 (by unfold quoS; rw [if_neg (ne_of_beq_false hb30), if_neg (ne_of_beq_false hb39), if_neg (ne_of_beq_false hb68), if_pos (eq_of_beq hb73)])⟩, A.keep _ ⟨rfl, rfl, rfl, trivial⟩, N⟩
      ·
       have hb73' := ne_of_beq_false hb73
       refine sdc A zf hb73 λa A↦?_
       refine sda A λa A↦?_
       refine qa (hK66 _ _ (cf A ?_))
       refine wp_skip (hK27 _ _ (wrl (sdm A λa A↦?_)))
       replace N : Mg w0 w26 (.row BY 1 (v) acc.length ((Lib.byteCells acc)) :: .obj g (rC L (q + (dcX (L.drop q)).2) lg) :: .obj gb (.cells #[pb, v] 83) :: T) := N.bring 2 rfl rfl
       replace N : Mg w0 w26 (.obj gb (.cells #[pb, v] 83) :: .row BY 1 (v) acc.length ((Lib.byteCells acc)) :: .obj g (rC L (q + (dcX (L.drop q)).2) lg) :: T) := N.bring 2 rfl rfl
       have hcr := dc_range (L.drop q)
       refine sct A (ef rfl rfl) (wruneM (T := (.obj g (rC L (q + (dcX (L.drop q)).2) lg) :: T)) (bs := acc) hpb (Ck.lt (N.has 0 rfl) gb rfl).1 (Nat.le_refl gb) (QL.cons hgl hQT).qm hv0 N (r := (((dcX (L.drop q)).1 : Nat) : Int)) (by omega) (by omega) (by omega)) ?_
       rintro _ w81 ⟨⟨z9, rfl⟩, v78, hv79, hM80⟩
       replace N : Mg w0 w81 (.obj gb (.cells #[pA gb 0, v78] 83) :: .row BY 1 (v78) (((acc ++ Lib.encodeRune ((((dcX (L.drop q)).1 : Nat) : Int)))).length) ((Lib.byteCells ((acc ++ Lib.encodeRune ((((dcX (L.drop q)).1 : Nat) : Int)))))) :: .obj g (rC L (q + (dcX (L.drop q)).2) lg) :: T) := hM80
       refine ⟨_, rfl, ?_⟩
       intro a A
       refine qa ?_
       replace N : Mg w0 w81 (.row BY 1 (v78) (((acc ++ Lib.encodeRune ((((dcX (L.drop q)).1 : Nat) : Int)))).length) ((Lib.byteCells ((acc ++ Lib.encodeRune ((((dcX (L.drop q)).1 : Nat) : Int)))))) :: .obj gb (.cells #[pA gb 0, v78] 83) :: .obj g (rC L (q + (dcX (L.drop q)).2) lg) :: T) := N.bring 1 rfl rfl
       replace N : Mg w0 w81 (.obj gb (.cells #[pA gb 0, v78] 83) :: .row BY 1 (v78) (((acc ++ Lib.encodeRune ((((dcX (L.drop q)).1 : Nat) : Int)))).length) ((Lib.byteCells ((acc ++ Lib.encodeRune ((((dcX (L.drop q)).1 : Nat) : Int)))))) :: .obj g (rC L (q + (dcX (L.drop q)).2) lg) :: T) := N.bring 1 rfl rfl
       replace N : Mg w0 w81 (.obj g (rC L (q + (dcX (L.drop q)).2) lg) :: .obj gb (.cells #[pA gb 0, v78] 83) :: .row BY 1 (v78) (((acc ++ Lib.encodeRune ((((dcX (L.drop q)).1 : Nat) : Int)))).length) ((Lib.byteCells ((acc ++ Lib.encodeRune ((((dcX (L.drop q)).1 : Nat) : Int)))))) :: T) := N.bring 2 rfl rfl
       have hel := enc_len ((((dcX (L.drop q)).1 : Nat) : Int))
       refine hK5 _ _ _ (by omega) ⟨q + (dcX (L.drop q)).2, f, acc ++ Lib.encodeRune ((((dcX (L.drop q)).1 : Nat) : Int)), pA gb 0, v78, rfl, ⟨by omega, by omega, .inr rfl, hv79, fun k => absurd k enc_ne, by rw [List.length_append]; omega, hi.go hb9 hb19 (by unfold quoS; rw [if_neg (ne_of_beq_false hb30), if_neg (ne_of_beq_false hb39), if_neg (ne_of_beq_false hb68), if_neg (ne_of_beq_false hb73)])⟩, A.keep _ ⟨rfl, rfl, rfl, trivial⟩, N⟩
end Go.Proofs.YtclkfideaameoaaGreatDoor.G
ib.byteCells ((acc ++ Lib.encodeRune ((((dcX (L.drop q)).1 : Nat) : Int)))))) :: .obj g4 (rC L (q + (dcX (L.drop q)).2) false) :: []) := hM72
       refine ⟨_, rfl, ?_⟩
       intro a A
       refine qa ?_
       replace N : Mg w w73 (.row BY 1 (v70) (((acc ++ Lib.encodeRune ((((dcX (L.drop q)).1 : Nat) : Int)))).length) ((Lib.byteCells ((acc ++ Lib.encodeRune ((((dcX (L.drop q)).1 : Nat) : Int)))))) :: .obj gb (.cells #[pA gb 0, v70] 83) :: .obj g4 (rC L (q + (dcX (L.drop q)).2) false) :: []) := N.bring 1 rfl rfl
       replace N : Mg w w73 (.obj gb (.cells #[pA gb 0, v70] 83) :: .row BY 1 (v70) (((acc ++ Lib.encodeRune ((((dcX (L.drop q)).1 : Nat) : Int)))).length) ((Lib.byteCells ((acc ++ Lib.encodeRune ((((dcX (L.drop q)).1 : Nat) : Int)))))) :: .obj g4 (rC L (q + (dcX (L.drop q)).2) false) :: []) := N.bring 1 rfl rfl
       replace N : Mg w w73 (.obj g4 (rC L (q + (dcX (L.drop q)).2) false) :: .obj gb (.cells #[pA gb 0, v70] 83) :: .row BY 1 (v70) (((acc ++ Lib.encodeRune ((((dcX (L.drop q)).1 : Nat) : Int)))).length) ((Lib.byteCells ((acc ++ Lib.encodeRune ((((dcX (L.drop q)).1 : Nat) : Int)))))) :: []) := N.bring 2 rfl rfl
       have hel := enc_len ((((dcX (L.drop q)).1 : Nat) : Int))
       refine hK13 _ _ _ (by omega) ⟨q + (dcX (L.drop q)).2, f, acc ++ Lib.encodeRune ((((dcX (L.drop q)).1 : Nat) : Int)), pA gb 0, v70, rfl, ⟨by omega, by omega, .inr rfl, fun k => absurd k enc_ne, by rw [List.length_append]; omega, hi.go hb19 (by unfold symS; rw [if_neg (ne_of_beq_false hb31), if_neg (by rw [hb51]; decide), if_pos (ne_len hb64), if_pos hb65])⟩, A.keep _ ⟨rfl, rfl, rfl, rfl, rfl, trivial⟩, N⟩
      ·
       refine gcl A N (ef rfl rfl) (rest_as (okR_dc _) hb65) fun w75 hb74 N a A => ?_
       iterate 2 refine sdk (v := bV false) A λa A↦?_
       refine zr A rfl rfl rfl (ef rfl rfl) (zx) ?_
       rintro _ w77 ⟨rfl, hp78⟩
       exact .inl ⟨_, rfl, hX _ _ _ _ _ A (.inl ⟨rfl, hi.no hb19 (by unfold symS; rw [if_neg (ne_of_beq_false hb31), if_neg (by rw [hb51]; decide), if_pos (ne_len hb64), if_neg (by rw [hb65]; decide)]), N.bel.trans (hp78.mono N.bel.size)⟩)⟩
     ·
      have hb64' := of_decide_eq_false hb64
      refine sdc A qx hb64 λa A↦?_
      refine sdm A λa A↦?_
      iterate 2 refine qg A rfl rfl rfl λa A↦?_
      iterate 2 refine sdk (v := bV false) A λa A↦?_
      refine zr A rfl rfl rfl (ef rfl rfl) (zx) ?_
      rintro _ w80 ⟨rfl, hp81⟩
      exact .inl ⟨_, rfl, hX _ _ _ _ _ A (.inl ⟨rfl, hi.no hb19 (by unfold symS; rw [if_neg (ne_of_beq_false hb31), if_neg (by rw [hb51]; decide), if_neg (by rw [ne_len hb64]; decide)]), N.bel.trans (hp81.mono N.bel.size)⟩)⟩
 refine wp_block (wsk fun K82 hK82 => wsk fun K83 hK83 => wrl (sdm A λa A↦?_))
 rcases tf (decide (L = [43])) with hb84 | hb84
 ·
  have hb84' := of_decide_eq_true hb84
  refine sdo (v := bV true) A (qb rfl rfl (fun w => (qe (a := L) (b := [43]) Tryz.underlying9 w).trans (by rw [hb84] <;> rfl))) λa A↦?_
  refine sda A λa A↦?_
  refine qa (hK83 _ _ (ct A ?_))
  refine wp_skip (hK82 _ _ (ct A ?_))
  refine wsk fun K85 hK85 => wrl (sdm A λa A↦?_)
  refine gcl A N (ef rfl rfl) (sclone_any hl) fun w86 hb9 N a A => ?_
  refine sda A λa A↦?_
  refine qa (hK85 _ _ (wr1 hret A ?_))
  exact .inr ⟨L, rfl, ⟨by unfold symY; rw [if_pos (of_decide_eq_true hb84)], by omega⟩, N.bel⟩
 ·
  have hb84' := of_decide_eq_false hb84
  refine sdo (v := bV false) A (qb rfl rfl (fun w => (qe (a := L) (b := [43]) Tryz.underlying9 w).trans (by rw [hb84] <;> rfl))) λa A↦?_
  refine sda A λa A↦?_
  refine qa (hK83 _ _ (cf A ?_))
  refine wsk fun K87 hK87 => wrl (sdm A λa A↦?_)
  rcases tf (decide (L = [45])) with hb88 | hb88
  ·
   have hb88' := of_decide_eq_true hb88
   refine sdo (v := bV true) A (qb rfl rfl (fun w => (qe (a := L) (b := [45]) Tryz.underlying9 w).trans (by rw [hb88] <;> rfl))) λa A↦?_
   refine sda A λa A↦?_
   refine qa (hK87 _ _ (ct A ?_))
   refine wp_skip (hK82 _ _ (ct A ?_))
   refine wsk fun K89 hK89 => wrl (sdm A λa A↦?_)
   refine gcl A N (ef rfl rfl) (sclone_any hl) fun w90 hb9 N a A => ?_
   refine sda A λa A↦?_
   refine qa (hK89 _ _ (wr1 hret A ?_))
   exact .inr ⟨L, rfl, ⟨by unfold symY; rw [if_neg (of_decide_eq_false hb84), if_pos (of_decide_eq_true hb88)], by omega⟩, N.bel⟩
  ·
   have hb88' := of_decide_eq_false hb88
   refine sdo (v := bV false) A (qb rfl rfl (fun w => (qe (a := L) (b := [45]) Tryz.underlying9 w).trans (by rw [hb88] <;> rfl))) λa A↦?_
   refine sda A λa A↦?_
   refine qa (hK87 _ _ (cf A ?_))
   refine wrl (sdm A λa A↦?_)
   rcases tf (decide (L = [46, 46, 46])) with hb91 | hb91
   ·
    have hb91' := of_decide_eq_true hb91
    refine sdo (v := bV true) A (qb rfl rfl (fun w => (qe (a := L) (b := [46, 46, 46]) Tryz.underlying9 w).trans (by rw [hb91] <;> rfl))) λa A↦?_
    refine sda A λa A↦?_
    refine qa (hK82 _ _ (ct A ?_))
    refine wsk fun K92 hK92 => wrl (sdm A λa A↦?_)
    refine gcl A N (ef rfl rfl) (sclone_any hl) fun w93 hb9 N a A => ?_
    refine sda A λa A↦?_
    refine qa (hK92 _ _ (wr1 hret A ?_))
    exact .inr ⟨L, rfl, ⟨by unfold symY; rw [if_neg (of_decide_eq_false hb84), if_neg (of_decide_eq_false hb88), if_pos (of_decide_eq_true hb91)], by omega⟩, N.bel⟩
   ·
    have hb91' := of_decide_eq_false hb91
    refine sdo (v := bV false) A (qb rfl rfl (fun w => (qe (a := L) (b := [46, 46, 46]) Tryz.underlying9 w).trans (by rw [hb91] <;> rfl))) λa A↦?_
    refine sda A λa A↦?_
    refine qa (hK82 _ _ (cf A ?_))
    refine wsk fun K94 hK94 => wrl ?_
    rcases tf (Lib.hasPrefix (L.drop 0) [45, 62]) with hb95 | hb95
    ·
     have htl97 : 2 ≤ (L.drop 0).length := (List.isPrefixOf_iff_prefix.1 hb95).length_le
     rw [List.length_drop] at htl97
     refine sct A (ef rfl rfl) (take_y (p := 0) (L := L) (T := (.row BY 1 (.slice none 0 0) (([] : List UInt8).length) ((Lib.byteCells ([] : List UInt8))) :: .obj gb (.cells #[.pointer none, .slice none 0 0] 83) :: [])) (by omega) (by omega) hb95 N) ?_
     rintro _ w98 ⟨rfl, hM96⟩
     replace N : Mg w w98 (.obj g4 (rC L (0 + 2) false) :: .row BY 1 (.slice none 0 0) (([] : List UInt8).length) ((Lib.byteCells ([] : List UInt8))) :: .obj gb (.cells #[.pointer none, .slice none 0 0] 83) :: []) := hM96
     refine ⟨_, rfl, ?_⟩
     intro a A
     refine sda A λa A↦?_
     refine qa (hK94 _ _ (ct A ?_))
     refine wrl ?_
     replace N : Mg w w98 (.row BY 1 (.slice none 0 0) (([] : List UInt8).length) ((Lib.byteCells ([] : List UInt8))) :: .obj g4 (rC L (0 + 2) false) :: .obj gb (.cells #[.pointer none, .slice none 0 0] 83) :: []) := N.bring 1 rfl rfl
     replace N : Mg w w98 (.obj gb (.cells #[.pointer none, .slice none 0 0] 83) :: .row BY 1 (.slice none 0 0) (([] : List UInt8).length) ((Lib.byteCells ([] : List UInt8))) :: .obj g4 (rC L (0 + 2) false) :: []) := N.bring 2 rfl rfl
     refine sct A (ef rfl rfl) (wstrM (T := (.obj g4 (rC L (0 + 2) false) :: [])) (bs := ([] : List UInt8)) (s := tx [45, 62]) (.inl rfl) N (by decide)) ?_
     rintro _ w101 ⟨⟨z9, rfl⟩, v99, hM100⟩
     replace N : Mg w w101 (.obj gb (.cells #[pA gb 0, v99] 83) :: .row BY 1 (v99) ((([45, 62] : List UInt8)).length) ((Lib.byteCells (([45, 62] : List UInt8)))) :: .obj g4 (rC L (0 + 2) false) :: []) := hM100
     refine ⟨_, rfl, ?_⟩
     intro a A
     refine qa ?_
     replace N : Mg w w101 (.row BY 1 (v99) ((([45, 62] : List UInt8)).length) ((Lib.byteCells (([45, 62] : List UInt8)))) :: .obj gb (.cells #[pA gb 0, v99] 83) :: .obj g4 (rC L (0 + 2) false) :: []) := N.bring 1 rfl rfl
     replace N : Mg w w101 (.obj gb (.cells #[pA gb 0, v99] 83) :: .row BY 1 (v99) ((([45, 62] : List UInt8)).length) ((Lib.byteCells (([45, 62] : List UInt8)))) :: .obj g4 (rC L (0 + 2) false) :: []) := N.bring 1 rfl rfl
     replace N : Mg w w101 (.obj g4 (rC L (0 + 2) false) :: .obj gb (.cells #[pA gb 0, v99] 83) :: .row BY 1 (v99) ((([45, 62] : List UInt8)).length) ((Lib.byteCells (([45, 62] : List UInt8)))) :: []) := N.bring 2 rfl rfl
     exact hJ8 _ _ ⟨2, L.length + 1, [45, 62], pA gb 0, v99, ⟨by omega, by omega, .inr rfl, (fun k => by cases k), by decide, by unfold SI; unfold symY; rw [if_neg (of_decide_eq_false hb84), if_neg (of_decide_eq_false hb88), if_neg (of_decide_eq_false hb91), if_pos (show Lib.hasPrefix L [45, 62] = true from hb95)]; rfl⟩, A.keep _ ⟨rfl, rfl, rfl, rfl, rfl, trivial⟩, N⟩
    ·
     refine sct A (ef rfl rfl) (take_n (p := 0) (L := L) (T := (.row BY 1 (.slice none 0 0) (([] : List UInt8).length) ((Lib.byteCells ([] : List UInt8))) :: .obj gb (.cells #[.pointer none, .slice none 0 0] 83) :: [])) (by omega) (by omega) hb95 N) ?_
     rintro _ w103 ⟨rfl, hM102⟩
     replace N : Mg w w103 (.obj g4 (.cells #[.string ((tx L)), iV 0, bV false] 50) :: .row BY 1 (.slice none 0 0) (([] : List UInt8).length) ((Lib.byteCells ([] : List UInt8))) :: .obj gb (.cells #[.pointer none, .slice none 0 0] 83) :: []) := hM102
     refine ⟨_, rfl, ?_⟩
     intro a A
     refine sda A λa A↦?_
     refine qa (hK94 _ _ (cf A ?_))
     refine wp_skip ?_
     replace N : Mg w w103 (.row BY 1 (.slice none 0 0) (([] : List UInt8).length) ((Lib.byteCells ([] : List UInt8))) :: .obj g4 (.cells #[.string ((tx L)), iV 0, bV false] 50) :: .obj gb (.cells #[.pointer none, .slice none 0 0] 83) :: []) := N.bring 1 rfl rfl
     replace N : Mg w w103 (.obj gb (.cells #[.pointer none, .slice none 0 0] 83) :: .row BY 1 (.slice none 0 0) (([] : List UInt8).length) ((Lib.byteCells ([] : List UInt8))) :: .obj g4 (.cells #[.string ((tx L)), iV 0, bV false] 50) :: []) := N.bring 2 rfl rfl
     replace N : Mg w w103 (.obj g4 (.cells #[.string ((tx L)), iV 0, bV false] 50) :: .obj gb (.cells #[.pointer none, .slice none 0 0] 83) :: .row BY 1 (.slice none 0 0) (([] : List UInt8).length) ((Lib.byteCells ([] : List UInt8))) :: []) := N.bring 2 rfl rfl
     exact hJ8 _ _ ⟨0, L.length + 1, [], .pointer none, .slice none 0 0, ⟨by omega, by omega, .inl rfl, fun _ => rfl, by decide, by unfold SI; unfold symY; rw [if_neg (of_decide_eq_false hb84), if_neg (of_decide_eq_false hb88), if_neg (of_decide_eq_false hb91), if_neg (by have k := hb95; rw [List.drop_zero] at k; rw [k]; decide)]; rw [List.drop_zero]; simp⟩, A.keep _ ⟨rfl, rfl, rfl, rfl, rfl, trivial⟩, N⟩
end Go.Proofs.YtclkfideaameoaaGreatDoor.G
C_isS_121 rfl 0 rfl (cs := [.int .u8 0, .string (bsL (l.take (nDg r l))), .string (bsL [])]) rfl rfl) (qf rfl) ?_))))
   have hs : signB l = false := by unfold signB; first | (simp; omega) | (subst_vars; decide)
   have hu : unS l = l := by unfold unS; rw [hs]; rfl
   have e1 : sgB l = 0 := by unfold sgB; rw [hs]; try rfl
   have e2 : tpD r l = l.take (nDg r l) := by unfold tpD; rw [hu]
   have eq : qD r l = (l).drop (nDg r (l)) := by unfold qD; rw [hu]
   have hsl : slD r l = false := by
    unfold slD; rw [hu, eq]; first | exact sl_no1 (by assumption) | exact sl_no2 (by assumption) | exact sl_no3 (by omega) | exact sl_no4 (by assumption)
   have e3 : boD r l = [] := by unfold boD; rw [hsl]; rfl
   have e4 : reD r l = l.drop (nDg r l) := by unfold reD; rw [hsl, eq]; rfl
   exact ⟨by rw [e1, e2, e3, e4] <;> try rfl, V.bel⟩
  ·
   have hb13' := of_decide_eq_false hb13
   have hb13n : ¬ (l.take (nDg r l)).length = 0 := fun k => hb13' (List.length_eq_zero_iff.1 k)
   refine sdo (v := bV false) A (qb rfl rfl (fun w => (bin_eqlT (a := l.take (nDg r l)) (b := []) Tryz.underlying9 w).trans (by rw [hb13]; try rfl))) λa A↦?_
   iterate 2 refine sdm A λa A↦?_
   rcases tf (decide (l.drop (nDg r l) = ([] : List UInt8))) with hb16 | hb16
   ·
    have hb16' := of_decide_eq_true hb16
    have hb16n : (l.drop (nDg r l)).length = 0 := by rw [hb16']; rfl
    refine sdo (v := bV true) A (qb rfl rfl (fun w => (bin_eqlT (a := l.drop (nDg r l)) (b := []) Tryz.underlying9 w).trans (by rw [hb16]; try rfl))) λa A↦?_
    refine sdk (v := bV true) A λa A↦?_
    refine sdm A λa A↦?_
    iterate 3 refine qg A rfl rfl rfl λa A↦?_
    refine sdk (v := bV true) A λa A↦?_
    refine qa (hK12 _ _ (ct A ?_))
    refine wsk fun K17 hK17 => wrl (sdo A (qn V RxC_isS_121 rfl 0 rfl (cs := [.int .u8 0, .string (bsL (l.take (nDg r l))), .string (bsL [])]) rfl rfl) λa A↦?_)
    refine sdm A λa A↦?_
    refine qi (us := [.int .u8 0, .string (bsL (l.take (nDg r l))), .string (bsL [])]) A V rfl rfl (qh rfl rfl rfl (by kernel_rfl) V 0 rfl rfl rfl) 0 rfl rfl rfl rfl ?_
    intro w18 V
    refine sda A λa A↦?_
    refine qa (hK17 _ _ (wp_ret (hret _ _ (en2 A rfl (qt V RxC_isS_121 rfl 0 rfl (cs := [.int .u8 0, .string (bsL (l.take (nDg r l))), .string (bsL [])]) rfl rfl) (qf rfl) ?_))))
    have hs : signB l = false := by unfold signB; first | (simp; omega) | (subst_vars; decide)
    have hu : unS l = l := by unfold unS; rw [hs]; rfl
    have e1 : sgB l = 0 := by unfold sgB; rw [hs]; try rfl
    have e2 : tpD r l = l.take (nDg r l) := by unfold tpD; rw [hu]
    have eq : qD r l = (l).drop (nDg r (l)) := by unfold qD; rw [hu]
    have hsl : slD r l = false := by
     unfold slD; rw [hu, eq]; first | exact sl_no1 (by assumption) | exact sl_no2 (by assumption) | exact sl_no3 (by omega) | exact sl_no4 (by assumption)
    have e3 : boD r l = [] := by unfold boD; rw [hsl]; rfl
    have e4 : reD r l = l.drop (nDg r l) := by unfold reD; rw [hsl, eq]; rfl
    exact ⟨by rw [e1, e2, e3, e4] <;> try rfl, V.bel⟩
   ·
    have hb16' := of_decide_eq_false hb16
    have hb16n : ¬ (l.drop (nDg r l)).length = 0 := fun k => hb16' (List.length_eq_zero_iff.1 k)
    refine sdo (v := bV false) A (qb rfl rfl (fun w => (bin_eqlT (a := l.drop (nDg r l)) (b := []) Tryz.underlying9 w).trans (by rw [hb16]; try rfl))) λa A↦?_
    refine sdk (v := bV false) A λa A↦?_
    iterate 2 refine sdm A λa A↦?_
    refine sdo (v := .int .u8 (((btL (l.drop (nDg r l)) 0 : Nat) : Int))) A (does_ixT (s := l.drop (nDg r l)) (i := 0) Tryz.underlying9 rfl rfl (by first | rfl | omega) (by first | omega | (simp only [List.length_drop, List.length_take]; omega))) λa A↦?_
    rcases tf ((((btL (l.drop (nDg r l)) 0 : Nat) : Int) != 47)) with hb19 | hb19
    ·
     have hb19' := bne_iff_ne.1 hb19
     refine sdc A za hb19 λa A↦?_
     refine sdk (v := bV true) A λa A↦?_
     refine qa (hK12 _ _ (ct A ?_))
     refine wsk fun K20 hK20 => wrl (sdo A (qn V RxC_isS_121 rfl 0 rfl (cs := [.int .u8 0, .string (bsL (l.take (nDg r l))), .string (bsL [])]) rfl rfl) λa A↦?_)
     refine sdm A λa A↦?_
     refine qi (us := [.int .u8 0, .string (bsL (l.take (nDg r l))), .string (bsL [])]) A V rfl rfl (qh rfl rfl rfl (by kernel_rfl) V 0 rfl rfl rfl) 0 rfl rfl rfl rfl ?_
     intro w21 V
     refine sda A λa A↦?_
     refine qa (hK20 _ _ (wp_ret (hret _ _ (en2 A rfl (qt V RxC_isS_121 rfl 0 rfl (cs := [.int .u8 0, .string (bsL (l.take (nDg r l))), .string (bsL [])]) rfl rfl) (qf rfl) ?_))))
     have hs : signB l = false := by unfold signB; first | (simp; omega) | (subst_vars; decide)
     have hu : unS l = l := by unfold unS; rw [hs]; rfl
     have e1 : sgB l = 0 := by unfold sgB; rw [hs]; try rfl
     have e2 : tpD r l = l.take (nDg r l) := by unfold tpD; rw [hu]
     have eq : qD r l = (l).drop (nDg r (l)) := by unfold qD; rw [hu]
     have hsl : slD r l = false := by
      unfold slD; rw [hu, eq]; first | exact sl_no1 (by assumption) | exact sl_no2 (by assumption) | exact sl_no3 (by omega) | exact sl_no4 (by assumption)
     have e3 : boD r l = [] := by unfold boD; rw [hsl]; rfl
     have e4 : reD r l = l.drop (nDg r l) := by unfold reD; rw [hsl, eq]; rfl
     exact ⟨by rw [e1, e2, e3, e4] <;> try rfl, V.bel⟩
    ·
     have hb19' := bne_eq_false_iff_eq.1 hb19
     refine sdc A za hb19 λa A↦?_
     refine sdk (v := bV false) A λa A↦?_
     refine qa (hK12 _ _ (cf A ?_))
     refine wp_skip (hK11 _ _ (wsk fun K22 hK22 => wrl (mv A rfl rfl rfl λa A↦?_)))
     refine sdo (v := .string (bsL ((l.drop (nDg r l)).drop 1))) A (does_slFrom (p := 1) (s := l.drop (nDg r l)) Tryz.underlying9 rfl rfl (by first | rfl | omega) (by first | omega | (simp only [List.length_drop, List.length_take]; omega))) λa A↦?_
     refine sdm A λa A↦?_
     refine sct A (ef rfl rfl) (cutDigits_any (l := (l.drop (nDg r l)).drop 1) hr (by first | omega | (simp only [List.length_drop, List.length_take]; omega))) ?_
     rintro _ w24 ⟨rfl, hb23⟩
     replace V := V.call hb23
     refine ⟨_, rfl, ?_⟩
     intro a A
     refine sdm A λa A↦?_
     iterate 2 refine sdo A (qp (vs := [.string (bsL (((l.drop (nDg r l)).drop 1).take (nDg r ((l.drop (nDg r l)).drop 1)))), .string (bsL (((l.drop (nDg r l)).drop 1).drop (nDg r ((l.drop (nDg r l)).drop 1))))]) rfl rfl) λa A↦?_
     iterate 2 refine sda A λa A↦?_
     refine qa (hK22 _ _ (wsk fun K25 hK25 => wsk fun K26 hK26 => wrl (mv A rfl rfl rfl λa A↦?_)))
     rcases tf (decide (((l.drop (nDg r l)).drop 1).take (nDg r ((l.drop (nDg r l)).drop 1)) = ([] : List UInt8))) with hb27 | hb27
     ·
      have hb27' := of_decide_eq_true hb27
      have hb27n : (((l.drop (nDg r l)).drop 1).take (nDg r ((l.drop (nDg r l)).drop 1))).length = 0 := by rw [hb27']; rfl
      refine sdo (v := bV true) A (qb rfl rfl (fun w => (bin_eqlT (a := ((l.drop (nDg r l)).drop 1).take (nDg r ((l.drop (nDg r l)).drop 1))) (b := []) Tryz.underlying9 w).trans (by rw [hb27]; try rfl))) λa A↦?_
      refine qa (hK26 _ _ (ct A ?_))
      refine wsk fun K28 hK28 => wrl (sdo A (qn V RxC_isS_121 rfl 0 rfl (cs := [.int .u8 0, .string (bsL (l.take (nDg r l))), .string (bsL [])]) rfl rfl) λa A↦?_)
      refine sdm A λa A↦?_
      refine qi (us := [.int .u8 0, .string (bsL (l.take (nDg r l))), .string (bsL [])]) A V rfl rfl (qh rfl rfl rfl (by kernel_rfl) V 0 rfl rfl rfl) 0 rfl rfl rfl rfl ?_
      intro w29 V
      refine sda A λa A↦?_
      refine qa (hK28 _ _ (wp_ret (hret _ _ (en2 A rfl (qt V RxC_isS_121 rfl 0 rfl (cs := [.int .u8 0, .string (bsL (l.take (nDg r l))), .string (bsL [])]) rfl rfl) (qf rfl) ?_))))
      have hs : signB l = false := by unfold signB; first | (simp; omega) | (subst_vars; decide)
      have hu : unS l = l := by unfold unS; rw [hs]; rfl
      have e1 : sgB l = 0 := by unfold sgB; rw [hs]; try rfl
      have e2 : tpD r l = l.take (nDg r l) := by unfold tpD; rw [hu]
      have eq : qD r l = (l).drop (nDg r (l)) := by unfold qD; rw [hu]
      have hsl : slD r l = false := by
       unfold slD; rw [hu, eq]; first | exact sl_no1 (by assumption) | exact sl_no2 (by assumption) | exact sl_no3 (by omega) | exact sl_no4 (by assumption)
      have e3 : boD r l = [] := by unfold boD; rw [hsl]; rfl
      have e4 : reD r l = l.drop (nDg r l) := by unfold reD; rw [hsl, eq]; rfl
      exact ⟨by rw [e1, e2, e3, e4] <;> try rfl, V.bel⟩
     ·
      have hb27' := of_decide_eq_false hb27
      have hb27n : ¬ (((l.drop (nDg r l)).drop 1).take (nDg r ((l.drop (nDg r l)).drop 1))).length = 0 := fun k => hb27' (List.length_eq_zero_iff.1 k)
      refine sdo (v := bV false) A (qb rfl rfl (fun w => (bin_eqlT (a := ((l.drop (nDg r l)).drop 1).take (nDg r ((l.drop (nDg r l)).drop 1))) (b := []) Tryz.underlying9 w).trans (by rw [hb27]; try rfl))) λa A↦?_
      refine qa (hK26 _ _ (cf A ?_))
      refine wp_skip (hK25 _ _ (wsk fun K30 hK30 => wrl (mv A rfl rfl rfl λa A↦?_)))
      refine sdo (v := pA g2 2) A (qj RxC_fld_121_2 rfl rfl) λa A↦?_
      refine qi (us := [.int .u8 0, .string (bsL (l.take (nDg r l))), .string (bsL (((l.drop (nDg r l)).drop 1).take (nDg r ((l.drop (nDg r l)).drop 1))))]) A V rfl rfl (qh rfl rfl rfl (by kernel_rfl) V 0 rfl rfl rfl) 0 rfl rfl rfl rfl ?_
      intro w31 V
      refine qa (hK30 _ _ (wsk fun K32 hK32 => wrl (sdo A (qn V RxC_isS_121 rfl 0 rfl (cs := [.int .u8 0, .string (bsL (l.take (nDg r l))), .string (bsL (((l.drop (nDg r l)).drop 1).take (nDg r ((l.drop (nDg r l)).drop 1))))]) rfl rfl) λa A↦?_)))
      refine sdm A λa A↦?_
      refine qi (us := [.int .u8 0, .string (bsL (l.take (nDg r l))), .string (bsL (((l.drop (nDg r l)).drop 1).take (nDg r ((l.drop (nDg r l)).drop 1))))]) A V rfl rfl (qh rfl rfl rfl (by kernel_rfl) V 0 rfl rfl rfl) 0 rfl rfl rfl rfl ?_
      intro w33 V
      refine sda A λa A↦?_
      refine qa (hK32 _ _ (wp_ret (hret _ _ (en2 A rfl (qt V RxC_isS_121 rfl 0 rfl (cs := [.int .u8 0, .string (bsL (l.take (nDg r l))), .string (bsL (((l.drop (nDg r l)).drop 1).take (nDg r ((l.drop (nDg r l)).drop 1))))]) rfl rfl) (qf rfl) ?_))))
      have hs : signB l = false := by unfold signB; first | (simp; omega) | (subst_vars; decide)
      have hu : unS l = l := by unfold unS; rw [hs]; rfl
      have e1 : sgB l = 0 := by unfold sgB; rw [hs]; try rfl
      have e2 : tpD r l = l.take (nDg r l) := by unfold tpD; rw [hu]
      have eq : qD r l = (l).drop (nDg r (l)) := by unfold qD; rw [hu]
      have hsl : slD r l = true := by
       unfold slD; rw [hu, eq]; exact sl_yes (by assumption) (by omega) (by assumption)
      have e3 : boD r l = ((l.drop (nDg r l)).drop 1).take (nDg r ((l.drop (nDg r l)).drop 1)) := by unfold boD; rw [hsl, eq]; rfl
      have e4 : reD r l = ((l.drop (nDg r l)).drop 1).drop (nDg r ((l.drop (nDg r l)).drop 1)) := by unfold reD; rw [hsl, eq]; rfl
      exact ⟨by rw [e1, e2, e3, e4] <;> try rfl, V.bel⟩
 ·
  have hb6' := of_decide_eq_false hb6
  have hb6n : ¬ (l).length = 0 := fun k => hb6' (List.length_eq_zero_iff.1 k)
  refine sdo (v := bV true) A (qb rfl rfl (fun w => (bin_neqT (a := l) (b := []) Tryz.underlying9 w).trans (by rw [hb6]; try rfl))) λa A↦?_
  iterate 2 refine sdm A λa A↦?_
  refine sdo (v := .int .u8 (((btL l 0 : Nat) : Int))) A (does_ixT (s := l) (i := 0) Tryz.underlying9 rfl rfl (by first | rfl | omega) (by first | omega | (simp only [List.length_drop, List.length_take]; omega))) λa A↦?_
  rcases tf ((((btL l 0 : Nat) : Int) == 43)) with hb34 | hb34
  ·
   have hb34' := eq_of_beq hb34
   refine sdc A zf hb34 λa A↦?_
   refine sdm A λa A↦?_
   iterate 3 refine qg A rfl rfl rfl λa A↦?_
   iterate 2 refine sdk (v := bV true) A λa A↦?_
   refine qa (hK5 _ _ (ct A ?_))
   refine zj (S := fun w1 => St w w1 [] [] []) (by kernel_rfl) ?_
   replace V := V.drew
   refine atk A 0 rfl hP (V.partD (cn .slnil) 0 rfl (.refl _)) (λ_ V↦jf rfl) λa A↦?_
   refine atk (v := .int .u8 (((btL l 0 : Nat) : Int))) A 1 rfl hP (V.partD (cn .slnil) 0 rfl (.refl _)) (λ_ V↦does_ixT (s := l) (i := 0) Tryz.underlying9 rfl rfl (by first | rfl | omega) (by first | omega | (simp only [List.length_drop, List.length_take]; omega))) λa A↦?_
   refine atk A 2 rfl hP (V.partD (cn .slnil) 0 rfl (.refl _)) (λ_ V↦jf rfl) λa A↦?_
   refine atk (v := .string (bsL (l.drop 1))) A 3 rfl hP (V.partD (cn .slnil) 0 rfl (.refl _)) (λ_ V↦does_slFrom (p := 1) (s := l) Tryz.underlying9 rfl rfl (by first | rfl | omega) (by first | omega | (simp only [List.length_drop, List.length_take]; omega))) λa A↦?_
   refine atk (v := pA g2 0) A 4 rfl hP (V.partD (cn .slnil) 0 rfl (.refl _)) (λ_ V↦qj RxC_fld_121_0 rfl rfl) λa A↦?_
   refine zw (by kernel_rfl) (xf (us := [.int .u8 (((btL l 0 : Nat) : Int)), .string (bsL []), .string (bsL [])]) A V 5 rfl rfl rfl (qh rfl rfl rfl (by kernel_rfl) V 0 rfl rfl rfl) 0 rfl rfl rfl rfl ?_)
   intro w35 V
   refine ⟨(V.partD (cn .slnil) 0 rfl (.refl _)), ?_⟩
   refine atk A 6 rfl hP (V.partD (cn .slnil) 0 rfl (.refl _)) (λ_ V↦zd rfl) λa A↦?_
   refine qy (by kernel_rfl) ?_
   refine hK4 _ _ (wsk fun K36 hK36 => wrl ?_)
   iterate 2 refine sdm A λa A↦?_
   refine sct A (ef rfl rfl) (cutDigits_any (l := l.drop 1) hr (by first | omega | (simp only [List.length_drop, List.length_take]; omega))) ?_
   rintro _ w38 ⟨rfl, hb37⟩
   replace V := V.call hb37
   refine ⟨_, rfl, ?_⟩
   intro a A
   refine sdm A λa A↦?_
   iterate 2 refine sdo A (qp (vs := [.string (bsL ((l.drop 1).take (nDg r (l.drop 1)))), .string (bsL ((l.drop 1).drop (nDg r (l.drop 1))))]) rfl rfl) λa A↦?_
   refine sdo (v := pA g2 1) A (qj RxC_fld_121_1 rfl rfl) λa A↦?_
   refine qi (us := [.int .u8 (((btL l 0 : Nat) : Int)), .string (bsL ((l.drop 1).take (nDg r (l.drop 1)))), .string (bsL [])]) A V rfl rfl (qh rfl rfl rfl (by kernel_rfl) V 0 rfl rfl rfl) 0 rfl rfl rfl rfl ?_
   intro w39 V
   refine sda A λa A↦?_
   refine qa (hK36 _ _ (wsk fun K40 hK40 => wsk fun K41 hK41 => wrl (sdo (v := pA g2 1) A (qj RxC_fld_121_1 rfl rfl) λa A↦?_)))
   refine sdo A (jl V RxC_is1_9 rfl 0 rfl rfl) λa A↦?_
   rcases tf (decide ((l.drop 1).take (nDg r (l.drop 1)) = ([] : List UInt8))) with hb42 | hb42
   ·
    have hb42' := of_decide_eq_true hb42
    have hb42n : ((l.drop 1).take (nDg r (l.drop 1))).length = 0 := by rw [hb42']; rfl
    refine sdo (v := bV true) A (qb rfl rfl (fun w => (bin_eqlT (a := (l.drop 1).take (nDg r (l.drop 1))) (b := []) Tryz.underlying9 w).trans (by rw [hb42]; try rfl))) λa A↦?_
    refine sdm A λa A↦?_
    iterate 2 refine qg A rfl rfl rfl λa A↦?_
    refine sdk (v := bV true) A λa A↦?_
    refine sdm A λa A↦?_
    iterate 3 refine qg A rfl rfl rfl λa A↦?_
    refine sdk (v := bV true) A λa A↦?_
    refine qa (hK41 _ _ (ct A ?_))
    refine wsk fun K43 hK43 => wrl (sdo A (qn V RxC_isS_121 rfl 0 rfl (cs := [.int .u8 (((btL l 0 : Nat) : Int)), .string (bsL ((l.drop 1).take (nDg r (l.drop 1)))), .string (bsL [])]) rfl rfl) λa A↦?_)
    refine sdm A λa A↦?_
    refine qi (us := [.int .u8 (((btL l 0 : Nat) : Int)), .string (bsL ((l.drop 1).take (nDg r (l.drop 1)))), .string (bsL [])]) A V rfl rfl (qh rfl rfl rfl (by kernel_rfl) V 0 rfl rfl rfl) 0 rfl rfl rfl rfl ?_
    intro w44 V
    refine sda A λa A↦?_
    refine qa (hK43 _ _ (wp_ret (hret _ _ (en2 A rfl (qt V RxC_isS_121 rfl 0 rfl (cs := [.int .u8 (((btL l 0 : Nat) : Int)), .string (bsL ((l.drop 1).take (nDg r (l.drop 1)))), .string (bsL [])]) rfl rfl) (qf rfl) ?_))))
    have hs : signB l = true := by unfold signB; simp; omega
    have hu : unS l = l.drop 1 := by unfold unS; rw [hs]; rfl
    have e1 : sgB l = btL l 0 := by unfold sgB; rw [hs]; try rfl
    have e2 : tpD r l = (l.drop 1).take (nDg r (l.drop 1)) := by unfold tpD; rw [hu]
    have eq : qD r l = (l.drop 1).drop (nDg r (l.drop 1)) := by unfold qD; rw [hu]
    have hsl : slD r l = false := by
     unfold slD; rw [hu, eq]; first | exact sl_no1 (by assumption) | exact sl_no2 (by assumption) | exact sl_no3 (by omega) | exact sl_no4 (by assumption)
    have e3 : boD r l = [] := by unfold boD; rw [hsl]; rfl
    have e4 : reD r l = (l.drop 1).drop (nDg r (l.drop 1)) := by unfold reD; rw [hsl, eq]; rfl
    exact ⟨by rw [e1, e2, e3, e4] <;> try rfl, V.bel⟩
   ·
    have hb42' := of_decide_eq_false hb42
    have hb42n : ¬ ((l.drop 1).take (nDg r (l.drop 1))).length = 0 := fun k => hb42' (List.length_eq_zero_iff.1 k)
    refine sdo (v := bV false) A (qb rfl rfl (fun w => (bin_eqlT (a := (l.drop 1).take (nDg r (l.drop 1))) (b := []) Tryz.underlying9 w).trans (by rw [hb42]; try rfl))) λa A↦?_
    iterate 2 refine sdm A λa A↦?_
    rcases tf (decide ((l.drop 1).drop (nDg r (l.drop 1)) = ([] : List UInt8))) with hb45 | hb45
    ·
     have hb45' := of_decide_eq_true hb45
     have hb45n : ((l.drop 1).drop (nDg r (l.drop 1))).length = 0 := by rw [hb45']; rfl
     refine sdo (v := bV true) A (qb rfl rfl (fun w => (bin_eqlT (a := (l.drop 1).drop (nDg r (l.drop 1))) (b := []) Tryz.underlying9 w).trans (by rw [hb45]; try rfl))) λa A↦?_
     refine sdk (v := bV true) A λa A↦?_
     refine sdm A λa A↦?_
     iterate 3 refine qg A rfl rfl rfl λa A↦?_
     refine sdk (v := bV true) A λa A↦?_
     refine qa (hK41 _ _ (ct A ?_))
     refine wsk fun K46 hK46 => wrl (sdo A (qn V RxC_isS_121 rfl 0 rfl (cs := [.int .u8 (((btL l 0 : Nat) : Int)), .string (bsL ((l.drop 1).take (nDg r (l.drop 1)))), .string (bsL [])]) rfl rfl) λa A↦?_)
     refine sdm A λa A↦?_
     refine qi (us := [.int .u8 (((btL l 0 : Nat) : Int)), .string (bsL ((l.drop 1).take (nDg r (l.drop 1)))), .string (bsL [])]) A V rfl rfl (qh rfl rfl rfl (by kernel_rfl) V 0 rfl rfl rfl) 0 rfl rfl rfl rfl ?_
     intro w47 V
     refine sda A λa A↦?_
     refine qa (hK46 _ _ (wp_ret (hret _ _ (en2 A rfl (qt V RxC_isS_121 rfl 0 rfl (cs := [.int .u8 (((btL l 0 : Nat) : Int)), .string (bsL ((l.drop 1).take (nDg r (l.drop 1)))), .string (bsL [])]) rfl rfl) (qf rfl) ?_))))
     have hs : signB l = true := by unfold signB; simp; omega
     have hu : unS l = l.drop 1 := by unfold unS; rw [hs]; rfl
     have e1 : sgB l = btL l 0 := by unfold sgB; rw [hs]; try rfl
     have e2 : tpD r l = (l.drop 1).take (nDg r (l.drop 1)) := by unfold tpD; rw [hu]
     have eq : qD r l = (l.drop 1).drop (nDg r (l.drop 1)) := by unfold qD; rw [hu]
     have hsl : slD r l = false := by
      unfold slD; rw [hu, eq]; first | exact sl_no1 (by assumption) | exact sl_no2 (by assumption) | exact sl_no3 (by omega) | exact sl_no4 (by assumption)
     have e3 : boD r l = [] := by unfold boD; rw [hsl]; rfl
     have e4 : reD r l = (l.drop 1).drop (nDg r (l.drop 1)) := by unfold reD; rw [hsl, eq]; rfl
     exact ⟨by rw [e1, e2, e3, e4] <;> try rfl, V.bel⟩
    ·
     have hb45' := of_decide_eq_false hb45
     have hb45n : ¬ ((l.drop 1).drop (nDg r (l.drop 1))).length = 0 := fun k => hb45' (List.length_eq_zero_iff.1 k)
     refine sdo (v := bV false) A (qb rfl rfl (fun w => (bin_eqlT (a := (l.drop 1).drop (nDg r (l.drop 1))) (b := []) Tryz.underlying9 w).trans (by rw [hb45]; try rfl))) λa A↦?_
     refine sdk (v := bV false) A λa A↦?_
     iterate 2 refine sdm A λa A↦?_
     refine sdo (v := .int .u8 (((btL ((l.drop 1).drop (nDg r (l.drop 1))) 0 : Nat) : Int))) A (does_ixT (s := (l.drop 1).drop (nDg r (l.drop 1))) (i := 0) Tryz.underlying9 rfl rfl (by first | rfl | omega) (by first | omega | (simp only [List.length_drop, List.length_take]; omega))) λa A↦?_
     rcases tf ((((btL ((l.drop 1).drop (nDg r (l.drop 1))) 0 : Nat) : Int) != 47)) with hb48 | hb48
     ·
      have hb48' := bne_iff_ne.1 hb48
      refine sdc A za hb48 λa A↦?_
      refine sdk (v := bV true) A λa A↦?_
      refine qa (hK41 _ _ (ct A ?_))
      refine wsk fun K49 hK49 => wrl (sdo A (qn V RxC_isS_121 rfl 0 rfl (cs := [.int .u8 (((btL l 0 : Nat) : Int)), .string (bsL ((l.drop 1).take (nDg r (l.drop 1)))), .string (bsL [])]) rfl rfl) λa A↦?_)
      refine sdm A λa A↦?_
      refine qi (us := [.int .u8 (((btL l 0 : Nat) : Int)), .string (bsL ((l.drop 1).take (nDg r (l.drop 1)))), .string (bsL [])]) A V rfl rfl (qh rfl rfl rfl (by kernel_rfl) V 0 rfl rfl rfl) 0 rfl rfl rfl rfl ?_
      intro w50 V
      refine sda A λa A↦?_
      refine qa (hK49 _ _ (wp_ret (hret _ _ (en2 A rfl (qt V RxC_isS_121 rfl 0 rfl (cs := [.int .u8 (((btL l 0 : Nat) : Int)), .string (bsL ((l.drop 1).take (nDg r (l.drop 1)))), .string (bsL [])]) rfl rfl) (qf rfl) ?_))))
      have hs : signB l = true := by unfold signB; simp; omega
      have hu : unS l = l.drop 1 := by unfold unS; rw [hs]; rfl
      have e1 : sgB l = btL l 0 := by unfold sgB; rw [hs]; try rfl
      have e2 : tpD r l = (l.drop 1).take (nDg r (l.drop 1)) := by unfold tpD; rw [hu]
      have eq : qD r l = (l.drop 1).drop (nDg r (l.drop 1)) := by unfold qD; rw [hu]
      have hsl : slD r l = false := by
       unfold slD; rw [hu, eq]; first | exact sl_no1 (by assumption) | exact sl_no2 (by assumption) | exact sl_no3 (by omega) | exact sl_no4 (by assumption)
      have e3 : boD r l = [] := by unfold boD; rw [hsl]; rfl
      have e4 : reD r l = (l.drop 1).drop (nDg r (l.drop 1)) := by unfold reD; rw [hsl, eq]; rfl
      exact ⟨by rw [e1, e2, e3, e4] <;> try rfl, V.bel⟩
     ·
      have hb48' := bne_eq_false_iff_eq.1 hb48
      refine sdc A za hb48 λa A↦?_
      refine sdk (v := bV false) A λa A↦?_
      refine qa (hK41 _ _ (cf A ?_))
      refine wp_skip (hK40 _ _ (wsk fun K51 hK51 => wrl (mv A rfl rfl rfl λa A↦?_)))
      refine sdo (v := .string (bsL (((l.drop 1).drop (nDg r (l.drop 1))).drop 1))) A (does_slFrom (p := 1) (s := (l.drop 1).drop (nDg r (l.drop 1))) Tryz.underlying9 rfl rfl (by first | rfl | omega) (by first | omega | (simp only [List.length_drop, List.length_take]; omega))) λa A↦?_
      refine sdm A λa A↦?_
      refine sct A (ef rfl rfl) (cutDigits_any (l := ((l.drop 1).drop (nDg r (l.drop 1))).drop 1) hr (by first | omega | (simp only [List.length_drop, List.length_take]; omega))) ?_
      rintro _ w53 ⟨rfl, hb52⟩
      replace V := V.call hb52
      refine ⟨_, rfl, ?_⟩
      intro a A
      refine sdm A λa A↦?_
      iterate 2 refine sdo A (qp (vs := [.string (bsL ((((l.drop 1).drop (nDg r (l.drop 1))).drop 1).take (nDg r (((l.drop 1).drop (nDg r (l.drop 1))).drop 1)))), .string (bsL ((((l.drop 1).drop (nDg r (l.drop 1))).drop 1).drop (nDg r (((l.drop 1).drop (nDg r (l.drop 1))).drop 1))))]) rfl rfl) λa A↦?_
      iterate 2 refine sda A λa A↦?_
      refine qa (hK51 _ _ (wsk fun K54 hK54 => wsk fun K55 hK55 => wrl (mv A rfl rfl rfl λa A↦?_)))
      rcases tf (decide ((((l.drop 1).drop (nDg r (l.drop 1))).drop 1).take (nDg r (((l.drop 1).drop (nDg r (l.drop 1))).drop 1)) = ([] : List UInt8))) with hb56 | hb56
      ·
       have hb56' := of_decide_eq_true hb56
       have hb56n : ((((l.drop 1).drop (nDg r (l.drop 1))).drop 1).take (nDg r (((l.drop 1).drop (nDg r (l.drop 1))).drop 1))).length = 0 := by rw [hb56']; rfl
       refine sdo (v := bV true) A (qb rfl rfl (fun w => (bin_eqlT (a := (((l.drop 1).drop (nDg r (l.drop 1))).drop 1).take (nDg r (((l.drop 1).drop (nDg r (l.drop 1))).drop 1))) (b := []) Tryz.underlying9 w).trans (by rw [hb56]; try rfl))) λa A↦?_
       refine qa (hK55 _ _ (ct A ?_))
       refine wsk fun K57 hK57 => wrl (sdo A (qn V RxC_isS_121 rfl 0 rfl (cs := [.int .u8 (((btL l 0 : Nat) : Int)), .string (bsL ((l.drop 1).take (nDg r (l.drop 1)))), .string (bsL [])]) rfl rfl) λa A↦?_)
       refine sdm A λa A↦?_
       refine qi (us := [.int .u8 (((btL l 0 : Nat) : Int)), .string (bsL ((l.drop 1).take (nDg r (l.drop 1)))), .string (bsL [])]) A V rfl rfl (qh rfl rfl rfl (by kernel_rfl) V 0 rfl rfl rfl) 0 rfl rfl rfl rfl ?_
       intro w58 V
       refine sda A λa A↦?_
       refine qa (hK57 _ _ (wp_ret (hret _ _ (en2 A rfl (qt V RxC_isS_121 rfl 0 rfl (cs := [.int .u8 (((btL l 0 : Nat) : Int)), .string (bsL ((l.drop 1).take (nDg r (l.drop 1)))), .string (bsL [])]) rfl rfl) (qf rfl) ?_))))
       have hs : signB l = true := by unfold signB; simp; omega
       have hu : unS l = l.drop 1 := by unfold unS; rw [hs]; rfl
       have e1 : sgB l = btL l 0 := by unfold sgB; rw [hs]; try rfl
       have e2 : tpD r l = (l.drop 1).take (nDg r (l.drop 1)) := by unfold tpD; rw [hu]
       have eq : qD r l = (l.drop 1).drop (nDg r (l.drop 1)) := by unfold qD; rw [hu]
       have hsl : slD r l = false := by
        unfold slD; rw [hu, eq]; first | exact sl_no1 (by assumption) | exact sl_no2 (by assumption) | exact sl_no3 (by omega) | exact sl_no4 (by assumption)
       have e3 : boD r l = [] := by unfold boD; rw [hsl]; rfl
       have e4 : reD r l = (l.drop 1).drop (nDg r (l.drop 1)) := by unfold reD; rw [hsl, eq]; rfl
       exact ⟨by rw [e1, e2, e3, e4] <;> try rfl, V.bel⟩
      ·
       have hb56' := of_decide_eq_false hb56
       have hb56n : ¬ ((((l.drop 1).drop (nDg r (l.drop 1))).drop 1).take (nDg r (((l.drop 1).drop (nDg r (l.drop 1))).drop 1))).length = 0 := fun k => hb56' (List.length_eq_zero_iff.1 k)
       refine sdo (v := bV false) A (qb rfl rfl (fun w => (bin_eqlT (a := (((l.drop 1).drop (nDg r (l.drop 1))).drop 1).take (nDg r (((l.drop 1).drop (nDg r (l.drop 1))).drop 1))) (b := []) Tryz.underlying9 w).trans (by rw [hb56]; try rfl))) λa A↦?_
       refine qa (hK55 _ _ (cf A ?_))
       refine wp_skip (hK54 _ _ (wsk fun K59 hK59 => wrl (mv A rfl rfl rfl λa A↦?_)))
       refine sdo (v := pA g2 2) A (qj RxC_fld_121_2 rfl rfl) λa A↦?_
       refine qi (us := [.int .u8 (((btL l 0 : Nat) : Int)), .string (bsL ((l.drop 1).take (nDg r (l.drop 1)))), .string (bsL ((((l.drop 1).drop (nDg r (l.drop 1))).drop 1).take (nDg r (((l.drop 1).drop (nDg r (l.drop 1))).drop 1))))]) A V rfl rfl (qh rfl rfl rfl (by kernel_rfl) V 0 rfl rfl rfl) 0 rfl rfl rfl rfl ?_
       intro w60 V
       refine qa (hK59 _ _ (wsk fun K61 hK61 => wrl (sdo A (qn V RxC_isS_121 rfl 0 rfl (cs := [.int .u8 (((btL l 0 : Nat) : Int)), .string (bsL ((l.drop 1).take (nDg r (l.drop 1)))), .string (bsL ((((l.drop 1).drop (nDg r (l.drop 1))).drop 1).take (nDg r (((l.drop 1).drop (nDg r (l.drop 1))).drop 1))))]) rfl rfl) λa A↦?_)))
       refine sdm A λa A↦?_
       refine qi (us := [.int .u8 (((btL l 0 : Nat) : Int)), .string (bsL ((l.drop 1).take (nDg r (l.drop 1)))), .string (bsL ((((l.drop 1).drop (nDg r (l.drop 1))).drop 1).take (nDg r (((l.drop 1).drop (nDg r (l.drop 1))).drop 1))))]) A V rfl rfl (qh rfl rfl rfl (by kernel_rfl) V 0 rfl rfl rfl) 0 rfl rfl rfl rfl ?_
       intro w62 V
       refine sda A λa A↦?_
       refine qa (hK61 _ _ (wp_ret (hret _ _ (en2 A rfl (qt V RxC_isS_121 rfl 0 rfl (cs := [.int .u8 (((btL l 0 : Nat) : Int)), .string (bsL ((l.drop 1).take (nDg r (l.drop 1)))), .string (bsL ((((l.drop 1).drop (nDg r (l.drop 1))).drop 1).take (nDg r (((l.drop 1).drop (nDg r (l.drop 1))).drop 1))))]) rfl rfl) (qf rfl) ?_))))
       have hs : signB l = true := by unfold signB; simp; omega
       have hu : unS l = l.drop 1 := by unfold unS; rw [hs]; rfl
       have e1 : sgB l = btL l 0 := by unfold sgB; rw [hs]; try rfl
       have e2 : tpD r l = (l.drop 1).take (nDg r (l.drop 1)) := by unfold tpD; rw [hu]
       have eq : qD r l = (l.drop 1).drop (nDg r (l.drop 1)) := by unfold qD; rw [hu]
       have hsl : slD r l = true := by
        unfold slD; rw [hu, eq]; exact sl_yes (by assumption) (by omega) (by assumption)
       have e3 : boD r l = (((l.drop 1).drop (nDg r (l.drop 1))).drop 1).take (nDg r (((l.drop 1).drop (nDg r (l.drop 1))).drop 1)) := by unfold boD; rw [hsl, eq]; rfl
       have e4 : reD r l = (((l.drop 1).drop (nDg r (l.drop 1))).drop 1).drop (nDg r (((l.drop 1).drop (nDg r (l.drop 1))).drop 1)) := by unfold reD; rw [hsl, eq]; rfl
       exact ⟨by rw [e1, e2, e3, e4] <;> try rfl, V.bel⟩
  ·
   have hb34' := ne_of_beq_false hb34
   refine sdc A zf hb34 λa A↦?_
   iterate 2 refine sdm A λa A↦?_
   refine sdo (v := .int .u8 (((btL l 0 : Nat) : Int))) A (does_ixT (s := l) (i := 0) Tryz.underlying9 rfl rfl (by first | rfl | omega) (by first | omega | (simp only [List.length_drop, List.length_take]; omega))) λa A↦?_
   rcases tf ((((btL l 0 : Nat) : Int) == 45)) with hb63 | hb63
   ·
    have hb63' := eq_of_beq hb63
    refine sdc A zf hb63 λa A↦?_
    iterate 2 refine sdk (v := bV true) A λa A↦?_
    refine qa (hK5 _ _ (ct A ?_))
    refine zj (S := fun w1 => St w w1 [] [] []) (by kernel_rfl) ?_
    replace V := V.drew
    refine atk A 0 rfl hP (V.partD (cn .slnil) 0 rfl (.refl _)) (λ_ V↦jf rfl) λa A↦?_
    refine atk (v := .int .u8 (((btL l 0 : Nat) : Int))) A 1 rfl hP (V.partD (cn .slnil) 0 rfl (.refl _)) (λ_ V↦does_ixT (s := l) (i := 0) Tryz.underlying9 rfl rfl (by first | rfl | omega) (by first | omega | (simp only [List.length_drop, List.length_take]; omega))) λa A↦?_
    refine atk A 2 rfl hP (V.partD (cn .slnil) 0 rfl (.refl _)) (λ_ V↦jf rfl) λa A↦?_
    refine atk (v := .string (bsL (l.drop 1))) A 3 rfl hP (V.partD (cn .slnil) 0 rfl (.refl _)) (λ_ V↦does_slFrom (p := 1) (s := l) Tryz.underlying9 rfl rfl (by first | rfl | omega) (by first | omega | (simp only [List.length_drop, List.length_take]; omega))) λa A↦?_
    refine atk (v := pA g2 0) A 4 rfl hP (V.partD (cn .slnil) 0 rfl (.refl _)) (λ_ V↦qj RxC_fld_121_0 rfl rfl) λa A↦?_
    refine zw (by kernel_rfl) (xf (us := [.int .u8 (((btL l 0 : Nat) : Int)), .string (bsL []), .string (bsL [])]) A V 5 rfl rfl rfl (qh rfl rfl rfl (by kernel_rfl) V 0 rfl rfl rfl) 0 rfl rfl rfl rfl ?_)
    intro w64 V
    refine ⟨(V.partD (cn .slnil) 0 rfl (.refl _)), ?_⟩
    refine atk A 6 rfl hP (V.partD (cn .slnil) 0 rfl (.refl _)) (λ_ V↦zd rfl) λa A↦?_
    refine qy (by kernel_rfl) ?_
    refine hK4 _ _ (wsk fun K65 hK65 => wrl ?_)
    iterate 2 refine sdm A λa A↦?_
    refine sct A (ef rfl rfl) (cutDigits_any (l := l.drop 1) hr (by first | omega | (simp only [List.length_drop, List.length_take]; omega))) ?_
    rintro _ w67 ⟨rfl, hb66⟩
    replace V := V.call hb66
    refine ⟨_, rfl, ?_⟩
    intro a A
    refine sdm A λa A↦?_
    iterate 2 refine sdo A (qp (vs := [.string (bsL ((l.drop 1).take (nDg r (l.drop 1)))), .string (bsL ((l.drop 1).drop (nDg r (l.drop 1))))]) rfl rfl) λa A↦?_
    refine sdo (v := pA g2 1) A (qj RxC_fld_121_1 rfl rfl) λa A↦?_
    refine qi (us := [.int .u8 (((btL l 0 : Nat) : Int)), .string (bsL ((l.drop 1).take (nDg r (l.drop 1)))), .string (bsL [])]) A V rfl rfl (qh rfl rfl rfl (by kernel_rfl) V 0 rfl rfl rfl) 0 rfl rfl rfl rfl ?_
    intro w68 V
    refine sda A λa A↦?_
    refine qa (hK65 _ _ (wsk fun K69 hK69 => wsk fun K70 hK70 => wrl (sdo (v := pA g2 1) A (qj RxC_fld_121_1 rfl rfl) λa A↦?_)))
    refine sdo A (jl V RxC_is1_9 rfl 0 rfl rfl) λa A↦?_
    rcases tf (decide ((l.drop 1).take (nDg r (l.drop 1)) = ([] : List UInt8))) with hb71 | hb71
    ·
     have hb71' := of_decide_eq_true hb71
     have hb71n : ((l.drop 1).take (nDg r (l.drop 1))).length = 0 := by rw [hb71']; rfl
     refine sdo (v := bV true) A (qb rfl rfl (fun w => (bin_eqlT (a := (l.drop 1).take (nDg r (l.drop 1))) (b := []) Tryz.underlying9 w).trans (by rw [hb71]; try rfl))) λa A↦?_
     refine sdm A λa A↦?_
     iterate 2 refine qg A rfl rfl rfl λa A↦?_
     refine sdk (v := bV true) A λa A↦?_
     refine sdm A λa A↦?_
     iterate 3 refine qg A rfl rfl rfl λa A↦?_
     refine sdk (v := bV true) A λa A↦?_
     refine qa (hK70 _ _ (ct A ?_))
     refine wsk fun K72 hK72 => wrl (sdo A (qn V RxC_isS_121 rfl 0 rfl (cs := [.int .u8 (((btL l 0 : Nat) : Int)), .string (bsL ((l.drop 1).take (nDg r (l.drop 1)))), .string (bsL [])]) rfl rfl) λa A↦?_)
     refine sdm A λa A↦?_
     refine qi (us := [.int .u8 (((btL l 0 : Nat) : Int)), .string (bsL ((l.drop 1).take (nDg r (l.drop 1)))), .string (bsL [])]) A V rfl rfl (qh rfl rfl rfl (by kernel_rfl) V 0 rfl rfl rfl) 0 rfl rfl rfl rfl ?_
     intro w73 V
     refine sda A λa A↦?_
     refine qa (hK72 _ _ (wp_ret (hret _ _ (en2 A rfl (qt V RxC_isS_121 rfl 0 rfl (cs := [.int .u8 (((btL l 0 : Nat) : Int)), .string (bsL ((l.drop 1).take (nDg r (l.drop 1)))), .string (bsL [])]) rfl rfl) (qf rfl) ?_))))
     have hs : signB l = true := by unfold signB; simp; omega
     have hu : unS l = l.drop 1 := by unfold unS; rw [hs]; rfl
     have e1 : sgB l = btL l 0 := by unfold sgB; rw [hs]; try rfl
     have e2 : tpD r l = (l.drop 1).take (nDg r (l.drop 1)) := by unfold tpD; rw [hu]
     have eq : qD r l = (l.drop 1).drop (nDg r (l.drop 1)) := by unfold qD; rw [hu]
     have hsl : slD r l = false := by
      unfold slD; rw [hu, eq]; first | exact sl_no1 (by assumption) | exact sl_no2 (by assumption) | exact sl_no3 (by omega) | exact sl_no4 (by assumption)
     have e3 : boD r l = [] := by unfold boD; rw [hsl]; rfl
     have e4 : reD r l = (l.drop 1).drop (nDg r (l.drop 1)) := by unfold reD; rw [hsl, eq]; rfl
     exact ⟨by rw [e1, e2, e3, e4] <;> try rfl, V.bel⟩
    ·
     have hb71' := of_decide_eq_false hb71
     have hb71n : ¬ ((l.drop 1).take (nDg r (l.drop 1))).length = 0 := fun k => hb71' (List.length_eq_zero_iff.1 k)
     refine sdo (v := bV false) A (qb rfl rfl (fun w => (bin_eqlT (a := (l.drop 1).take (nDg r (l.drop 1))) (b := []) Tryz.underlying9 w).trans (by rw [hb71]; try rfl))) λa A↦?_
     iterate 2 refine sdm A λa A↦?_
     rcases tf (decide ((l.drop 1).drop (nDg r (l.drop 1)) = ([] : List UInt8))) with hb74 | hb74
     ·
      have hb74' := of_decide_eq_true hb74
      have hb74n : ((l.drop 1).drop (nDg r (l.drop 1))).length = 0 := by rw [hb74']; rfl
      refine sdo (v := bV true) A (qb rfl rfl (fun w => (bin_eqlT (a := (l.drop 1).drop (nDg r (l.drop 1))) (b := []) Tryz.underlying9 w).trans (by rw [hb74]; try rfl))) λa A↦?_
      refine sdk (v := bV true) A λa A↦?_
      refine sdm A λa A↦?_
      iterate 3 refine qg A rfl rfl rfl λa A↦?_
      refine sdk (v := bV true) A λa A↦?_
      refine qa (hK70 _ _ (ct A ?_))
      refine wsk fun K75 hK75 => wrl (sdo A (qn V RxC_isS_121 rfl 0 rfl (cs := [.int .u8 (((btL l 0 : Nat) : Int)), .string (bsL ((l.drop 1).take (nDg r (l.drop 1)))), .string (bsL [])]) rfl rfl) λa A↦?_)
      refine sdm A λa A↦?_
      refine qi (us := [.int .u8 (((btL l 0 : Nat) : Int)), .string (bsL ((l.drop 1).take (nDg r (l.drop 1)))), .string (bsL [])]) A V rfl rfl (qh rfl rfl rfl (by kernel_rfl) V 0 rfl rfl rfl) 0 rfl rfl rfl rfl ?_
      intro w76 V
      refine sda A λa A↦?_
      refine qa (hK75 _ _ (wp_ret (hret _ _ (en2 A rfl (qt V RxC_isS_121 rfl 0 rfl (cs := [.int .u8 (((btL l 0 : Nat) : Int)), .string (bsL ((l.drop 1).take (nDg r (l.drop 1)))), .string (bsL [])]) rfl rfl) (qf rfl) ?_))))
      have hs : signB l = true := by unfold signB; simp; omega
      have hu : unS l = l.drop 1 := by unfold unS; rw [hs]; rfl
      have e1 : sgB l = btL l 0 := by unfold sgB; rw [hs]; try rfl
      have e2 : tpD r l = (l.drop 1).take (nDg r (l.drop 1)) := by unfold tpD; rw [hu]
      have eq : qD r l = (l.drop 1).drop (nDg r (l.drop 1)) := by unfold qD; rw [hu]
      have hsl : slD r l = false := by
       unfold slD; rw [hu, eq]; first | exact sl_no1 (by assumption) | exact sl_no2 (by assumption) | exact sl_no3 (by omega) | exact sl_no4 (by assumption)
      have e3 : boD r l = [] := by unfold boD; rw [hsl]; rfl
      have e4 : reD r l = (l.drop 1).drop (nDg r (l.drop 1)) := by unfold reD; rw [hsl, eq]; rfl
      exact ⟨by rw [e1, e2, e3, e4] <;> try rfl, V.bel⟩
     ·
      have hb74' := of_decide_eq_false hb74
      have hb74n : ¬ ((l.drop 1).drop (nDg r (l.drop 1))).length = 0 := fun k => hb74' (List.length_eq_zero_iff.1 k)
      refine sdo (v := bV false) A (qb rfl rfl (fun w => (bin_eqlT (a := (l.drop 1).drop (nDg r (l.drop 1))) (b := []) Tryz.underlying9 w).trans (by rw [hb74]; try rfl))) λa A↦?_
      refine sdk (v := bV false) A λa A↦?_
      iterate 2 refine sdm A λa A↦?_
      refine sdo (v := .int .u8 (((btL ((l.drop 1).drop (nDg r (l.drop 1))) 0 : Nat) : Int))) A (does_ixT (s := (l.drop 1).drop (nDg r (l.drop 1))) (i := 0) Tryz.underlying9 rfl rfl (by first | rfl | omega) (by first | omega | (simp only [List.length_drop, List.length_take]; omega))) λa A↦?_
      rcases tf ((((btL ((l.drop 1).drop (nDg r (l.drop 1))) 0 : Nat) : Int) != 47)) with hb77 | hb77
      ·
       have hb77' := bne_iff_ne.1 hb77
       refine sdc A za hb77 λa A↦?_
       refine sdk (v := bV true) A λa A↦?_
       refine qa (hK70 _ _ (ct A ?_))
       refine wsk fun K78 hK78 => wrl (sdo A (qn V RxC_isS_121 rfl 0 rfl (cs := [.int .u8 (((btL l 0 : Nat) : Int)), .string (bsL ((l.drop 1).take (nDg r (l.drop 1)))), .string (bsL [])]) rfl rfl) λa A↦?_)
       refine sdm A λa A↦?_
       refine qi (us := [.int .u8 (((btL l 0 : Nat) : Int)), .string (bsL ((l.drop 1).take (nDg r (l.drop 1)))), .string (bsL [])]) A V rfl rfl (qh rfl rfl rfl (by kernel_rfl) V 0 rfl rfl rfl) 0 rfl rfl rfl rfl ?_
       intro w79 V
       refine sda A λa A↦?_
       refine qa (hK78 _ _ (wp_ret (hret _ _ (en2 A rfl (qt V RxC_isS_121 rfl 0 rfl (cs := [.int .u8 (((btL l 0 : Nat) : Int)), .string (bsL ((l.drop 1).take (nDg r (l.drop 1)))), .string (bsL [])]) rfl rfl) (qf rfl) ?_))))
       have hs : signB l = true := by unfold signB; simp; omega
       have hu : unS l = l.drop 1 := by unfold unS; rw [hs]; rfl
       have e1 : sgB l = btL l 0 := by unfold sgB; rw [hs]; try rfl
       have e2 : tpD r l = (l.drop 1).take (nDg r (l.drop 1)) := by unfold tpD; rw [hu]
       have eq : qD r l = (l.drop 1).drop (nDg r (l.drop 1)) := by unfold qD; rw [hu]
       have hsl : slD r l = false := by
        unfold slD; rw [hu, eq]; first | exact sl_no1 (by assumption) | exact sl_no2 (by assumption) | exact sl_no3 (by omega) | exact sl_no4 (by assumption)
       have e3 : boD r l = [] := by unfold boD; rw [hsl]; rfl
       have e4 : reD r l = (l.drop 1).drop (nDg r (l.drop 1)) := by unfold reD; rw [hsl, eq]; rfl
       exact ⟨by rw [e1, e2, e3, e4] <;> try rfl, V.bel⟩
      ·
       have hb77' := bne_eq_false_iff_eq.1 hb77
       refine sdc A za hb77 λa A↦?_
       refine sdk (v := bV false) A λa A↦?_
       refine qa (hK70 _ _ (cf A ?_))
       refine wp_skip (hK69 _ _ (wsk fun K80 hK80 => wrl (mv A rfl rfl rfl λa A↦?_)))
       refine sdo (v := .string (bsL (((l.drop 1).drop (nDg r (l.drop 1))).drop 1))) A (does_slFrom (p := 1) (s := (l.drop 1).drop (nDg r (l.drop 1))) Tryz.underlying9 rfl rfl (by first | rfl | omega) (by first | omega | (simp only [List.length_drop, List.length_take]; omega))) λa A↦?_
       refine sdm A λa A↦?_
       refine sct A (ef rfl rfl) (cutDigits_any (l := ((l.drop 1).drop (nDg r (l.drop 1))).drop 1) hr (by first | omega | (simp only [List.length_drop, List.length_take]; omega))) ?_
       rintro _ w82 ⟨rfl, hb81⟩
       replace V := V.call hb81
       refine ⟨_, rfl, ?_⟩
       intro a A
       refine sdm A λa A↦?_
       iterate 2 refine sdo A (qp (vs := [.string (bsL ((((l.drop 1).drop (nDg r (l.drop 1))).drop 1).take (nDg r (((l.drop 1).drop (nDg r (l.drop 1))).drop 1)))), .string (bsL ((((l.drop 1).drop (nDg r (l.drop 1))).drop 1).drop (nDg r (((l.drop 1).drop (nDg r (l.drop 1))).drop 1))))]) rfl rfl) λa A↦?_
       iterate 2 refine sda A λa A↦?_
       refine qa (hK80 _ _ (wsk fun K83 hK83 => wsk fun K84 hK84 => wrl (mv A rfl rfl rfl λa A↦?_)))
       rcases tf (decide ((((l.drop 1).drop (nDg r (l.drop 1))).drop 1).take (nDg r (((l.drop 1).drop (nDg r (l.drop 1))).drop 1)) = ([] : List UInt8))) with hb85 | hb85
       ·
        have hb85' := of_decide_eq_true hb85
        have hb85n : ((((l.drop 1).drop (nDg r (l.drop 1))).drop 1).take (nDg r (((l.drop 1).drop (nDg r (l.drop 1))).drop 1))).length = 0 := by rw [hb85']; rfl
        refine sdo (v := bV true) A (qb rfl rfl (fun w => (bin_eqlT (a := (((l.drop 1).drop (nDg r (l.drop 1))).drop 1).take (nDg r (((l.drop 1).drop (nDg r (l.drop 1))).drop 1))) (b := []) Tryz.underlying9 w).trans (by rw [hb85]; try rfl))) λa A↦?_
        refine qa (hK84 _ _ (ct A ?_))
        refine wsk fun K86 hK86 => wrl (sdo A (qn V RxC_isS_121 rfl 0 rfl (cs := [.int .u8 (((btL l 0 : Nat) : Int)), .string (bsL ((l.drop 1).take (nDg r (l.drop 1)))), .string (bsL [])]) rfl rfl) λa A↦?_)
        refine sdm A λa A↦?_
        refine qi (us := [.int .u8 (((btL l 0 : Nat) : Int)), .string (bsL ((l.drop 1).take (nDg r (l.drop 1)))), .string (bsL [])]) A V rfl rfl (qh rfl rfl rfl (by kernel_rfl) V 0 rfl rfl rfl) 0 rfl rfl rfl rfl ?_
        intro w87 V
        refine sda A λa A↦?_
        refine qa (hK86 _ _ (wp_ret (hret _ _ (en2 A rfl (qt V RxC_isS_121 rfl 0 rfl (cs := [.int .u8 (((btL l 0 : Nat) : Int)), .string (bsL ((l.drop 1).take (nDg r (l.drop 1)))), .string (bsL [])]) rfl rfl) (qf rfl) ?_))))
        have hs : signB l = true := by unfold signB; simp; omega
        have hu : unS l = l.drop 1 := by unfold unS; rw [hs]; rfl
        have e1 : sgB l = btL l 0 := by unfold sgB; rw [hs]; try rfl
        have e2 : tpD r l = (l.drop 1).take (nDg r (l.drop 1)) := by unfold tpD; rw [hu]
        have eq : qD r l = (l.drop 1).drop (nDg r (l.drop 1)) := by unfold qD; rw [hu]
        have hsl : slD r l = false := by
         unfold slD; rw [hu, eq]; first | exact sl_no1 (by assumption) | exact sl_no2 (by assumption) | exact sl_no3 (by omega) | exact sl_no4 (by assumption)
        have e3 : boD r l = [] := by unfold boD; rw [hsl]; rfl
        have e4 : reD r l = (l.drop 1).drop (nDg r (l.drop 1)) := by unfold reD; rw [hsl, eq]; rfl
        exact ⟨by rw [e1, e2, e3, e4] <;> try rfl, V.bel⟩
       ·
        have hb85' := of_decide_eq_false hb85
        have hb85n : ¬ ((((l.drop 1).drop (nDg r (l.drop 1))).drop 1).take (nDg r (((l.drop 1).drop (nDg r (l.drop 1))).drop 1))).length = 0 := fun k => hb85' (List.length_eq_zero_iff.1 k)
        refine sdo (v := bV false) A (qb rfl rfl (fun w => (bin_eqlT (a := (((l.drop 1).drop (nDg r (l.drop 1))).drop 1).take (nDg r (((l.drop 1).drop (nDg r (l.drop 1))).drop 1))) (b := []) Tryz.underlying9 w).trans (by rw [hb85]; try rfl))) λa A↦?_
        refine qa (hK84 _ _ (cf A ?_))
        refine wp_skip (hK83 _ _ (wsk fun K88 hK88 => wrl (mv A rfl rfl rfl λa A↦?_)))
        refine sdo (v := pA g2 2) A (qj RxC_fld_121_2 rfl rfl) λa A↦?_
        refine qi (us := [.int .u8 (((btL l 0 : Nat) : Int)), .string (bsL ((l.drop 1).take (nDg r (l.drop 1)))), .string (bsL ((((l.drop 1).drop (nDg r (l.drop 1))).drop 1).take (nDg r (((l.drop 1).drop (nDg r (l.drop 1))).drop 1))))]) A V rfl rfl (qh rfl rfl rfl (by kernel_rfl) V 0 rfl rfl rfl) 0 rfl rfl rfl rfl ?_
        intro w89 V
        refine qa (hK88 _ _ (wsk fun K90 hK90 => wrl (sdo A (qn V RxC_isS_121 rfl 0 rfl (cs := [.int .u8 (((btL l 0 : Nat) : Int)), .string (bsL ((l.drop 1).take (nDg r (l.drop 1)))), .string (bsL ((((l.drop 1).drop (nDg r (l.drop 1))).drop 1).take (nDg r (((l.drop 1).drop (nDg r (l.drop 1))).drop 1))))]) rfl rfl) λa A↦?_)))
        refine sdm A λa A↦?_
        refine qi (us := [.int .u8 (((btL l 0 : Nat) : Int)), .string (bsL ((l.drop 1).take (nDg r (l.drop 1)))), .string (bsL ((((l.drop 1).drop (nDg r (l.drop 1))).drop 1).take (nDg r (((l.drop 1).drop (nDg r (l.drop 1))).drop 1))))]) A V rfl rfl (qh rfl rfl rfl (by kernel_rfl) V 0 rfl rfl rfl) 0 rfl rfl rfl rfl ?_
        intro w91 V
        refine sda A λa A↦?_
        refine qa (hK90 _ _ (wp_ret (hret _ _ (en2 A rfl (qt V RxC_isS_121 rfl 0 rfl (cs := [.int .u8 (((btL l 0 : Nat) : Int)), .string (bsL ((l.drop 1).take (nDg r (l.drop 1)))), .string (bsL ((((l.drop 1).drop (nDg r (l.drop 1))).drop 1).take (nDg r (((l.drop 1).drop (nDg r (l.drop 1))).drop 1))))]) rfl rfl) (qf rfl) ?_))))
        have hs : signB l = true := by unfold signB; simp; omega
        have hu : unS l = l.drop 1 := by unfold unS; rw [hs]; rfl
        have e1 : sgB l = btL l 0 := by unfold sgB; rw [hs]; try rfl
        have e2 : tpD r l = (l.drop 1).take (nDg r (l.drop 1)) := by unfold tpD; rw [hu]
        have eq : qD r l = (l.drop 1).drop (nDg r (l.drop 1)) := by unfold qD; rw [hu]
        have hsl : slD r l = true := by
         unfold slD; rw [hu, eq]; exact sl_yes (by assumption) (by omega) (by assumption)
        have e3 : boD r l = (((l.drop 1).drop (nDg r (l.drop 1))).drop 1).take (nDg r (((l.drop 1).drop (nDg r (l.drop 1))).drop 1)) := by unfold boD; rw [hsl, eq]; rfl
        have e4 : reD r l = (((l.drop 1).drop (nDg r (l.drop 1))).drop 1).drop (nDg r (((l.drop 1).drop (nDg r (l.drop 1))).drop 1)) := by unfold reD; rw [hsl, eq]; rfl
        exact ⟨by rw [e1, e2, e3, e4] <;> try rfl, V.bel⟩
   ·
    have hb63' := ne_of_beq_false hb63
    refine sdc A zf hb63 λa A↦?_
    iterate 2 refine sdk (v := bV false) A λa A↦?_
    refine qa (hK5 _ _ (cf A ?_))
    refine wp_skip (hK4 _ _ (wsk fun K92 hK92 => wrl ?_))
    iterate 2 refine sdm A λa A↦?_
    refine sct A (ef rfl rfl) (cutDigits_any (l := l) hr (by first | omega | (simp only [List.length_drop, List.length_take]; omega))) ?_
    rintro _ w94 ⟨rfl, hb93⟩
    replace V := V.call hb93
    refine ⟨_, rfl, ?_⟩
    intro a A
    refine sdm A λa A↦?_
    iterate 2 refine sdo A (qp (vs := [.string (bsL (l.take (nDg r l))), .string (bsL (l.drop (nDg r l)))]) rfl rfl) λa A↦?_
    refine sdo (v := pA g2 1) A (qj RxC_fld_121_1 rfl rfl) λa A↦?_
    refine qi (us := [.int .u8 0, .string (bsL (l.take (nDg r l))), .string (bsL [])]) A V rfl rfl (qh rfl rfl rfl (by kernel_rfl) V 0 rfl rfl rfl) 0 rfl rfl rfl rfl ?_
    intro w95 V
    refine sda A λa A↦?_
    refine qa (hK92 _ _ (wsk fun K96 hK96 => wsk fun K97 hK97 => wrl (sdo (v := pA g2 1) A (qj RxC_fld_121_1 rfl rfl) λa A↦?_)))
    refine sdo A (jl V RxC_is1_9 rfl 0 rfl rfl) λa A↦?_
    rcases tf (decide (l.take (nDg r l) = ([] : List UInt8))) with hb98 | hb98
    ·
     have hb98' := of_decide_eq_true hb98
     have hb98n : (l.take (nDg r l)).length = 0 := by rw [hb98']; rfl
     refine sdo (v := bV true) A (qb rfl rfl (fun w => (bin_eqlT (a := l.take (nDg r l)) (b := []) Tryz.underlying9 w).trans (by rw [hb98]; try rfl))) λa A↦?_
     refine sdm A λa A↦?_
     iterate 2 refine qg A rfl rfl rfl λa A↦?_
     refine sdk (v := bV true) A λa A↦?_
     refine sdm A λa A↦?_
     iterate 3 refine qg A rfl rfl rfl λa A↦?_
     refine sdk (v := bV true) A λa A↦?_
     refine qa (hK97 _ _ (ct A ?_))
     refine wsk fun K99 hK99 => wrl (sdo A (qn V RxC_isS_121 rfl 0 rfl (cs := [.int .u8 0, .string (bsL (l.take (nDg r l))), .string (bsL [])]) rfl rfl) λa A↦?_)
     refine sdm A λa A↦?_
     refine qi (us := [.int .u8 0, .string (bsL (l.take (nDg r l))), .string (bsL [])]) A V rfl rfl (qh rfl rfl rfl (by kernel_rfl) V 0 rfl rfl rfl) 0 rfl rfl rfl rfl ?_
     intro w100 V
     refine sda A λa A↦?_
     refine qa (hK99 _ _ (wp_ret (hret _ _ (en2 A rfl (qt V RxC_isS_121 rfl 0 rfl (cs := [.int .u8 0, .string (bsL (l.take (nDg r l))), .string (bsL [])]) rfl rfl) (qf rfl) ?_))))
     have hs : signB l = false := by unfold signB; first | (simp; omega) | (subst_vars; decide)
     have hu : unS l = l := by unfold unS; rw [hs]; rfl
     have e1 : sgB l = 0 := by unfold sgB; rw [hs]; try rfl
     have e2 : tpD r l = l.take (nDg r l) := by unfold tpD; rw [hu]
     have eq : qD r l = (l).drop (nDg r (l)) := by unfold qD; rw [hu]
     have hsl : slD r l = false := by
      unfold slD; rw [hu, eq]; first | exact sl_no1 (by assumption) | exact sl_no2 (by assumption) | exact sl_no3 (by omega) | exact sl_no4 (by assumption)
     have e3 : boD r l = [] := by unfold boD; rw [hsl]; rfl
     have e4 : reD r l = l.drop (nDg r l) := by unfold reD; rw [hsl, eq]; rfl
     exact ⟨by rw [e1, e2, e3, e4] <;> try rfl, V.bel⟩
    ·
     have hb98' := of_decide_eq_false hb98
     have hb98n : ¬ (l.take (nDg r l)).length = 0 := fun k => hb98' (List.length_eq_zero_iff.1 k)
     refine sdo (v := bV false) A (qb rfl rfl (fun w => (bin_eqlT (a := l.take (nDg r l)) (b := []) Tryz.underlying9 w).trans (by rw [hb98]; try rfl))) λa A↦?_
     iterate 2 refine sdm A λa A↦?_
     rcases tf (decide (l.drop (nDg r l) = ([] : List UInt8))) with hb101 | hb101
     ·
      have hb101' := of_decide_eq_true hb101
      have hb101n : (l.drop (nDg r l)).length = 0 := by rw [hb101']; rfl
      refine sdo (v := bV true) A (qb rfl rfl (fun w => (bin_eqlT (a := l.drop (nDg r l)) (b := []) Tryz.underlying9 w).trans (by rw [hb101]; try rfl))) λa A↦?_
      refine sdk (v := bV true) A λa A↦?_
      refine sdm A λa A↦?_
      iterate 3 refine qg A rfl rfl rfl λa A↦?_
      refine sdk (v := bV true) A λa A↦?_
      refine qa (hK97 _ _ (ct A ?_))
      refine wsk fun K102 hK102 => wrl (sdo A (qn V RxC_isS_121 rfl 0 rfl (cs := [.int .u8 0, .string (bsL (l.take (nDg r l))), .string (bsL [])]) rfl rfl) λa A↦?_)
      refine sdm A λa A↦?_
      refine qi (us := [.int .u8 0, .string (bsL (l.take (nDg r l))), .string (bsL [])]) A V rfl rfl (qh rfl rfl rfl (by kernel_rfl) V 0 rfl rfl rfl) 0 rfl rfl rfl rfl ?_
      intro w103 V
      refine sda A λa A↦?_
      refine qa (hK102 _ _ (wp_ret (hret _ _ (en2 A rfl (qt V RxC_isS_121 rfl 0 rfl (cs := [.int .u8 0, .string (bsL (l.take (nDg r l))), .string (bsL [])]) rfl rfl) (qf rfl) ?_))))
      have hs : signB l = false := by unfold signB; first | (simp; omega) | (subst_vars; decide)
      have hu : unS l = l := by unfold unS; rw [hs]; rfl
      have e1 : sgB l = 0 := by unfold sgB; rw [hs]; try rfl
      have e2 : tpD r l = l.take (nDg r l) := by unfold tpD; rw [hu]
      have eq : qD r l = (l).drop (nDg r (l)) := by unfold qD; rw [hu]
      have hsl : slD r l = false := by
       unfold slD; rw [hu, eq]; first | exact sl_no1 (by assumption) | exact sl_no2 (by assumption) | exact sl_no3 (by omega) | exact sl_no4 (by assumption)
      have e3 : boD r l = [] := by unfold boD; rw [hsl]; rfl
      have e4 : reD r l = l.drop (nDg r l) := by unfold reD; rw [hsl, eq]; rfl
      exact ⟨by rw [e1, e2, e3, e4] <;> try rfl, V.bel⟩
     ·
      have hb101' := of_decide_eq_false hb101
      have hb101n : ¬ (l.drop (nDg r l)).length = 0 := fun k => hb101' (List.length_eq_zero_iff.1 k)
      refine sdo (v := bV false) A (qb rfl rfl (fun w => (bin_eqlT (a := l.drop (nDg r l)) (b := []) Tryz.underlying9 w).trans (by rw [hb101]; try rfl))) λa A↦?_
      refine sdk (v := bV false) A λa A↦?_
      iterate 2 refine sdm A λa A↦?_
      refine sdo (v := .int .u8 (((btL (l.drop (nDg r l)) 0 : Nat) : Int))) A (does_ixT (s := l.drop (nDg r l)) (i := 0) Tryz.underlying9 rfl rfl (by first | rfl | omega) (by first | omega | (simp only [List.length_drop, List.length_take]; omega))) λa A↦?_
      rcases tf ((((btL (l.drop (nDg r l)) 0 : Nat) : Int) != 47)) with hb104 | hb104
      ·
       have hb104' := bne_iff_ne.1 hb104
       refine sdc A za hb104 λa A↦?_
       refine sdk (v := bV true) A λa A↦?_
       refine qa (hK97 _ _ (ct A ?_))
       refine wsk fun K105 hK105 => wrl (sdo A (qn V RxC_isS_121 rfl 0 rfl (cs := [.int .u8 0, .string (bsL (l.take (nDg r l))), .string (bsL [])]) rfl rfl) λa A↦?_)
       refine sdm A λa A↦?_
       refine qi (us := [.int .u8 0, .string (bsL (l.take (nDg r l))), .string (bsL [])]) A V rfl rfl (qh rfl rfl rfl (by kernel_rfl) V 0 rfl rfl rfl) 0 rfl rfl rfl rfl ?_
       intro w106 V
       refine sda A λa A↦?_
       refine qa (hK105 _ _ (wp_ret (hret _ _ (en2 A rfl (qt V RxC_isS_121 rfl 0 rfl (cs := [.int .u8 0, .string (bsL (l.take (nDg r l))), .string (bsL [])]) rfl rfl) (qf rfl) ?_))))
       have hs : signB l = false := by unfold signB; first | (simp; omega) | (subst_vars; decide)
       have hu : unS l = l := by unfold unS; rw [hs]; rfl
       have e1 : sgB l = 0 := by unfold sgB; rw [hs]; try rfl
       have e2 : tpD r l = l.take (nDg r l) := by unfold tpD; rw [hu]
       have eq : qD r l = (l).drop (nDg r (l)) := by unfold qD; rw [hu]
       have hsl : slD r l = false := by
        unfold slD; rw [hu, eq]; first | exact sl_no1 (by assumption) | exact sl_no2 (by assumption) | exact sl_no3 (by omega) | exact sl_no4 (by assumption)
       have e3 : boD r l = [] := by unfold boD; rw [hsl]; rfl
       have e4 : reD r l = l.drop (nDg r l) := by unfold reD; rw [hsl, eq]; rfl
       exact ⟨by rw [e1, e2, e3, e4] <;> try rfl, V.bel⟩
      ·
       have hb104' := bne_eq_false_iff_eq.1 hb104
       refine sdc A za hb104 λa A↦?_
       refine sdk (v := bV false) A λa A↦?_
       refine qa (hK97 _ _ (cf A ?_))
       refine wp_skip (hK96 _ _ (wsk fun K107 hK107 => wrl (mv A rfl rfl rfl λa A↦?_)))
       refine sdo (v := .string (bsL ((l.drop (nDg r l)).drop 1))) A (does_slFrom (p := 1) (s := l.drop (nDg r l)) Tryz.underlying9 rfl rfl (by first | rfl | omega) (by first | omega | (simp only [List.length_drop, List.length_take]; omega))) λa A↦?_
       refine sdm A λa A↦?_
       refine sct A (ef rfl rfl) (cutDigits_any (l := (l.drop (nDg r l)).drop 1) hr (by first | omega | (simp only [List.length_drop, List.length_take]; omega))) ?_
       rintro _ w109 ⟨rfl, hb108⟩
       replace V := V.call hb108
       refine ⟨_, rfl, ?_⟩
       intro a A
       refine sdm A λa A↦?_
       iterate 2 refine sdo A (qp (vs := [.string (bsL (((l.drop (nDg r l)).drop 1).take (nDg r ((l.drop (nDg r l)).drop 1)))), .string (bsL (((l.drop (nDg r l)).drop 1).drop (nDg r ((l.drop (nDg r l)).drop 1))))]) rfl rfl) λa A↦?_
       iterate 2 refine sda A λa A↦?_
       refine qa (hK107 _ _ (wsk fun K110 hK110 => wsk fun K111 hK111 => wrl (mv A rfl rfl rfl λa A↦?_)))
       rcases tf (decide (((l.drop (nDg r l)).drop 1).take (nDg r ((l.drop (nDg r l)).drop 1)) = ([] : List UInt8))) with hb112 | hb112
       ·
        have hb112' := of_decide_eq_true hb112
        have hb112n : (((l.drop (nDg r l)).drop 1).take (nDg r ((l.drop (nDg r l)).drop 1))).length = 0 := by rw [hb112']; rfl
        refine sdo (v := bV true) A (qb rfl rfl (fun w => (bin_eqlT (a := ((l.drop (nDg r l)).drop 1).take (nDg r ((l.drop (nDg r l)).drop 1))) (b := []) Tryz.underlying9 w).trans (by rw [hb112]; try rfl))) λa A↦?_
        refine qa (hK111 _ _ (ct A ?_))
        refine wsk fun K113 hK113 => wrl (sdo A (qn V RxC_isS_121 rfl 0 rfl (cs := [.int .u8 0, .string (bsL (l.take (nDg r l))), .string (bsL [])]) rfl rfl) λa A↦?_)
        refine sdm A λa A↦?_
        refine qi (us := [.int .u8 0, .string (bsL (l.take (nDg r l))), .string (bsL [])]) A V rfl rfl (qh rfl rfl rfl (by kernel_rfl) V 0 rfl rfl rfl) 0 rfl rfl rfl rfl ?_
        intro w114 V
        refine sda A λa A↦?_
        refine qa (hK113 _ _ (wp_ret (hret _ _ (en2 A rfl (qt V RxC_isS_121 rfl 0 rfl (cs := [.int .u8 0, .string (bsL (l.take (nDg r l))), .string (bsL [])]) rfl rfl) (qf rfl) ?_))))
        have hs : signB l = false := by unfold signB; first | (simp; omega) | (subst_vars; decide)
        have hu : unS l = l := by unfold unS; rw [hs]; rfl
        have e1 : sgB l = 0 := by unfold sgB; rw [hs]; try rfl
        have e2 : tpD r l = l.take (nDg r l) := by unfold tpD; rw [hu]
        have eq : qD r l = (l).drop (nDg r (l)) := by unfold qD; rw [hu]
        have hsl : slD r l = false := by
         unfold slD; rw [hu, eq]; first | exact sl_no1 (by assumption) | exact sl_no2 (by assumption) | exact sl_no3 (by omega) | exact sl_no4 (by assumption)
        have e3 : boD r l = [] := by unfold boD; rw [hsl]; rfl
        have e4 : reD r l = l.drop (nDg r l) := by unfold reD; rw [hsl, eq]; rfl
        exact ⟨by rw [e1, e2, e3, e4] <;> try rfl, V.bel⟩
       ·
        have hb112' := of_decide_eq_false hb112
        have hb112n : ¬ (((l.drop (nDg r l)).drop 1).take (nDg r ((l.drop (nDg r l)).drop 1))).length = 0 := fun k => hb112' (List.length_eq_zero_iff.1 k)
        refine sdo (v := bV false) A (qb rfl rfl (fun w => (bin_eqlT (a := ((l.drop (nDg r l)).drop 1).take (nDg r ((l.drop (nDg r l)).drop 1))) (b := []) Tryz.underlying9 w).trans (by rw [hb112]; try rfl))) λa A↦?_
        refine qa (hK111 _ _ (cf A ?_))
        refine wp_skip (hK110 _ _ (wsk fun K115 hK115 => wrl (mv A rfl rfl rfl λa A↦?_)))
        refine sdo (v := pA g2 2) A (qj RxC_fld_121_2 rfl rfl) λa A↦?_
        refine qi (us := [.int .u8 0, .string (bsL (l.take (nDg r l))), .string (bsL (((l.drop (nDg r l)).drop 1).take (nDg r ((l.drop (nDg r l)).drop 1))))]) A V rfl rfl (qh rfl rfl rfl (by kernel_rfl) V 0 rfl rfl rfl) 0 rfl rfl rfl rfl ?_
        intro w116 V
        refine qa (hK115 _ _ (wsk fun K117 hK117 => wrl (sdo A (qn V RxC_isS_121 rfl 0 rfl (cs := [.int .u8 0, .string (bsL (l.take (nDg r l))), .string (bsL (((l.drop (nDg r l)).drop 1).take (nDg r ((l.drop (nDg r l)).drop 1))))]) rfl rfl) λa A↦?_)))
        refine sdm A λa A↦?_
        refine qi (us := [.int .u8 0, .string (bsL (l.take (nDg r l))), .string (bsL (((l.drop (nDg r l)).drop 1).take (nDg r ((l.drop (nDg r l)).drop 1))))]) A V rfl rfl (qh rfl rfl rfl (by kernel_rfl) V 0 rfl rfl rfl) 0 rfl rfl rfl rfl ?_
        intro w118 V
        refine sda A λa A↦?_
        refine qa (hK117 _ _ (wp_ret (hret _ _ (en2 A rfl (qt V RxC_isS_121 rfl 0 rfl (cs := [.int .u8 0, .string (bsL (l.take (nDg r l))), .string (bsL (((l.drop (nDg r l)).drop 1).take (nDg r ((l.drop (nDg r l)).drop 1))))]) rfl rfl) (qf rfl) ?_))))
        have hs : signB l = false := by unfold signB; first | (simp; omega) | (subst_vars; decide)
        have hu : unS l = l := by unfold unS; rw [hs]; rfl
        have e1 : sgB l = 0 := by unfold sgB; rw [hs]; try rfl
        have e2 : tpD r l = l.take (nDg r l) := by unfold tpD; rw [hu]
        have eq : qD r l = (l).drop (nDg r (l)) := by unfold qD; rw [hu]
        have hsl : slD r l = true := by
         unfold slD; rw [hu, eq]; exact sl_yes (by assumption) (by omega) (by assumption)
        have e3 : boD r l = ((l.drop (nDg r l)).drop 1).take (nDg r ((l.drop (nDg r l)).drop 1)) := by unfold boD; rw [hsl, eq]; rfl
        have e4 : reD r l = ((l.drop (nDg r l)).drop 1).drop (nDg r ((l.drop (nDg r l)).drop 1)) := by unfold reD; rw [hsl, eq]; rfl
        exact ⟨by rw [e1, e2, e3, e4] <;> try rfl, V.bel⟩
end Go.Proofs.YtclkfideaameoaaGreatDoor
