/- The walk of the law of scripts over a store. What a bound on the bulk of what is read gives. Transcoders that come in as arguments. Rows of bytes that come in as arguments; the first part of a row, and of a text. Data that come in as arguments. Record types, and scripts over a store, that come in as arguments. Scripts over a store that come in as arguments. -/
import Derived.Test.YtokgmpjblnpjmaaGreatDoorPrecord11h
import Derived.Test.YtokgmpjblnpjmaaGreatDoorRows
import Derived.Test.YtokgmpjblnpjmaaGreatDoorPrecord11d
import Derived.Test.YtokgmpjblnpjmaaGreatDoorProg
import Derived.WalkKit
import Derived.ProofKit
import Derived.OpenShut
import Derived.ChangeOld
import Derived.Lib.SmallJoins
import Derived.Deep.Strs
import Derived.Test.YtokgmpjblnpjmaaGreatDoorPrecord11c
import Derived.Test.YtokgmpjblnpjmaaGreatDoorPrecord11f
import Derived.Deep.Slices
import Derived.Deep.SlicePairs
import Derived.DataElems
namespace Go.Proofs.YtokgmpjblnpjmaaGreatDoor.G
open Go.RowKit
set_option linter.unusedVariables false
set_option linter.unusedSimpArgs false
set_option maxRecDepth 100000
theorem jcd {ks : List TK} {rr : List (Nat × List Tr)} (hW : WS ks rr) (t : Int) : (flS ks t).1 ≤ 16 := by
 unfold flS
 split
 ·
  rename_i h
  have := hW.cnt16 (ke h).2
  show ((cnt ks t : Nat) : Int) ≤ 16
  omega
 ·
  show (0 : Int) ≤ 16
  decide
set_option maxHeartbeats 4000000 in
theorem qjg {w : World} (hT : Tabs8 w) {so : Option Addr} {ca : Nat} {ops : List Ro} (hops : Rops w so ops) (hol : ops.length ≤ 1048576) : Calls Tryz.prog 3 #[.slice so ops.length ca] w fun e w' => e = .returned (bV true) ∧ Below w.heap.size w w' := by
 have M : Mg w w ([]) := Mg.start w
 refine qs (l := [(0, .slice so ops.length ca)]) Tryz.func3 rfl Tryz.ntmps3 rfl rfl ?_
 intro Q hret hnorm hP a A
 refine wsk fun K1 hK1 => wrl (sda A λa A↦?_)
 refine qa (hK1 _ _ (wsk fun K2 hK2 => wsk fun K3 hK3 => wrl (sct A (ef rfl rfl) (zla (hT.below M.bel)) ?_)))
 rintro _ w5 ⟨rfl, hb4⟩
 replace M := M.call hb4
 refine ⟨_, rfl, ?_⟩
 intro a A
 refine sdo (v := bV false) A (zi rfl zm) λa A↦?_
 refine qa (hK3 _ _ (wp_cond_false (A.ev rfl) ?_))
 refine wp_skip (hK2 _ _ (wsk fun K6 hK6 => wrl (sct A (ef rfl rfl) (zic) ?_)))
 rintro _ w8 ⟨gst, rfl, hM7⟩
 replace M : Mg w w8 (((⟨none, 0, [], none, 0, []⟩ : Pst).pcs gst ++ [])) := (show Mg _ _ ([] ++ ((⟨none, 0, [], none, 0, []⟩ : Pst).pcs gst ++ [])) from (by rw [List.append_nil]; exact (M.both hM7 (qk qm) (qzh gst)).perm List.perm_append_comm))
 refine ⟨_, rfl, ?_⟩
 intro a A
 refine sda A λa A↦?_
 refine qa (hK6 _ _ (wsk fun K9 hK9 => wrl (sdo (v := .agg #[.slice none 0 0, .slice none 0 0]) A (jb rfl (fun w => by kernel_rfl)) λa A↦?_)))
 refine zy (vs := [.slice none 0 0, .slice none 0 0]) (t := 29) A M rfl rfl rfl pg (zv (z := .agg #[.slice none 0 0, .slice none 0 0]) (by kernel_rfl) rfl) (by decide) ?_
 intro g10 w11 M a A
 refine zq (L' := (.obj g10 (.cells #[.slice none 0 0, .slice none 0 0] 29) :: ((⟨none, 0, [], none, 0, []⟩ : Pst).pcs gst ++ []))) A M rfl rfl (za rfl rfl rfl (by kernel_rfl) M 0 rfl rfl rfl) 0 rfl rfl rfl ?_
 intro w12 M
 refine qa (hK9 _ _ (wsk fun K13 hK13 => wsk fun K14 hK14 => wrl (sda A λa A↦?_)))
 refine qa (hK14 _ _ (wp_block ?_))
 replace M : Mg w w12 (.obj g10 (.cells (⟨none, 0, [], none, 0, []⟩ : Pst).sc.toArray 29) :: ((⟨none, 0, [], none, 0, []⟩ : Pst).pcs gst ++ [])) := M
 refine zt (fun m_ a w1 => ∃ (i : Nat) (P : Pst) (D : Pst) (X : List Ck), m_ = 1 + (ops.length - i) ∧ (i ≤ ops.length ∧ PL w X P ∧ DL w X D ∧ D.ks = P.ks ∧ D.rr = P.rr) ∧ Sl a 273 [(0, .slice so ops.length ca), (3, pA gst 0), (4, pA g10 0), (5, iV (((i : Nat) : Int))), (29, bV true), (30, bV false), (31, pA gst 0), (32, .agg #[.slice none 0 0, .slice none 0 0])] ∧ Mg w w1 (.obj g10 (.cells D.sc.toArray 29) :: (P.pcs gst ++ X))) _ ⟨0, (⟨none, 0, [], none, 0, []⟩ : Pst), (⟨none, 0, [], none, 0, []⟩ : Pst), [], rfl, ⟨Nat.zero_le _, pl0 _, fun w9 h9 => ⟨⟨fun h => absurd rfl h, fun t h => by cases h⟩, ⟨fun h => absurd rfl h, fun r h => by cases h⟩⟩, rfl, rfl⟩, A.keep _ (by repeat' constructor), M⟩ ?_
 clear M A
 rintro m_ a w15 ⟨i, P, D, X, rfl, hinv17, A, M⟩ K16 hK16
 obtain ⟨hi0, hpl, hD, hkk, hrr⟩ := hinv17
 refine wsk fun K18 hK18 => wsk fun K19 hK19 => wrl ?_
 iterate 2 refine sdm A λa A↦?_
 refine sdo A (qn Tryz.underlying22 rfl) λa A↦?_
 rcases tf (decide (((i : Nat) : Int) < ((ops.length : Nat) : Int))) with hb20 | hb20
 ·
  have hb20' := of_decide_eq_true hb20
  refine sdc A qw hb20 λa A↦?_
  refine qa (hK19 _ _ (wp_cond_true (A.ev rfl) ?_))
  refine wp_skip (hK18 _ _ (wsk fun K21 hK21 => wp_block (wsk fun K22 hK22 => wrl ?_)))
  iterate 2 refine sdm A λa A↦?_
  obtain ⟨o, b0, o0, hio, hro, hso, Ho⟩ := hops.at_ (i := i) (by omega)
  refine sdo (v := pA b0 (o0 + i * 23)) A (qx (k := i) Tryz.underlying22 (by kernel_rfl) rfl rfl (by first | rfl | omega) hso (by omega)) λa A↦?_
  refine sdo A (xa M Ho jbj rfl rfl) λa A↦?_
  refine zy (vs := [iV 0, iV 0, iV 0, iV 0, .string (⟨#[]⟩), iV 0, .slice none 0 0, .slice none 0 0, bV false, bV false, .string (⟨#[]⟩), .slice none 0 0, iV 0, iV 0, bV false, .slice none 0 0, .slice none 0 0, bV false, .slice none 0 0, .slice none 0 0, .string (⟨#[]⟩), .slice none 0 0, .slice none 0 0]) (t := 44) A M rfl rfl rfl pg (zv (z := .agg #[iV 0, iV 0, iV 0, iV 0, .string (⟨#[]⟩), iV 0, .slice none 0 0, .slice none 0 0, bV false, bV false, .string (⟨#[]⟩), .slice none 0 0, iV 0, iV 0, bV false, .slice none 0 0, .slice none 0 0, bV false, .slice none 0 0, .slice none 0 0, .string (⟨#[]⟩), .slice none 0 0, .slice none 0 0]) (by kernel_rfl) rfl) (by decide) ?_
  intro g23 w24 M a A
  refine zq (L' := (.obj g23 (.cells o.c.toArray 44) :: .obj g10 (.cells D.sc.toArray 29) :: (P.pcs gst ++ X))) A M rfl rfl (za rfl rfl rfl (by kernel_rfl) M 0 rfl rfl (zzg o)) 0 rfl (zme rfl) rfl ?_
  intro w25 M
  refine qa (hK22 _ _ (wsk fun K26 hK26 => wrl ?_))
  iterate 2 refine sda A λa A↦?_
  refine qa (hK26 _ _ (wsk fun K27 hK27 => wrl ?_))
  iterate 2 refine sda A λa A↦?_
  refine qa (hK27 _ _ (wsk fun K28 hK28 => ?_))
  have hJ29 : ∀ a w1, (∃ (av2 : Int) (ev2 : Int) (P2 : Pst) (D2 : Pst) (X2 : List Ck), (PL w X2 P2 ∧ DL w X2 D2 ∧ D2.ks = P2.ks ∧ D2.rr = P2.rr) ∧ Sl a 273 [(0, .slice so ops.length ca), (3, pA gst 0), (4, pA g10 0), (5, iV (((i : Nat) : Int))), (6, pA g23 0), (7, iV ev2), (8, iV ev2), (9, iV av2), (10, iV av2), (29, bV true), (30, bV false), (31, pA gst 0), (32, .agg #[.slice none 0 0, .slice none 0 0]), (33, iV (((i : Nat) : Int))), (34, .slice so ops.length ca), (35, iV (((ops.length : Nat) : Int))), (36, bV true), (39, .slice so ops.length ca), (40, iV (((i : Nat) : Int))), (41, pA b0 (o0 + i * 23)), (42, .agg o.c.toArray)] ∧ Mg w w1 (.obj g10 (.cells D2.sc.toArray 29) :: (P2.pcs gst ++ X2))) → K28 a w1 := by
   clear A M
   rintro a w30 ⟨av2, ev2, P2, D2, X2, hf31, A, M⟩
   obtain ⟨hpl2, hD2, hkk2, hrr2⟩ := hf31
   refine hK28 _ _ (wsk fun K32 hK32 => wrl ?_)
   iterate 2 refine sdm A λa A↦?_
   refine sdo (v := bV false) A (qg rfl rfl (fun w => (zg w).trans (by rw [show ((av2 != av2)) = false from (by simp)]))) λa A↦?_
   iterate 3 refine sdm A λa A↦?_
   refine sdo (v := bV false) A (qg rfl rfl (fun w => (zg w).trans (by rw [show ((ev2 != ev2)) = false from (by simp)]))) λa A↦?_
   refine sdk (v := bV false) A λa A↦?_
   refine qa (hK32 _ _ (wp_cond_false (A.ev rfl) ?_))
   refine wp_skip (hK21 _ _ (wrl (sdm A λa A↦?_)))
   refine sdo (v := iV (((i + 1 : Nat) : Int))) A (qg rfl rfl (fun w => (ja (ji (by omega) (by omega)) w).trans (by rw [show (((i : Nat) : Int) + 1 : Int) = ((i + 1 : Nat) : Int) from by omega]))) λa A↦?_
   refine sda A λa A↦?_
   refine qa ?_
   replace M : Mg w w30 (.obj g10 (.cells D2.sc.toArray 29) :: (P2.pcs gst ++ X2)) := M
   refine hK16 _ _ _ (by omega) ⟨i + 1, P2, D2, X2, rfl, ⟨by omega, hpl2, hD2, hkk2, hrr2⟩, A.keep _ (by repeat' constructor), M⟩
  refine wsk fun K33 hK33 => wrl (sdo (v := pA g23 0) A (qb zyc rfl rfl) λa A↦?_)
  refine sdo A (qh M o93 rfl 0 rfl rfl) λa A↦?_
  refine qa (hK33 _ _ (wp_block (wsk fun K34 hK34 => wrl ?_)))
  rcases tf ((o.kd == 1)) with hb35 | hb35
  ·
   have hb35' := eq_of_beq hb35
   refine sdc A qr hb35 λa A↦?_
   refine sda A λa A↦?_
   refine qa (hK34 _ _ (wp_cond_true (A.ev rfl) ?_))
   refine wsk fun K36 hK36 => wrl (sdm A λa A↦?_)
   refine sdo (v := pA g23 4) A (qb zoh rfl rfl) λa A↦?_
   refine sdo A (qz M qaj rfl 0 rfl (cs := [.string o.u.nm, iV o.u.par, .slice o.u.fo o.u.fs.length o.u.fc, .slice o.u.mo o.u.ms.length o.u.mc, bV o.u.sl, bV o.u.op, .string o.u.ui]) rfl rfl) λa A↦?_
   refine sct A (ef rfl rfl) (zqb (EE := [.obj g23 (.cells o.c.toArray 44), .obj g10 (.cells D.sc.toArray 29)]) hpl (qi (by simp) (qi (by simp) (qk qm))) (u := o.u) (fun w1 h1 => hro.ty.below h1.bel) (Nat.le_trans hro.n3 (by decide)) (Nat.le_trans hro.n4 (by decide)) (Nat.le_trans hro.n1 (by decide)) (Nat.le_trans hro.n2 (by decide)) (fun s hs => Nat.le_trans (hro.n5 s hs) (by decide)) M) ?_
   rintro _ w38 ⟨P1, F1, rfl, ⟨hpl1, hk1, hr1⟩, hM37⟩
   replace M : Mg w w38 (.obj g23 (.cells o.c.toArray 44) :: .obj g10 (.cells D.sc.toArray 29) :: (P1.pcs gst ++ (F1 ++ X))) := hM37
   refine ⟨_, rfl, ?_⟩
   intro a A
   refine sdm A λa A↦?_
   iterate 2 refine sdo A (zb (vs := [iV ((tyS P.ks o.u.k).1), iV ((tyS P.ks o.u.k).2.1)]) rfl rfl) λa A↦?_
   iterate 2 refine sda A λa A↦?_
   refine qa (hK36 _ _ (wrl (sdo A (qz M jr rfl 1 rfl (cs := D.sc) rfl rfl) λa A↦?_)))
   refine sdo (v := pA g23 4) A (qb zoh rfl rfl) λa A↦?_
   refine sdo A (qz M qaj rfl 0 rfl (cs := [.string o.u.nm, iV o.u.par, .slice o.u.fo o.u.fs.length o.u.fc, .slice o.u.mo o.u.ms.length o.u.mc, bV o.u.sl, bV o.u.op, .string o.u.ui]) rfl rfl) λa A↦?_
   refine sct A (ef rfl rfl) (zzh (EE := [.obj g23 (.cells o.c.toArray 44), .obj g10 (.cells D.sc.toArray 29)]) (hD.more F1) hkk hrr hpl.ws hpl1 (qi (by simp) (qi (by simp) (qk qm))) (u := o.u) hro.ty (Nat.le_trans hro.n3 (by decide)) (Nat.le_trans hro.n4 (by decide)) M) ?_
   rintro _ w40 ⟨D1, F2, rfl, ⟨hD1, hF2, hdk1, hdr1⟩, hM39⟩
   replace M : Mg w w40 (.obj g23 (.cells o.c.toArray 44) :: .obj g10 (.cells D.sc.toArray 29) :: (P1.pcs gst ++ (F2 ++ (F1 ++ X)))) := hM39
   refine ⟨_, rfl, ?_⟩
   intro a A
   refine sdm A λa A↦?_
   iterate 3 refine sdo A (zb (vs := [iV ((tyS P.ks o.u.k).1), iV ((tyS P.ks o.u.k).2.1), .agg D1.sc.toArray]) rfl rfl) λa A↦?_
   iterate 2 refine sda A λa A↦?_
   refine zq (L' := (.obj g23 (.cells o.c.toArray 44) :: .obj g10 (.cells D1.sc.toArray 29) :: (P1.pcs gst ++ (F2 ++ (F1 ++ X))))) A M rfl rfl (za rfl rfl rfl (by kernel_rfl) M 1 rfl rfl rfl) 1 rfl rfl rfl ?_
   intro w41 M
   refine qa ?_
   replace M : Mg w w41 (.obj g10 (.cells D1.sc.toArray 29) :: (P1.pcs gst ++ (F2 ++ (F1 ++ X)))) := (M.bring 1 rfl rfl).sub (cc (cn (.refl _)))
   exact hJ29 _ _ ⟨(tyS P.ks o.u.k).1, (tyS P.ks o.u.k).2.1, P1, D1, (F2 ++ (F1 ++ X)), ⟨(hpl1.more hF2), hD1, hdk1.trans hk1.symm, hdr1.trans hr1.symm⟩, A.keep _ (by repeat' constructor), M⟩
  ·
   have hb35' := ne_of_beq_false hb35
   refine sdc A qr hb35 λa A↦?_
   refine sda A λa A↦?_
   refine qa (hK34 _ _ (wp_cond_false (A.ev rfl) ?_))
   refine wsk fun K42 hK42 => wrl ?_
   rcases tf ((o.kd == 2)) with hb43 | hb43
   ·
    have hb43' := eq_of_beq hb43
    refine sdc A qr hb43 λa A↦?_
    refine sda A λa A↦?_
    refine qa (hK42 _ _ (wp_cond_true (A.ev rfl) ?_))
    refine wsk fun K44 hK44 => wrl (sdm A λa A↦?_)
    refine sdo (v := pA g23 2) A (qb vb rfl rfl) λa A↦?_
    refine sdo A (qh M o93 rfl 0 rfl rfl) λa A↦?_
    refine sdo (v := pA g23 11) A (qb zoi rfl rfl) λa A↦?_
    refine sdo A (qh M kw rfl 0 rfl rfl) λa A↦?_
    refine sct A (ef rfl rfl) (zeh (EE := [.obj g23 (.cells o.c.toArray 44), .obj g10 (.cells D.sc.toArray 29)]) hpl (qi (by simp) (qi (by simp) (qk qm))) (vs := o.vs) (fun w1 h1 => ⟨hro.rv.below h1.bel, fun d hd => Dt.keep h1.bel _ (hro.rd d hd)⟩) (Nat.le_trans hro.b1 (by decide)) (fun w1 h1 => hT.below h1.bel) o.t M) ?_
    rintro _ w46 ⟨P1, F1, rfl, ⟨hpl1, hk1, hr1⟩, hM45⟩
    replace M : Mg w w46 (.obj g23 (.cells o.c.toArray 44) :: .obj g10 (.cells D.sc.toArray 29) :: (P1.pcs gst ++ (F1 ++ X))) := hM45
    refine ⟨_, rfl, ?_⟩
    intro a A
    refine sdm A λa A↦?_
    iterate 2 refine sdo A (zb (vs := [iV ((mkS P.ks P.rs.length o.t (o.vs.map Dt.tr)).1), iV ((mkS P.ks P.rs.length o.t (o.vs.map Dt.tr)).2.1)]) rfl rfl) λa A↦?_
    iterate 2 refine sda A λa A↦?_
    refine qa (hK44 _ _ (wrl (sdo A (qz M jr rfl 1 rfl (cs := D.sc) rfl rfl) λa A↦?_)))
    refine sdo (v := pA g23 2) A (qb vb rfl rfl) λa A↦?_
    refine sdo A (qh M o93 rfl 0 rfl rfl) λa A↦?_
    refine sdo (v := pA g23 11) A (qb zoi rfl rfl) λa A↦?_
    refine sdo A (qh M kw rfl 0 rfl rfl) λa A↦?_
    refine sct A (ef rfl rfl) (zrj (EE := [.obj g23 (.cells o.c.toArray 44), .obj g10 (.cells D.sc.toArray 29)]) (hD.more F1) hkk hrr hpl.ws hpl1 (qi (by simp) (qi (by simp) (qk qm))) (vs := o.vs) (hro.rv.below M.bel) hro.rd (fun d hd => Nat.le_trans (qfh hd) (Nat.le_trans hro.b1 (by decide))) (Nat.le_trans (yk o.vs) (Nat.le_trans hro.b1 (by decide))) o.t (n := P.rs.length) (List.length_map _) rfl M) ?_
    rintro _ w48 ⟨D1, F2, rfl, ⟨hD1, hF2, hdk1, hdr1⟩, hM47⟩
    replace M : Mg w w48 (.obj g23 (.cells o.c.toArray 44) :: .obj g10 (.cells D.sc.toArray 29) :: (P1.pcs gst ++ (F2 ++ (F1 ++ X)))) := hM47
    refine ⟨_, rfl, ?_⟩
    intro a A
    refine sdm A λa A↦?_
    iterate 3 refine sdo A (zb (vs := [iV ((mkS P.ks P.rs.length o.t (o.vs.map Dt.tr)).1), iV ((mkS P.ks P.rs.length o.t (o.vs.map Dt.tr)).2.1), .agg D1.sc.toArray]) rfl rfl) λa A↦?_
    iterate 2 refine sda A λa A↦?_
    refine zq (L' := (.obj g23 (.cells o.c.toArray 44) :: .obj g10 (.cells D1.sc.toArray 29) :: (P1.pcs gst ++ (F2 ++ (F1 ++ X))))) A M rfl rfl (za rfl rfl rfl (by kernel_rfl) M 1 rfl rfl rfl) 1 rfl rfl rfl ?_
    intro w49 M
    refine qa ?_
    replace M : Mg w w49 (.obj g10 (.cells D1.sc.toArray 29) :: (P1.pcs gst ++ (F2 ++ (F1 ++ X)))) := (M.bring 1 rfl rfl).sub (cc (cn (.refl _)))
    exact hJ29 _ _ ⟨(mkS P.ks P.rs.length o.t (o.vs.map Dt.tr)).1, (mkS P.ks P.rs.length o.t (o.vs.map Dt.tr)).2.1, P1, D1, (F2 ++ (F1 ++ X)), ⟨(hpl1.more hF2), hD1, hdk1.trans hk1.symm, hdr1.trans hr1.symm⟩, A.keep _ (by repeat' constructor), M⟩
   ·
    have hb43' := ne_of_beq_false hb43
    refine sdc A qr hb43 λa A↦?_
    refine sda A λa A↦?_
    refine qa (hK42 _ _ (wp_cond_false (A.ev rfl) ?_))
    refine wsk fun K50 hK50 => wrl ?_
    rcases tf ((o.kd == 7)) with hb51 | hb51
    ·
     have hb51' := eq_of_beq hb51
     refine sdc A qr hb51 λa A↦?_
     refine sda A λa A↦?_
     refine qa (hK50 _ _ (wp_cond_true (A.ev rfl) ?_))
     refine wsk fun K52 hK52 => wrl (sdo A (qz M jr rfl 1 rfl (cs := D.sc) rfl rfl) λa A↦?_)
     refine sdo (v := pA g23 2) A (qb vb rfl rfl) λa A↦?_
     refine sdo A (qh M o93 rfl 0 rfl rfl) λa A↦?_
     have hfl16 := jcd hpl.ws o.t
     refine sct A (ef rfl rfl) (qpf (EE := [.obj g23 (.cells o.c.toArray 44), .obj g10 (.cells D.sc.toArray 29)]) hD hkk hrr hpl.ws hpl (qi (by simp) (qi (by simp) (qk qm))) o.t rfl M) ?_
     rintro _ w54 ⟨rfl, hM53⟩
     replace M : Mg w w54 (.obj g23 (.cells o.c.toArray 44) :: .obj g10 (.cells D.sc.toArray 29) :: (P.pcs gst ++ X)) := hM53
     refine ⟨_, rfl, ?_⟩
     intro a A
     refine sdm A λa A↦?_
     iterate 2 refine sdo A (zb (vs := [iV ((flS P.ks o.t).1), iV ((flS P.ks o.t).2)]) rfl rfl) λa A↦?_
     iterate 2 refine sda A λa A↦?_
     refine qa (hK52 _ _ (wsk fun K55 hK55 => wrl (xr (e := 42) (sz := 11) (m := 0) (vs := cellsOf []) A M rfl rfl rfl (qy rfl (by kernel_rfl)) rfl rfl (.inl (by decide)) ?_)))
     intro g56 w57 M a A
     refine sda A λa A↦?_
     refine qa (hK55 _ _ (wsk fun K58 hK58 => wsk fun K59 hK59 => wrl (sda A λa A↦?_)))
     refine qa (hK59 _ _ (wp_block (zt (fun m_ a w1 => ∃ (k : Nat) (xs : List Dt) (so_ : Option Addr) (ca_ : Nat), m_ = 1 + (16 - k) ∧ (k ≤ 16 ∧ xs = List.replicate k o.v) ∧ Sl a 273 [(0, .slice so ops.length ca), (3, pA gst 0), (4, pA g10 0), (5, iV (((i : Nat) : Int))), (6, pA g23 0), (7, iV 0), (8, iV 0), (9, iV 0), (10, iV 0), (11, iV ((flS P.ks o.t).1)), (12, iV ((flS P.ks o.t).2)), (13, .slice so_ xs.length ca_), (14, iV (((k : Nat) : Int))), (29, bV true), (30, bV false), (31, pA gst 0), (32, .agg #[.slice none 0 0, .slice none 0 0]), (33, iV (((i : Nat) : Int))), (34, .slice so ops.length ca), (35, iV (((ops.length : Nat) : Int))), (36, bV true), (39, .slice so ops.length ca), (40, iV (((i : Nat) : Int))), (41, pA b0 (o0 + i * 23)), (42, .agg o.c.toArray), (43, pA g23 0), (44, iV o.kd), (45, bV false), (46, bV false), (62, bV false), (63, bV false), (83, bV true), (84, bV true), (85, .tuple #[iV ((flS P.ks o.t).1), iV ((flS P.ks o.t).2)]), (86, .agg D.sc.toArray), (87, pA g23 2), (88, iV o.t), (89, .tuple #[iV ((flS P.ks o.t).1), iV ((flS P.ks o.t).2)]), (90, iV ((flS P.ks o.t).1)), (91, iV ((flS P.ks o.t).2)), (92, .slice (aO g56) 0 0)] ∧ Mg w w1 (.row 42 11 (.slice so_ xs.length ca_) xs.length (cellsOf xs) :: .obj g23 (.cells o.c.toArray 44) :: .obj g10 (.cells D.sc.toArray 29) :: (P.pcs gst ++ X))) _ ⟨0, [], some ⟨g56, 0, none⟩, 0, rfl, ⟨Nat.zero_le _, rfl⟩, A.keep _ (by repeat' constructor), M⟩ ?_)))
     clear M A
     rintro m_ a w60 ⟨k, xs, so_, ca_, rfl, hinv62, A, M⟩ K61 hK61
     obtain ⟨hk0, hxs⟩ := hinv62
     have hxl : xs.length = k := by rw [hxs, List.length_replicate]
     have hxr : ∀ d ∈ xs, d.rd w := fun d hd => by rw [hxs] at hd; rw [List.eq_of_mem_replicate hd]; exact hro.rx
     have hx4 : ∀ d ∈ xs, d.tr.bulk ≤ 4000000 := fun d hd => by rw [hxs] at hd; rw [List.eq_of_mem_replicate hd]; exact Nat.le_trans hro.b2 (by decide)
     have hxb : Tr.bulks (xs.map Dt.tr) ≤ 1000000000 := by rw [hxs, List.map_replicate, qse]; exact Nat.le_trans (Nat.mul_le_mul hk0 hro.b2) (by decide)
     refine wsk fun K63 hK63 => wsk fun K64 hK64 => wrl ?_
     iterate 2 refine sdm A λa A↦?_
     rcases tf (decide (((k : Nat) : Int) < (flS P.ks o.t).1)) with hb65 | hb65
     ·
      have hb65' := of_decide_eq_true hb65
      refine sdc A qw hb65 λa A↦?_
      refine qa (hK64 _ _ (wp_cond_true (A.ev rfl) ?_))
      refine wp_skip (hK63 _ _ (wsk fun K66 hK66 => wp_block (wrl (sdm A λa A↦?_))))
      refine sdo (v := pA g23 12) A (qb zci rfl rfl) λa A↦?_
      refine sdo A (qz M xz rfl 1 rfl (cs := (o.v.d.cells o.v.ts.length)) rfl rfl) λa A↦?_
      refine xr (e := 42) (sz := 11) (m := 1) (vs := cellsOf [o.v]) A M rfl rfl rfl (qy rfl (by kernel_rfl)) rfl rfl (.inl (by decide)) ?_
      intro g67 w68 M a A
      refine jo (e := 42) (sz := 11) (k := 1) (q := xs.length) (m := 1) (xs := cellsOf xs) (news := cellsOf [o.v]) (L' := fun v69 => (.row 42 11 (.slice (aO g67) 1 1) 1 (cellsOf [o.v]) :: .row 42 11 (v69) (xs.length + 1) (cellsOf xs ++ cellsOf [o.v]) :: .obj g23 (.cells o.c.toArray 44) :: .obj g10 (.cells D.sc.toArray 29) :: (P.pcs gst ++ X))) A rfl rfl rfl (xb (z := .agg #[iV 0, iV 0, bV false, .slice none 0 0, .slice none 0 0, bV false, .slice none 0 0, .slice none 0 0, .string (⟨#[]⟩), .slice none 0 0, .slice none 0 0]) (sz := 11) (by_ := 192) Tryz.underlying34 (by kernel_rfl) rfl rfl rfl M 1 rfl rfl rfl rfl (rc_own (M.has 0 rfl)) (ye [o.v]) (by first | omega | (simp only [List.length_nil]; omega))) (fun _ => rfl) ?_
      intro v69 w70 M a A
      replace M : Mg w w70 (.row 42 11 (.slice (aO g67) 1 1) 1 (cellsOf [o.v]) :: .row 42 11 (v69) ((xs ++ [o.v]).length) (cellsOf (xs ++ [o.v])) :: .obj g23 (.cells o.c.toArray 44) :: .obj g10 (.cells D.sc.toArray 29) :: (P.pcs gst ++ X)) := by
       rw [yq, List.length_append]; exact M
      obtain ⟨so71, ca72, rfl⟩ := jg (M.has 1 rfl)
      refine sda A λa A↦?_
      refine qa (hK66 _ _ (wrl (sdm A λa A↦?_)))
      refine sdo (v := iV (((k + 1 : Nat) : Int))) A (qg rfl rfl (fun w => (ja (ji (by omega) (by omega)) w).trans (by rw [show (((k : Nat) : Int) + 1 : Int) = ((k + 1 : Nat) : Int) from by omega]))) λa A↦?_
      refine sda A λa A↦?_
      refine qa ?_
      replace M : Mg w w70 (.row 42 11 (.slice so71 ((xs ++ [o.v]).length) ca72) ((xs ++ [o.v]).length) (cellsOf (xs ++ [o.v])) :: .obj g23 (.cells o.c.toArray 44) :: .obj g10 (.cells D.sc.toArray 29) :: (P.pcs gst ++ X)) := (((M.bring 3 rfl rfl).bring 3 rfl rfl).bring 3 rfl rfl).sub (cc (cc (cc (cn (.refl _)))))
      refine hK61 _ _ _ (by omega) ⟨k + 1, xs ++ [o.v], so71, ca72, rfl, ⟨by omega, by rw [hxs, List.replicate_succ']⟩, A.keep _ (by repeat' constructor), M⟩
     ·
      have hb65' := of_decide_eq_false hb65
      refine sdc A qw hb65 λa A↦?_
      refine qa (hK64 _ _ (wp_cond_false (A.ev rfl) ?_))
      refine wp_exit (hK58 _ _ (wsk fun K73 hK73 => wrl (sdm A λa A↦?_)))
      refine sdo (v := pA g23 2) A (qb vb rfl rfl) λa A↦?_
      refine sdo A (qh M o93 rfl 1 rfl rfl) λa A↦?_
      refine sdm A λa A↦?_
      refine sct A (ef rfl rfl) (zeh (EE := [.row 42 11 (.slice so_ xs.length ca_) xs.length (cellsOf xs), .obj g23 (.cells o.c.toArray 44), .obj g10 (.cells D.sc.toArray 29)]) hpl (qi (by simp) (qi (by simp) (qi (by simp) (qk qm)))) (vs := xs) (fun w1 h1 => ⟨(qea (h1.has 0 rfl)).1, fun d hd => Dt.keep h1.bel _ (hxr d hd)⟩) hxb (fun w1 h1 => hT.below h1.bel) o.t M) ?_
      rintro _ w75 ⟨P1, F1, rfl, ⟨hpl1, hk1, hr1⟩, hM74⟩
      replace M : Mg w w75 (.row 42 11 (.slice so_ xs.length ca_) xs.length (cellsOf xs) :: .obj g23 (.cells o.c.toArray 44) :: .obj g10 (.cells D.sc.toArray 29) :: (P1.pcs gst ++ (F1 ++ X))) := hM74
      refine ⟨_, rfl, ?_⟩
      intro a A
      refine sdm A λa A↦?_
      iterate 2 refine sdo A (zb (vs := [iV ((mkS P.ks P.rs.length o.t (xs.map Dt.tr)).1), iV ((mkS P.ks P.rs.length o.t (xs.map Dt.tr)).2.1)]) rfl rfl) λa A↦?_
      iterate 2 refine sda A λa A↦?_
      refine qa (hK73 _ _ (wrl (sdo A (qz M jr rfl 2 rfl (cs := D.sc) rfl rfl) λa A↦?_)))
      refine sdo (v := pA g23 2) A (qb vb rfl rfl) λa A↦?_
      refine sdo A (qh M o93 rfl 1 rfl rfl) λa A↦?_
      refine sdm A λa A↦?_
      refine sct A (ef rfl rfl) (zrj (EE := [.row 42 11 (.slice so_ xs.length ca_) xs.length (cellsOf xs), .obj g23 (.cells o.c.toArray 44), .obj g10 (.cells D.sc.toArray 29)]) (hD.more F1) hkk hrr hpl.ws hpl1 (qi (by simp) (qi (by simp) (qi (by simp) (qk qm)))) (vs := xs) (qea (M.has 0 rfl)).1 hxr hx4 (by omega) o.t (n := P.rs.length) (List.length_map _) rfl M) ?_
      rintro _ w77 ⟨D1, F2, rfl, ⟨hD1, hF2, hdk1, hdr1⟩, hM76⟩
      replace M : Mg w w77 (.row 42 11 (.slice so_ xs.length ca_) xs.length (cellsOf xs) :: .obj g23 (.cells o.c.toArray 44) :: .obj g10 (.cells D.sc.toArray 29) :: (P1.pcs gst ++ (F2 ++ (F1 ++ X)))) := hM76
      refine ⟨_, rfl, ?_⟩
      intro a A
      refine sdm A λa A↦?_
      iterate 3 refine sdo A (zb (vs := [iV ((mkS P.ks P.rs.length o.t (xs.map Dt.tr)).1), iV ((mkS P.ks P.rs.length o.t (xs.map Dt.tr)).2.1), .agg D1.sc.toArray]) rfl rfl) λa A↦?_
      iterate 2 refine sda A λa A↦?_
      refine zq (L' := (.row 42 11 (.slice so_ xs.length ca_) xs.length (cellsOf xs) :: .obj g23 (.cells o.c.toArray 44) :: .obj g10 (.cells D1.sc.toArray 29) :: (P1.pcs gst ++ (F2 ++ (F1 ++ X))))) A M rfl rfl (za rfl rfl rfl (by kernel_rfl) M 2 rfl rfl rfl) 2 rfl rfl rfl ?_
      intro w78 M
      refine qa ?_
      replace M : Mg w w78 (.obj g10 (.cells D1.sc.toArray 29) :: (P1.pcs gst ++ (F2 ++ (F1 ++ X)))) := (M.bring 2 rfl rfl).sub (cc (cn (cn (.refl _))))
      exact hJ29 _ _ ⟨(mkS P.ks P.rs.length o.t (xs.map Dt.tr)).1, (mkS P.ks P.rs.length o.t (xs.map Dt.tr)).2.1, P1, D1, (F2 ++ (F1 ++ X)), ⟨(hpl1.more hF2), hD1, hdk1.trans hk1.symm, hdr1.trans hr1.symm⟩, A.keep _ (by repeat' constructor), M⟩
    ·
     have hb51' := ne_of_beq_false hb51
     refine sdc A qr hb51 λa A↦?_
     refine sda A λa A↦?_
     refine qa (hK50 _ _ (wp_cond_false (A.ev rfl) ?_))
     refine wsk fun K79 hK79 => wrl ?_
     rcases tf ((o.kd == 3)) with hb80 | hb80
     ·
      have hb80' := eq_of_beq hb80
      refine sdc A qr hb80 λa A↦?_
      refine sda A λa A↦?_
      refine qa (hK79 _ _ (wp_cond_true (A.ev rfl) ?_))
      refine wsk fun K81 hK81 => wrl (sdm A λa A↦?_)
      refine sdo (v := pA g23 1) A (qb qbg rfl rfl) λa A↦?_
      refine sdo A (qh M o93 rfl 0 rfl rfl) λa A↦?_
      refine sdo (v := pA g23 2) A (qb vb rfl rfl) λa A↦?_
      refine sdo A (qh M o93 rfl 0 rfl rfl) λa A↦?_
      refine sdo (v := pA g23 3) A (qb qui rfl rfl) λa A↦?_
      refine sdo A (qh M o93 rfl 0 rfl rfl) λa A↦?_
      refine sct A (ef rfl rfl) (zzi (EE := [.obj g23 (.cells o.c.toArray 44), .obj g10 (.cells D.sc.toArray 29)]) hpl (qi (by simp) (qi (by simp) (qk qm))) o.r o.t o.i M) ?_
      rintro _ w83 ⟨d2, F1, rfl, ⟨hL2, hdt2, hF1⟩, hM82⟩
      replace M : Mg w w83 (.obj g23 (.cells o.c.toArray 44) :: .obj g10 (.cells D.sc.toArray 29) :: (P.pcs gst ++ (F1 ++ X))) := hM82
      refine ⟨_, rfl, ?_⟩
      intro a A
      refine sdm A λa A↦?_
      iterate 2 refine sdo A (zb (vs := [.agg (d2.d.cells d2.ts.length).toArray, iV ((plS P.ks P.rr o.r o.t o.i).2)]) rfl rfl) λa A↦?_
      refine zy (vs := (jq.d.cells jq.ts.length)) (t := 42) A M rfl rfl rfl pg (zv (z := .agg (jq.d.cells jq.ts.length).toArray) (by kernel_rfl) rfl) (by decide) ?_
      intro g84 w85 M a A
      refine zq (L' := (.obj g84 (.cells (d2.d.cells d2.ts.length).toArray 42) :: .obj g23 (.cells o.c.toArray 44) :: .obj g10 (.cells D.sc.toArray 29) :: (P.pcs gst ++ (F1 ++ X)))) A M rfl rfl (za rfl rfl rfl (by kernel_rfl) M 0 rfl rfl rfl) 0 rfl rfl rfl ?_
      intro w86 M
      refine sda A λa A↦?_
      refine qa (hK81 _ _ (wsk fun K87 hK87 => wrl (sdo A (qz M jr rfl 2 rfl (cs := D.sc) rfl rfl) λa A↦?_)))
      refine sdo (v := pA g23 1) A (qb qbg rfl rfl) λa A↦?_
      refine sdo A (qh M o93 rfl 1 rfl rfl) λa A↦?_
      refine sdo (v := pA g23 2) A (qb vb rfl rfl) λa A↦?_
      refine sdo A (qh M o93 rfl 1 rfl rfl) λa A↦?_
      refine sdo (v := pA g23 3) A (qb qui rfl rfl) λa A↦?_
      refine sdo A (qh M o93 rfl 1 rfl rfl) λa A↦?_
      refine sct A (ef rfl rfl) (jbh (EE := [.obj g84 (.cells (d2.d.cells d2.ts.length).toArray 42), .obj g23 (.cells o.c.toArray 44), .obj g10 (.cells D.sc.toArray 29)]) (hD.more F1) hkk hrr hpl.ws (hpl.more hF1) (qi (by simp) (qi (by simp) (qi (by simp) (qk qm)))) o.r o.t o.i M) ?_
      rintro _ w89 ⟨e2, rfl, ⟨hL3, hdt3⟩, hM88⟩
      replace M : Mg w w89 (.obj g84 (.cells (d2.d.cells d2.ts.length).toArray 42) :: .obj g23 (.cells o.c.toArray 44) :: .obj g10 (.cells D.sc.toArray 29) :: (P.pcs gst ++ (F1 ++ X))) := hM88
      refine ⟨_, rfl, ?_⟩
      intro a A
      refine sdm A λa A↦?_
      iterate 2 refine sdo A (zb (vs := [.agg (e2.d.cells e2.ts.length).toArray, iV ((plS P.ks P.rr o.r o.t o.i).2)]) rfl rfl) λa A↦?_
      refine zy (vs := (jq.d.cells jq.ts.length)) (t := 42) A M rfl rfl rfl pg (zv (z := .agg (jq.d.cells jq.ts.length).toArray) (by kernel_rfl) rfl) (by decide) ?_
      intro g90 w91 M a A
      refine zq (L' := (.obj g90 (.cells (e2.d.cells e2.ts.length).toArray 42) :: .obj g84 (.cells (d2.d.cells d2.ts.length).toArray 42) :: .obj g23 (.cells o.c.toArray 44) :: .obj g10 (.cells D.sc.toArray 29) :: (P.pcs gst ++ (F1 ++ X)))) A M rfl rfl (za rfl rfl rfl (by kernel_rfl) M 0 rfl rfl rfl) 0 rfl rfl rfl ?_
      intro w92 M
      refine sda A λa A↦?_
      refine qa (hK87 _ _ (wsk fun K93 hK93 => wsk fun K94 hK94 => wrl (sdo A (qz M xz rfl 1 rfl (cs := (d2.d.cells d2.ts.length)) rfl rfl) λa A↦?_)))
      refine sdo A (qz M xz rfl 0 rfl (cs := (e2.d.cells e2.ts.length)) rfl rfl) λa A↦?_
      refine gcl A M (ef rfl rfl) (((show uu d2.tr e2.tr = true from (zqh _ _).2 (hdt2.trans hdt3.symm)) ▸ qpd (d2.tr.bulk + 1) (Nat.lt_succ_self _) (hL2 _ _ (((M.dropn 4).sub (List.sublist_append_right _ _)).sub (List.sublist_append_left _ _))) (hL3 _ ((M.dropn 4).sub (List.sublist_append_right _ _))))) fun w96 hb95 M a A => ?_
      refine sdo (v := bV false) A (zi rfl zm) λa A↦?_
      refine qa (hK94 _ _ (wp_cond_false (A.ev rfl) ?_))
      refine wp_skip (hK93 _ _ (wrl ?_))
      iterate 2 refine sdm A λa A↦?_
      iterate 2 refine sda A λa A↦?_
      refine qa ?_
      replace M : Mg w w96 (.obj g10 (.cells D.sc.toArray 29) :: (P.pcs gst ++ (F1 ++ X))) := (M.bring 3 rfl rfl).sub (cc (cn (cn (cn (.refl _)))))
      exact hJ29 _ _ ⟨0, (plS P.ks P.rr o.r o.t o.i).2, P, D, (F1 ++ X), ⟨(hpl.more hF1), (hD.more F1), hkk, hrr⟩, A.keep _ (by repeat' constructor), M⟩
     ·
      have hb80' := ne_of_beq_false hb80
      refine sdc A qr hb80 λa A↦?_
      refine sda A λa A↦?_
      refine qa (hK79 _ _ (wp_cond_false (A.ev rfl) ?_))
      refine wsk fun K97 hK97 => wrl ?_
      rcases tf ((o.kd == 4)) with hb98 | hb98
      ·
       have hb98' := eq_of_beq hb98
       refine sdc A qr hb98 λa A↦?_
       refine sda A λa A↦?_
       refine qa (hK97 _ _ (wp_cond_true (A.ev rfl) ?_))
       refine wsk fun K99 hK99 => wrl (sdm A λa A↦?_)
       refine sdo (v := pA g23 1) A (qb qbg rfl rfl) λa A↦?_
       refine sdo A (qh M o93 rfl 0 rfl rfl) λa A↦?_
       refine sdo (v := pA g23 2) A (qb vb rfl rfl) λa A↦?_
       refine sdo A (qh M o93 rfl 0 rfl rfl) λa A↦?_
       refine sdo (v := pA g23 3) A (qb qui rfl rfl) λa A↦?_
       refine sdo A (qh M o93 rfl 0 rfl rfl) λa A↦?_
       refine sdo (v := pA g23 12) A (qb zci rfl rfl) λa A↦?_
       refine sdo A (qz M xz rfl 0 rfl (cs := (o.v.d.cells o.v.ts.length)) rfl rfl) λa A↦?_
       refine sct A (ef rfl rfl) (jah (EE := [.obj g23 (.cells o.c.toArray 44), .obj g10 (.cells D.sc.toArray 29)]) hpl (qi (by simp) (qi (by simp) (qk qm))) (v := o.v) (fun w1 h1 => Dt.keep h1.bel _ hro.rx) (Nat.le_trans hro.b2 (by decide)) (fun w1 h1 => hT.below h1.bel) o.r o.t o.i M) ?_
       rintro _ w101 ⟨P1, F1, rfl, ⟨hpl1, hk1, hr1⟩, hM100⟩
       replace M : Mg w w101 (.obj g23 (.cells o.c.toArray 44) :: .obj g10 (.cells D.sc.toArray 29) :: (P1.pcs gst ++ (F1 ++ X))) := hM100
       refine ⟨_, rfl, ?_⟩
       intro a A
       refine sda A λa A↦?_
       refine qa (hK99 _ _ (wrl (sdo A (qz M jr rfl 1 rfl (cs := D.sc) rfl rfl) λa A↦?_)))
       refine sdo (v := pA g23 1) A (qb qbg rfl rfl) λa A↦?_
       refine sdo A (qh M o93 rfl 0 rfl rfl) λa A↦?_
       refine sdo (v := pA g23 2) A (qb vb rfl rfl) λa A↦?_
       refine sdo A (qh M o93 rfl 0 rfl rfl) λa A↦?_
       refine sdo (v := pA g23 3) A (qb qui rfl rfl) λa A↦?_
       refine sdo A (qh M o93 rfl 0 rfl rfl) λa A↦?_
       refine sdo (v := pA g23 12) A (qb zci rfl rfl) λa A↦?_
       refine sdo A (qz M xz rfl 0 rfl (cs := (o.v.d.cells o.v.ts.length)) rfl rfl) λa A↦?_
       refine sct A (ef rfl rfl) (jbg (EE := [.obj g23 (.cells o.c.toArray 44), .obj g10 (.cells D.sc.toArray 29)]) (hD.more F1) hkk hrr hpl.ws hpl1 (qi (by simp) (qi (by simp) (qk qm))) (v := o.v) hro.rx (Nat.le_trans hro.b2 (by decide)) o.r o.t o.i M) ?_
       rintro _ w103 ⟨D1, F2, rfl, ⟨hD1, hF2, hdk1, hdr1⟩, hM102⟩
       replace M : Mg w w103 (.obj g23 (.cells o.c.toArray 44) :: .obj g10 (.cells D.sc.toArray 29) :: (P1.pcs gst ++ (F2 ++ (F1 ++ X)))) := hM102
       refine ⟨_, rfl, ?_⟩
       intro a A
       refine sdm A λa A↦?_
       iterate 2 refine sdo A (zb (vs := [iV (seS P.ks P.rr o.r o.t o.i o.v.tr), .agg D1.sc.toArray]) rfl rfl) λa A↦?_
       refine sda A λa A↦?_
       refine zq (L' := (.obj g23 (.cells o.c.toArray 44) :: .obj g10 (.cells D1.sc.toArray 29) :: (P1.pcs gst ++ (F2 ++ (F1 ++ X))))) A M rfl rfl (za rfl rfl rfl (by kernel_rfl) M 1 rfl rfl rfl) 1 rfl rfl rfl ?_
       intro w104 M
       refine qa ?_
       replace M : Mg w w104 (.obj g10 (.cells D1.sc.toArray 29) :: (P1.pcs gst ++ (F2 ++ (F1 ++ X)))) := (M.bring 1 rfl rfl).sub (cc (cn (.refl _)))
       exact hJ29 _ _ ⟨0, seS P.ks P.rr o.r o.t o.i o.v.tr, P1, D1, (F2 ++ (F1 ++ X)), ⟨(hpl1.more hF2), hD1, hdk1.trans hk1.symm, hdr1.trans hr1.symm⟩, A.keep _ (by repeat' constructor), M⟩
      ·
       have hb98' := ne_of_beq_false hb98
       refine sdc A qr hb98 λa A↦?_
       refine sda A λa A↦?_
       refine qa (hK97 _ _ (wp_cond_false (A.ev rfl) ?_))
       refine wsk fun K105 hK105 => wrl ?_
       rcases tf ((o.kd == 5)) with hb106 | hb106
       ·
        have hb106' := eq_of_beq hb106
        refine sdc A qr hb106 λa A↦?_
        refine sda A λa A↦?_
        refine qa (hK105 _ _ (wp_cond_true (A.ev rfl) ?_))
        refine wsk fun K107 hK107 => wrl (sdm A λa A↦?_)
        refine sdo (v := pA g23 1) A (qb qbg rfl rfl) λa A↦?_
        refine sdo A (qh M o93 rfl 0 rfl rfl) λa A↦?_
        refine sdo (v := pA g23 2) A (qb vb rfl rfl) λa A↦?_
        refine sdo A (qh M o93 rfl 0 rfl rfl) λa A↦?_
        refine sct A (ef rfl rfl) (jcc (EE := [.obj g23 (.cells o.c.toArray 44), .obj g10 (.cells D.sc.toArray 29)]) hpl o.r o.t M) ?_
        rintro _ w109 ⟨rfl, hM108⟩
        replace M : Mg w w109 (.obj g23 (.cells o.c.toArray 44) :: .obj g10 (.cells D.sc.toArray 29) :: (P.pcs gst ++ X)) := hM108
        refine ⟨_, rfl, ?_⟩
        intro a A
        refine sdm A λa A↦?_
        iterate 2 refine sdo A (zb (vs := [bV ((isS P.ks P.rr o.r o.t).1), iV ((isS P.ks P.rr o.r o.t).2)]) rfl rfl) λa A↦?_
        iterate 2 refine sda A λa A↦?_
        refine qa (hK107 _ _ (wsk fun K110 hK110 => wrl (sdo A (qz M jr rfl 1 rfl (cs := D.sc) rfl rfl) λa A↦?_)))
        refine sdo (v := pA g23 1) A (qb qbg rfl rfl) λa A↦?_
        refine sdo A (qh M o93 rfl 0 rfl rfl) λa A↦?_
        refine sdo (v := pA g23 2) A (qb vb rfl rfl) λa A↦?_
        refine sdo A (qh M o93 rfl 0 rfl rfl) λa A↦?_
        refine sct A (ef rfl rfl) (jcb (EE := [.obj g23 (.cells o.c.toArray 44), .obj g10 (.cells D.sc.toArray 29)]) hD hkk hrr hpl.ws hpl (qi (by simp) (qi (by simp) (qk qm))) o.r o.t M) ?_
        rintro _ w112 ⟨rfl, hM111⟩
        replace M : Mg w w112 (.obj g23 (.cells o.c.toArray 44) :: .obj g10 (.cells D.sc.toArray 29) :: (P.pcs gst ++ X)) := hM111
        refine ⟨_, rfl, ?_⟩
        intro a A
        refine sdm A λa A↦?_
        iterate 2 refine sdo A (zb (vs := [bV ((isS P.ks P.rr o.r o.t).1), iV ((isS P.ks P.rr o.r o.t).2)]) rfl rfl) λa A↦?_
        iterate 2 refine sda A λa A↦?_
        refine qa (hK110 _ _ (wsk fun K113 hK113 => wsk fun K114 hK114 => wrl ?_))
        iterate 2 refine sdm A λa A↦?_
        refine sdo (v := bV false) A (qg rfl rfl (fun w => ((vi Tryz.underlying4) w).trans (by rw [show (!((isS P.ks P.rr o.r o.t).1 == (isS P.ks P.rr o.r o.t).1)) = false from (by simp)]))) λa A↦?_
        refine qa (hK114 _ _ (wp_cond_false (A.ev rfl) ?_))
        refine wp_skip (hK113 _ _ (wrl ?_))
        iterate 2 refine sdm A λa A↦?_
        iterate 2 refine sda A λa A↦?_
        refine qa ?_
        replace M : Mg w w112 (.obj g10 (.cells D.sc.toArray 29) :: (P.pcs gst ++ X)) := (M.bring 1 rfl rfl).sub (cc (cn (.refl _)))
        exact hJ29 _ _ ⟨0, (isS P.ks P.rr o.r o.t).2, P, D, X, ⟨hpl, hD, hkk, hrr⟩, A.keep _ (by repeat' constructor), M⟩
       ·
        have hb106' := ne_of_beq_false hb106
        refine sdc A qr hb106 λa A↦?_
        refine sda A λa A↦?_
        refine qa (hK105 _ _ (wp_cond_false (A.ev rfl) ?_))
        refine wsk fun K115 hK115 => wrl ?_
        rcases tf ((o.kd == 6)) with hb116 | hb116
        ·
         have hb116' := eq_of_beq hb116
         refine sdc A qr hb116 λa A↦?_
         refine sda A λa A↦?_
         refine qa (hK115 _ _ (wp_cond_true (A.ev rfl) ?_))
         refine wsk fun K117 hK117 => wrl (sdm A λa A↦?_)
         refine sdo (v := pA g23 1) A (qb qbg rfl rfl) λa A↦?_
         refine sdo A (qh M o93 rfl 0 rfl rfl) λa A↦?_
         refine sct A (ef rfl rfl) (zsb (EE := [.obj g23 (.cells o.c.toArray 44), .obj g10 (.cells D.sc.toArray 29)]) hpl o.r M) ?_
         rintro _ w119 ⟨rfl, hM118⟩
         replace M : Mg w w119 (.obj g23 (.cells o.c.toArray 44) :: .obj g10 (.cells D.sc.toArray 29) :: (P.pcs gst ++ X)) := hM118
         refine ⟨_, rfl, ?_⟩
         intro a A
         refine sdm A λa A↦?_
         iterate 2 refine sdo A (zb (vs := [iV ((yv P.ks P.rr o.r).1), iV ((yv P.ks P.rr o.r).2)]) rfl rfl) λa A↦?_
         iterate 2 refine sda A λa A↦?_
         refine qa (hK117 _ _ (wsk fun K120 hK120 => wrl (sdo A (qz M jr rfl 1 rfl (cs := D.sc) rfl rfl) λa A↦?_)))
         refine sdo (v := pA g23 1) A (qb qbg rfl rfl) λa A↦?_
         refine sdo A (qh M o93 rfl 0 rfl rfl) λa A↦?_
         refine sct A (ef rfl rfl) (zsa (EE := [.obj g23 (.cells o.c.toArray 44), .obj g10 (.cells D.sc.toArray 29)]) hD hkk hrr hpl.ws hpl (qi (by simp) (qi (by simp) (qk qm))) o.r M) ?_
         rintro _ w122 ⟨rfl, hM121⟩
         replace M : Mg w w122 (.obj g23 (.cells o.c.toArray 44) :: .obj g10 (.cells D.sc.toArray 29) :: (P.pcs gst ++ X)) := hM121
         refine ⟨_, rfl, ?_⟩
         intro a A
         refine sdm A λa A↦?_
         iterate 2 refine sdo A (zb (vs := [iV ((yv P.ks P.rr o.r).1), iV ((yv P.ks P.rr o.r).2)]) rfl rfl) λa A↦?_
         iterate 2 refine sda A λa A↦?_
         refine qa (hK120 _ _ (wsk fun K123 hK123 => wrl (sdm A λa A↦?_)))
         refine sdo (v := pA g23 2) A (qb vb rfl rfl) λa A↦?_
         refine sdo A (qh M o93 rfl 0 rfl rfl) λa A↦?_
         rcases tf (okT P.ks.length o.t) with hb124 | hb124
         ·
          have hok9 := ke hb124
          have hk16 := hpl.ws.kl
          have hc16 := hpl.ws.cnt16 hok9.2
          refine sct A (ef rfl rfl) (zai (EE := [.obj g23 (.cells o.c.toArray 44), .obj g10 (.cells D.sc.toArray 29)]) hpl o.t (zxa hb124) M) ?_
          rintro _ w126 ⟨rfl, hM125⟩
          replace M : Mg w w126 (.obj g23 (.cells o.c.toArray 44) :: .obj g10 (.cells D.sc.toArray 29) :: (P.pcs gst ++ X)) := hM125
          refine ⟨_, rfl, ?_⟩
          intro a A
          refine sdm A λa A↦?_
          iterate 2 refine sdo A (zb (vs := [iV (((cnt P.ks o.t : Nat) : Int)), iV 0]) rfl rfl) λa A↦?_
          iterate 2 refine sda A λa A↦?_
          refine qa (hK123 _ _ (wsk fun K127 hK127 => wrl (sdo A (qz M jr rfl 1 rfl (cs := D.sc) rfl rfl) λa A↦?_)))
          refine sdo (v := pA g23 2) A (qb vb rfl rfl) λa A↦?_
          refine sdo A (qh M o93 rfl 0 rfl rfl) λa A↦?_
          refine sct A (ef rfl rfl) (qpf (EE := [.obj g23 (.cells o.c.toArray 44), .obj g10 (.cells D.sc.toArray 29)]) hD hkk hrr hpl.ws hpl (qi (by simp) (qi (by simp) (qk qm))) o.t (zxa hb124) M) ?_
          rintro _ w129 ⟨rfl, hM128⟩
          replace M : Mg w w129 (.obj g23 (.cells o.c.toArray 44) :: .obj g10 (.cells D.sc.toArray 29) :: (P.pcs gst ++ X)) := hM128
          refine ⟨_, rfl, ?_⟩
          intro a A
          refine sdm A λa A↦?_
          iterate 2 refine sdo A (zb (vs := [iV (((cnt P.ks o.t : Nat) : Int)), iV 0]) rfl rfl) λa A↦?_
          iterate 2 refine sda A λa A↦?_
          refine qa (hK127 _ _ (wsk fun K130 hK130 => wrl (sdm A λa A↦?_)))
          refine sdo (v := pA g23 2) A (qb vb rfl rfl) λa A↦?_
          refine sdo A (qh M o93 rfl 0 rfl rfl) λa A↦?_
          refine sct A (ef rfl rfl) (zxc (EE := [.obj g23 (.cells o.c.toArray 44), .obj g10 (.cells D.sc.toArray 29)]) hpl (qi (by simp) (qi (by simp) (qk qm))) o.t hb124 M) ?_
          rintro _ w132 ⟨t2, F1, rfl, ⟨hk2, hLt, hF1⟩, hM131⟩
          replace M : Mg w w132 (.obj g23 (.cells o.c.toArray 44) :: .obj g10 (.cells D.sc.toArray 29) :: (P.pcs gst ++ (F1 ++ X))) := hM131
          refine ⟨_, rfl, ?_⟩
          intro a A
          refine sdm A λa A↦?_
          iterate 2 refine sdo A (zb (vs := [.agg t2.c.toArray, iV 0]) rfl rfl) λa A↦?_
          refine zy (vs := [.string (⟨#[]⟩), iV 0, .slice none 0 0, .slice none 0 0, bV false, bV false, .string (⟨#[]⟩)]) (t := 33) A M rfl rfl rfl pg (zv (z := .agg #[.string (⟨#[]⟩), iV 0, .slice none 0 0, .slice none 0 0, bV false, bV false, .string (⟨#[]⟩)]) (by kernel_rfl) rfl) (by decide) ?_
          intro g133 w134 M a A
          refine zq (L' := (.obj g133 (.cells t2.c.toArray 33) :: .obj g23 (.cells o.c.toArray 44) :: .obj g10 (.cells D.sc.toArray 29) :: (P.pcs gst ++ (F1 ++ X)))) A M rfl rfl (za rfl rfl rfl (by kernel_rfl) M 0 rfl rfl rfl) 0 rfl rfl rfl ?_
          intro w135 M
          refine sda A λa A↦?_
          refine qa (hK130 _ _ (wsk fun K136 hK136 => zp (S := fun w1 => Mg w w1 (.obj g133 (.cells t2.c.toArray 33) :: .obj g23 (.cells o.c.toArray 44) :: .obj g10 (.cells D.sc.toArray 29) :: (P.pcs gst ++ (F1 ++ X)))) (by kernel_rfl) ?_))
          replace M := M.drew
          refine qe A 0 rfl rfl rfl rfl hP (M.sub (cc (cc (cc (List.Sublist.refl _))))) (λ_ M↦ql rfl) λa A↦?_
          refine qe A 1 rfl rfl rfl rfl hP (M.sub (cc (cc (cc (List.Sublist.refl _))))) (λ_ M↦ql rfl) λa A↦?_
          refine qe (v := bV false) A 2 rfl rfl rfl rfl hP (M.sub (cc (cc (cc (List.Sublist.refl _))))) (λ_ M↦qg rfl rfl (fun w => (zg w).trans (by rw [show ((((cnt P.ks o.t : Nat) : Int) != ((cnt P.ks o.t : Nat) : Int))) = false from (by simp)]))) λa A↦?_
          refine qe A 3 rfl rfl rfl rfl hP (M.sub (cc (cc (cc (List.Sublist.refl _))))) (λ_ M↦ql rfl) λa A↦?_
          refine qe A 4 rfl rfl rfl rfl hP (M.sub (cc (cc (cc (List.Sublist.refl _))))) (λ_ M↦ql rfl) λa A↦?_
          refine qe A 5 rfl rfl rfl rfl hP (M.sub (cc (cc (cc (List.Sublist.refl _))))) (λ_ M↦ql rfl) λa A↦?_
          refine qe (v := bV false) A 6 rfl rfl rfl rfl hP (M.sub (cc (cc (cc (List.Sublist.refl _))))) (λ_ M↦qg rfl rfl (fun w => by kernel_rfl)) λa A↦?_
          refine qe (v := bV false) A 7 rfl rfl rfl rfl hP (M.sub (cc (cc (cc (List.Sublist.refl _))))) (λ_ M↦jc rfl rfl rfl rfl) λa A↦?_
          refine qe A 8 rfl rfl rfl rfl hP (M.sub (cc (cc (cc (List.Sublist.refl _))))) (λ_ M↦ql rfl) λa A↦?_
          refine qe A 9 rfl rfl rfl rfl hP (M.sub (cc (cc (cc (List.Sublist.refl _))))) (λ_ M↦ql rfl) λa A↦?_
          refine qe A 10 rfl rfl rfl rfl hP (M.sub (cc (cc (cc (List.Sublist.refl _))))) (λ_ M↦ql rfl) λa A↦?_
          refine qe (v := bV false) A 11 rfl rfl rfl rfl hP (M.sub (cc (cc (cc (List.Sublist.refl _))))) (λ_ M↦qg rfl rfl (fun w => by kernel_rfl)) λa A↦?_
          refine qe (v := bV false) A 12 rfl rfl rfl rfl hP (M.sub (cc (cc (cc (List.Sublist.refl _))))) (λ_ M↦jc rfl rfl rfl rfl) λa A↦?_
          refine qe A 13 rfl rfl rfl rfl hP (M.sub (cc (cc (cc (List.Sublist.refl _))))) (λ_ M↦ql rfl) λa A↦?_
          refine qe A 14 rfl rfl rfl rfl hP (M.sub (cc (cc (cc (List.Sublist.refl _))))) (λ_ M↦ql rfl) λa A↦?_
          refine qe (v := bV true) A 15 rfl rfl rfl rfl hP (M.sub (cc (cc (cc (List.Sublist.refl _))))) (λ_ M↦qg rfl rfl (fun w => by kernel_rfl)) λa A↦?_
          refine qe A 16 rfl rfl rfl rfl hP (M.sub (cc (cc (cc (List.Sublist.refl _))))) (λ_ M↦ql rfl) λa A↦?_
          refine qe A 17 rfl rfl rfl rfl hP (M.sub (cc (cc (cc (List.Sublist.refl _))))) (λ_ M↦qz M qaj rfl 0 rfl (cs := t2.c) rfl rfl) λa A↦?_
          refine qe (v := pA g10 0) A 18 rfl rfl rfl rfl hP (M.sub (cc (cc (cc (List.Sublist.refl _))))) (λ_ M↦qb xt rfl rfl) λa A↦?_
          refine qe A 19 rfl rfl rfl rfl hP (M.sub (cc (cc (cc (List.Sublist.refl _))))) (λ_ M↦qh M xn rfl 2 rfl rfl) λa A↦?_
          refine qe (v := pA g23 2) A 20 rfl rfl rfl rfl hP (M.sub (cc (cc (cc (List.Sublist.refl _))))) (λ_ M↦qb vb rfl rfl) λa A↦?_
          refine qe A 21 rfl rfl rfl rfl hP (M.sub (cc (cc (cc (List.Sublist.refl _))))) (λ_ M↦qh M o93 rfl 1 rfl rfl) λa A↦?_
          have hdl9 : D.ts.length = P.ks.length := by rw [← hkk]; exact (List.length_map _).symm
          obtain ⟨y9, b9, o9, iy9, my9, ry9, ly9, Hy9⟩ := ((hD.more F1) _ ((M.dropn 3).sub (List.sublist_append_right _ _))).1.at_ (i := o.t.toNat) (by omega)
          have hyk : t2.k = y9.k := by
           have q1 := hk2 rfl
           have q2 := zn iy9
           rw [show D.ts.map Ty.k = P.ks from hkk, q1] at q2
           exact Option.some.inj q2
          have hnf9 := hpl.ws.nf16 (hk2 rfl)
          have hml9 := hpl.ws.ml _ (List.mem_of_getElem? (hk2 rfl))
          have hb1 : t2.fs.length ≤ 2000000 := by show t2.k.fs.length ≤ _; omega
          have hb2 : y9.fs.length ≤ 2000000 := by show y9.k.fs.length ≤ _; rw [← hyk]; omega
          have hb3 : t2.ms.length ≤ 2000000 := by show t2.k.ms.length ≤ _; omega
          have hb4 : y9.ms.length ≤ 2000000 := by show y9.k.ms.length ≤ _; rw [← hyk]; omega
          refine qe (v := pA b9 (o9 + o.t.toNat * 7)) A 22 rfl rfl rfl rfl hP (M.sub (cc (cc (cc (List.Sublist.refl _))))) (λ_ M↦qx (k := o.t.toNat) Tryz.underlying26 (by kernel_rfl) rfl rfl (by omega) ly9 (by omega)) λa A↦?_
          refine qe (v := .agg y9.c.toArray) A 23 rfl rfl rfl rfl hP (M.sub (cc (cc (cc (List.Sublist.refl _))))) (λ_ M↦zsc (hD.more F1) ((M.dropn 3).sub (List.sublist_append_right _ _)) iy9 ly9 qaj rfl) λa A↦?_
          refine zd (by kernel_rfl) (jf A 24 rfl rfl rfl rfl (zj rfl rfl (fun w => by kernel_rfl)) (qeh (ya := t2) (yb := y9) (v := true) (hLt _ (((M.dropn 3).sub (List.sublist_append_right _ _)).sub (List.sublist_append_left _ _))) (((hD.more F1) _ ((M.dropn 3).sub (List.sublist_append_right _ _))).1.own y9 my9) hb1 hb2 hb3 hb4 (by rw [hyk]; exact zbj _)) ?_)
          rintro _ w138 ⟨rfl, hb137⟩
          replace M := M.call hb137
          refine ⟨_, rfl, (M.sub (cc (cc (cc (List.Sublist.refl _))))), ?_⟩
          intro a A
          refine qe (v := bV false) A 25 rfl rfl rfl rfl hP (M.sub (cc (cc (cc (List.Sublist.refl _))))) (λ_ M↦zi rfl zm) λa A↦?_
          refine qe (v := bV false) A 26 rfl rfl rfl rfl hP (M.sub (cc (cc (cc (List.Sublist.refl _))))) (λ_ M↦jc rfl rfl rfl rfl) λa A↦?_
          refine qe (v := bV false) A 27 rfl rfl rfl rfl hP (M.sub (cc (cc (cc (List.Sublist.refl _))))) (λ_ M↦jc rfl rfl rfl rfl) λa A↦?_
          refine ze (by kernel_rfl) ?_
          refine hK136 _ _ (wp_cond_false (A.ev rfl) ?_)
          refine wp_skip ?_
          replace M : Mg w w138 (.obj g10 (.cells D.sc.toArray 29) :: (P.pcs gst ++ (F1 ++ X))) := (M.bring 2 rfl rfl).sub (cc (cn (cn (.refl _))))
          exact hJ29 _ _ ⟨(yv P.ks P.rr o.r).1, (yv P.ks P.rr o.r).2, P, D, (F1 ++ X), ⟨(hpl.more hF1), (hD.more F1), hkk, hrr⟩, A.keep _ (by repeat' constructor), M⟩
         ·
          have hok9 := qgb hb124
          have hk16 := hpl.ws.kl
          
          refine sct A (ef rfl rfl) (zai (EE := [.obj g23 (.cells o.c.toArray 44), .obj g10 (.cells D.sc.toArray 29)]) hpl o.t (zxb hb124) M) ?_
          rintro _ w140 ⟨rfl, hM139⟩
          replace M : Mg w w140 (.obj g23 (.cells o.c.toArray 44) :: .obj g10 (.cells D.sc.toArray 29) :: (P.pcs gst ++ X)) := hM139
          refine ⟨_, rfl, ?_⟩
          intro a A
          refine sdm A λa A↦?_
          iterate 2 refine sdo A (zb (vs := [iV 0, iV 7]) rfl rfl) λa A↦?_
          iterate 2 refine sda A λa A↦?_
          refine qa (hK123 _ _ (wsk fun K141 hK141 => wrl (sdo A (qz M jr rfl 1 rfl (cs := D.sc) rfl rfl) λa A↦?_)))
          refine sdo (v := pA g23 2) A (qb vb rfl rfl) λa A↦?_
          refine sdo A (qh M o93 rfl 0 rfl rfl) λa A↦?_
          refine sct A (ef rfl rfl) (qpf (EE := [.obj g23 (.cells o.c.toArray 44), .obj g10 (.cells D.sc.toArray 29)]) hD hkk hrr hpl.ws hpl (qi (by simp) (qi (by simp) (qk qm))) o.t (zxb hb124) M) ?_
          rintro _ w143 ⟨rfl, hM142⟩
          replace M : Mg w w143 (.obj g23 (.cells o.c.toArray 44) :: .obj g10 (.cells D.sc.toArray 29) :: (P.pcs gst ++ X)) := hM142
          refine ⟨_, rfl, ?_⟩
          intro a A
          refine sdm A λa A↦?_
          iterate 2 refine sdo A (zb (vs := [iV 0, iV 7]) rfl rfl) λa A↦?_
          iterate 2 refine sda A λa A↦?_
          refine qa (hK141 _ _ (wsk fun K144 hK144 => wrl (sdm A λa A↦?_)))
          refine sdo (v := pA g23 2) A (qb vb rfl rfl) λa A↦?_
          refine sdo A (qh M o93 rfl 0 rfl rfl) λa A↦?_
          refine sct A (ef rfl rfl) (zxc (EE := [.obj g23 (.cells o.c.toArray 44), .obj g10 (.cells D.sc.toArray 29)]) hpl (qi (by simp) (qi (by simp) (qk qm))) o.t hb124 M) ?_
          rintro _ w146 ⟨t2, F1, rfl, ⟨hk2, hLt, hF1⟩, hM145⟩
          replace M : Mg w w146 (.obj g23 (.cells o.c.toArray 44) :: .obj g10 (.cells D.sc.toArray 29) :: (P.pcs gst ++ (F1 ++ X))) := hM145
          refine ⟨_, rfl, ?_⟩
          intro a A
          refine sdm A λa A↦?_
          iterate 2 refine sdo A (zb (vs := [.agg t2.c.toArray, iV 7]) rfl rfl) λa A↦?_
          refine zy (vs := [.string (⟨#[]⟩), iV 0, .slice none 0 0, .slice none 0 0, bV false, bV false, .string (⟨#[]⟩)]) (t := 33) A M rfl rfl rfl pg (zv (z := .agg #[.string (⟨#[]⟩), iV 0, .slice none 0 0, .slice none 0 0, bV false, bV false, .string (⟨#[]⟩)]) (by kernel_rfl) rfl) (by decide) ?_
          intro g147 w148 M a A
          refine zq (L' := (.obj g147 (.cells t2.c.toArray 33) :: .obj g23 (.cells o.c.toArray 44) :: .obj g10 (.cells D.sc.toArray 29) :: (P.pcs gst ++ (F1 ++ X)))) A M rfl rfl (za rfl rfl rfl (by kernel_rfl) M 0 rfl rfl rfl) 0 rfl rfl rfl ?_
          intro w149 M
          refine sda A λa A↦?_
          refine qa (hK144 _ _ (wsk fun K150 hK150 => zp (S := fun w1 => Mg w w1 (.obj g147 (.cells t2.c.toArray 33) :: .obj g23 (.cells o.c.toArray 44) :: .obj g10 (.cells D.sc.toArray 29) :: (P.pcs gst ++ (F1 ++ X)))) (by kernel_rfl) ?_))
          replace M := M.drew
          refine qe A 0 rfl rfl rfl rfl hP (M.sub (cc (cc (cc (List.Sublist.refl _))))) (λ_ M↦ql rfl) λa A↦?_
          refine qe A 1 rfl rfl rfl rfl hP (M.sub (cc (cc (cc (List.Sublist.refl _))))) (λ_ M↦ql rfl) λa A↦?_
          refine qe (v := bV false) A 2 rfl rfl rfl rfl hP (M.sub (cc (cc (cc (List.Sublist.refl _))))) (λ_ M↦qg rfl rfl (fun w => by kernel_rfl)) λa A↦?_
          refine qe A 3 rfl rfl rfl rfl hP (M.sub (cc (cc (cc (List.Sublist.refl _))))) (λ_ M↦ql rfl) λa A↦?_
          refine qe A 4 rfl rfl rfl rfl hP (M.sub (cc (cc (cc (List.Sublist.refl _))))) (λ_ M↦ql rfl) λa A↦?_
          refine qe A 5 rfl rfl rfl rfl hP (M.sub (cc (cc (cc (List.Sublist.refl _))))) (λ_ M↦ql rfl) λa A↦?_
          refine qe (v := bV false) A 6 rfl rfl rfl rfl hP (M.sub (cc (cc (cc (List.Sublist.refl _))))) (λ_ M↦qg rfl rfl (fun w => by kernel_rfl)) λa A↦?_
          refine qe (v := bV false) A 7 rfl rfl rfl rfl hP (M.sub (cc (cc (cc (List.Sublist.refl _))))) (λ_ M↦jc rfl rfl rfl rfl) λa A↦?_
          refine qe A 8 rfl rfl rfl rfl hP (M.sub (cc (cc (cc (List.Sublist.refl _))))) (λ_ M↦ql rfl) λa A↦?_
          refine qe A 9 rfl rfl rfl rfl hP (M.sub (cc (cc (cc (List.Sublist.refl _))))) (λ_ M↦ql rfl) λa A↦?_
          refine qe A 10 rfl rfl rfl rfl hP (M.sub (cc (cc (cc (List.Sublist.refl _))))) (λ_ M↦ql rfl) λa A↦?_
          refine qe (v := bV false) A 11 rfl rfl rfl rfl hP (M.sub (cc (cc (cc (List.Sublist.refl _))))) (λ_ M↦qg rfl rfl (fun w => by kernel_rfl)) λa A↦?_
          refine qe (v := bV false) A 12 rfl rfl rfl rfl hP (M.sub (cc (cc (cc (List.Sublist.refl _))))) (λ_ M↦jc rfl rfl rfl rfl) λa A↦?_
          refine qe A 13 rfl rfl rfl rfl hP (M.sub (cc (cc (cc (List.Sublist.refl _))))) (λ_ M↦ql rfl) λa A↦?_
          refine qe A 14 rfl rfl rfl rfl hP (M.sub (cc (cc (cc (List.Sublist.refl _))))) (λ_ M↦ql rfl) λa A↦?_
          refine qe (v := bV false) A 15 rfl rfl rfl rfl hP (M.sub (cc (cc (cc (List.Sublist.refl _))))) (λ_ M↦qg rfl rfl (fun w => by kernel_rfl)) λa A↦?_
          refine qe A 16 rfl rfl rfl rfl hP (M.sub (cc (cc (cc (List.Sublist.refl _))))) (λ_ M↦ql rfl) λa A↦?_
          refine je A 17 rfl rfl rfl rfl hP (M.sub (cc (cc (cc (List.Sublist.refl _))))) λa A↦?_
          refine je A 18 rfl rfl rfl rfl hP (M.sub (cc (cc (cc (List.Sublist.refl _))))) λa A↦?_
          refine je A 19 rfl rfl rfl rfl hP (M.sub (cc (cc (cc (List.Sublist.refl _))))) λa A↦?_
          refine je A 20 rfl rfl rfl rfl hP (M.sub (cc (cc (cc (List.Sublist.refl _))))) λa A↦?_
          refine je A 21 rfl rfl rfl rfl hP (M.sub (cc (cc (cc (List.Sublist.refl _))))) λa A↦?_
          refine je A 22 rfl rfl rfl rfl hP (M.sub (cc (cc (cc (List.Sublist.refl _))))) λa A↦?_
          refine je A 23 rfl rfl rfl rfl hP (M.sub (cc (cc (cc (List.Sublist.refl _))))) λa A↦?_
          refine je A 24 rfl rfl rfl rfl hP (M.sub (cc (cc (cc (List.Sublist.refl _))))) λa A↦?_
          refine je A 25 rfl rfl rfl rfl hP (M.sub (cc (cc (cc (List.Sublist.refl _))))) λa A↦?_
          refine qe (v := bV false) A 26 rfl rfl rfl rfl hP (M.sub (cc (cc (cc (List.Sublist.refl _))))) (λ_ M↦jc rfl rfl rfl rfl) λa A↦?_
          refine qe (v := bV false) A 27 rfl rfl rfl rfl hP (M.sub (cc (cc (cc (List.Sublist.refl _))))) (λ_ M↦jc rfl rfl rfl rfl) λa A↦?_
          refine ze (by kernel_rfl) ?_
          refine hK150 _ _ (wp_cond_false (A.ev rfl) ?_)
          refine wp_skip ?_
          replace M : Mg w w149.drew (.obj g10 (.cells D.sc.toArray 29) :: (P.pcs gst ++ (F1 ++ X))) := (M.bring 2 rfl rfl).sub (cc (cn (cn (.refl _))))
          exact hJ29 _ _ ⟨(yv P.ks P.rr o.r).1, (yv P.ks P.rr o.r).2, P, D, (F1 ++ X), ⟨(hpl.more hF1), (hD.more F1), hkk, hrr⟩, A.keep _ (by repeat' constructor), M⟩
        ·
         have hb116' := ne_of_beq_false hb116
         refine sdc A qr hb116 λa A↦?_
         refine sda A λa A↦?_
         refine qa (hK115 _ _ (wp_cond_false (A.ev rfl) ?_))
         refine wp_skip ?_
         replace M : Mg w w25 (.obj g10 (.cells D.sc.toArray 29) :: (P.pcs gst ++ X)) := (M.bring 1 rfl rfl).sub (cc (cn (.refl _)))
         exact hJ29 _ _ ⟨0, 0, P, D, X, ⟨hpl, hD, hkk, hrr⟩, A.keep _ (by repeat' constructor), M⟩
 ·
  have hb20' := of_decide_eq_false hb20
  refine sdc A qw hb20 λa A↦?_
  refine qa (hK19 _ _ (wp_cond_false (A.ev rfl) ?_))
  refine wp_exit (hK13 _ _ (wsk fun K151 hK151 => wrl (sda A λa A↦?_)))
  refine qa (hK151 _ _ (wp_ret (hret _ _ (en1 A rfl (qf rfl) ?_))))
  exact ⟨rfl, M.bel⟩
end Go.Proofs.YtokgmpjblnpjmaaGreatDoor.G
namespace Go.Proofs.YtokgmpjblnpjmaaGreatDoor
set_option linter.unusedVariables false

section
variable {H : Type}
theorem zaj (d : DataW H) : 0 < Rows.uptoBulk d := by
  unfold Rows.uptoBulk
  split <;> omega
theorem qpg : ∀ l : List (DataW H), l.length ≤ Rows.uptoBulkAll l
  | [] => by simp
  | d :: l => by
    have h1 := zaj d
    have h2 := qpg l
    simp only [Rows.uptoBulkAll, List.length_cons]
    omega
theorem qhb (xs ys : List (DataW H)) : xs.length ≤ Rows.uptoBulk (.slice xs ys) := by
  have := qpg xs
  simp only [Rows.uptoBulk]
  omega
theorem qfh {d : DataW H} : ∀ {l : List (DataW H)}, d ∈ l → Rows.uptoBulk d ≤ Rows.uptoBulkAll l
  | c :: l, h => by
    simp only [Rows.uptoBulkAll]
    rcases List.mem_cons.1 h with rfl | h
    · omega
    · have := qfh h
      omega
theorem zwc {l : List (DataW H)} (hk : Rows.uptoSmall H l = true) {j : Nat} {d : DataW H} (hd : l[j]? = some d) : Rows.uptoBulk d ≤ 1048576 :=
  Nat.le_trans (qfh (List.mem_of_getElem? hd)) (of_decide_eq_true hk)
end
end Go.Proofs.YtokgmpjblnpjmaaGreatDoor
namespace Go.Proofs.YtokgmpjblnpjmaaGreatDoor.G
open Go.ChangeShapes Go.WideShapes Go.ChangeAt Go.RowKit Go.Joins Go.Deep
set_option linter.unusedVariables false
set_option linter.unusedSimpArgs false
set_option maxRecDepth 100000

section
variable {H : Type} {enc : TypeId × Value → H} {W : World}
end
theorem zmf {w : World} {x : Addr} {len cap : Nat} {zs : List Int} (hl : len ≤ cap) (hz : zs.length = cap)
    (hc : ∀ i, i < zs.length → w.cell? (x.add i) = some (.int .u8 (zs.getD i 0))) (hw : ∀ n ∈ zs, (Lit.int .u8 n).wf = true) :
    ∃ l : List UInt8, l.length = len ∧ Rb w (some x) l := by
  have hbd : ∀ n ∈ zs, 0 ≤ n ∧ n < 256 := by
    intro n hn
    have := bounds_u8 (hw n hn)
    omega
  refine ⟨(zs.take len).map b8, by rw [List.length_map, List.length_take]; omega, ⟨fun hne => ?_⟩⟩
  have hlen : ((zs.take len).map b8).length = len := by rw [List.length_map, List.length_take]; omega
  have h0 : 0 < len := by
    apply Classical.byContradiction
    intro h
    have : len = 0 := by omega
    subst this
    simp at hne
  obtain ⟨b, off, spot⟩ := x
  have hspot : spot = none := by
    have := hc 0 (by omega)
    simp only [World.cell?, Addr.add] at this
    split at this
    · cases spot with
      | none => rfl
      | some s => simp at this
    · cases this
  subst hspot
  have hcj : ∀ j, j < len → w.cell? ⟨b, off + j, none⟩ = some (.int .u8 (((((zs.take len).map b8).getD j 0).toNat : Nat) : Int)) := by
    intro j hj
    have h1 := hc j (by omega)
    rw [Addr.add_lit] at h1
    rw [h1]
    have hjz : j < zs.length := by omega
    have h2 := hbd zs[j] (List.getElem_mem hjz)
    have e1 : zs.getD j 0 = zs[j] := by simp [hjz]
    have e2 : ((zs.take len).map b8).getD j 0 = b8 zs[j] := by simp [List.getD_eq_getElem?_getD, hj, hjz]
    rw [e1, e2, zxe h2.1 h2.2]
  refine ⟨b, off, rfl, ?_, fun j hj => hcj j (by omega)⟩
  have := hcj 0 h0
  apply Classical.byContradiction
  intro h
  simp [World.cell?, Array.getElem?_eq_none (Nat.le_of_not_lt h)] at this
section
variable {H : Type} {enc : TypeId × Value → H} {W : World}
end
theorem Rb.take {w : World} {so : Option Addr} {l : List UInt8} (h : Rb w so l) (n : Nat) : Rb w so (l.take n) := by
  refine ⟨fun hne => ?_⟩
  obtain ⟨b, off, h1, h2, h3⟩ := h.pos (fun k => hne (by rw [k]; simp))
  refine ⟨b, off, h1, h2, fun j hj => ?_⟩
  rw [List.length_take] at hj
  rw [h3 j (by omega), List.getD_eq_getElem?_getD, List.getD_eq_getElem?_getD, List.getElem?_take_of_lt (by omega)]
section
variable {P : Program} {w : World} {l : List (Nat × Value)} {dst : Option Tmp} {ty : TypeId} {pos : String} {after : Array Edge} {guard : Option (Nat × Bool)}
end
def Nu.cells (y : Nu) : List Value := [.bool y.q.b1, .slice y.o1 y.q.t1.length y.c1, .slice y.o2 y.q.q1.length y.c2, .bool y.q.b2, .slice y.o3 y.q.t2.length y.c3, .slice y.o4 y.q.q2.length y.c4]
theorem zsd {w : World} {b o : Nat} {v : Value} (h : w.cell? ⟨b, o, none⟩ = some v) : b < w.heap.size := by
  apply Classical.byContradiction
  intro k
  simp [World.cell?, Array.getElem?_eq_none (Nat.le_of_not_lt k)] at h
section
variable {H : Type} {enc : TypeId × Value → H} {W : World}
theorem qca (l : List (DataW H)) : Rows.uptoBulk (.agg l) = Rows.uptoBulkAll l + 1 := by simp only [Rows.uptoBulk]
theorem zba {fuel : Nat} {v : Value} {x : DataW H × List MemPlace} (h : DataW.trod enc Tryz.prog W 0 (fun _ => true) true fuel 40 [v] = some x) : ∃ so cap l, v = .slice so (l : List UInt8).length cap ∧ Rb W so l ∧ l.length ≤ cap ∧ cap ≤ 9223372036854775807 ∧ l.length ≤ Rows.uptoBulk x.1 := by
  rcases open_ints Tryz.underlying40 Tryz.underlying5 (by kernel_rfl) h with ⟨hcs, _⟩ | ⟨x, l, c, zs, hcs, _, hl, hm, hz, hx, hcell, hwz⟩
  · simp only [List.cons.injEq, and_true] at hcs
    subst hcs
    exact ⟨none, 0, [], rfl, ⟨fun k => absurd rfl k⟩, Nat.le_refl _, by decide, Nat.zero_le _⟩
  · simp only [List.cons.injEq, and_true] at hcs
    subst hcs
    obtain ⟨us, e, ha⟩ := zmf hl (by simpa using hz) hcell hwz
    subst e
    subst hx
    refine ⟨_, _, us, rfl, ha, hl, hm, ?_⟩
    simp only [if_true] at hz
    refine Nat.le_trans ?_ (qhb _ _)
    simp only [lits, List.length_map, List.length_take, List.length_drop]
    omega
theorem qje {fuel : Nat} {v : Value} {x : DataW H × List MemPlace} (h : DataW.trod enc Tryz.prog W 0 (fun _ => true) true fuel 35 [v] = some x) : ∃ ao c l, v = .slice ao (l : List Nat).length c ∧ Arg W ao c l ∧ l.length ≤ Rows.uptoBulk x.1 := by
  rcases open_ints Tryz.underlying35 Tryz.underlying116 (by kernel_rfl) h with ⟨hcs, _⟩ | ⟨x, l, c, zs, hcs, _, hl, hm, hz, hx, hcell, hwz⟩
  · cases hcs
    exact ⟨none, 0, [], rfl, arg_nil W, Nat.zero_le _⟩
  · cases hcs
    obtain ⟨us, e, ha⟩ := arg_row hl hm (by simpa using hz) hcell hwz
    subst e
    subst hx
    refine ⟨_, _, us, rfl, ha, ?_⟩
    simp only [if_true] at hz
    refine Nat.le_trans ?_ (qhb _ _)
    simp only [lits, List.length_map, List.length_take, List.length_drop]
    omega
theorem qsf {fuel : Nat} {v0 v1 v2 : Value} {x : DataW H × List MemPlace} (h : DataW.trod enc Tryz.prog W 0 (fun _ => true) true fuel 37 [v0, v1, v2] = some x) : ∃ b o1 c1 l1 o2 c2 l2, v0 = .bool b ∧ v1 = .slice o1 (l1 : List Nat).length c1 ∧ v2 = .slice o2 (l2 : List Nat).length c2 ∧ Arg W o1 c1 l1 ∧ Arg W o2 c2 l2 ∧ l1.length + l2.length ≤ Rows.uptoBulk x.1 := by
  obtain ⟨y0, y1, y2, n, hx, _, h0, h1, h2⟩ := trod_struct3 Tryz.underlying37 h
  have e0 : Tryz.prog.cellsOf 4 = 1 := by kernel_rfl
  have e1 : Tryz.prog.cellsOf 35 = 1 := by kernel_rfl
  simp only [e0, e1, List.drop_zero, List.take_succ_cons, List.take_zero, List.drop_succ_cons] at h0 h1 h2
  obtain ⟨b, rfl⟩ := trod_bool h0
  obtain ⟨o1, c1, l1, rfl, a1, k1⟩ := qje h1
  obtain ⟨o2, c2, l2, rfl, a2, k2⟩ := qje h2
  refine ⟨b, o1, c1, l1, o2, c2, l2, rfl, rfl, rfl, a1, a2, ?_⟩
  rw [hx, qca]
  simp only [Rows.uptoBulkAll]
  omega
theorem zmg {fuel : Nat} {cs : List Value} {x : DataW H × List MemPlace} (hl : cs.length = 6) (h : DataW.trod enc Tryz.prog W 0 (fun _ => true) true fuel 39 cs = some x) :
    ∃ y : Nu, cs = y.cells ∧ y.nm W ∧ LenQ y.q ∧ y.q.t1.length + y.q.q1.length + (y.q.t2.length + y.q.q2.length) ≤ Rows.uptoBulk x.1 := by
  match cs, hl with
  | [v0, v1, v2, v3, v4, v5], _ =>
    obtain ⟨y0, y1, n, hx, _, h0, h1⟩ := trod_struct2 Tryz.underlying39 h
    have e : Tryz.prog.cellsOf 37 = 3 := by kernel_rfl
    simp only [e, List.drop_zero, List.take_succ_cons, List.take_zero, List.drop_succ_cons] at h0 h1
    obtain ⟨b1, o1, c1, l1, o2, c2, l2, rfl, rfl, rfl, a1, a2, k1⟩ := qsf h0
    obtain ⟨b2, o3, c3, l3, o4, c4, l4, rfl, rfl, rfl, a3, a4, k2⟩ := qsf h1
    refine ⟨⟨⟨b1, l1, l2, b2, l3, l4⟩, o1, c1, o2, c2, o3, c3, o4, c4⟩, rfl, ⟨⟨a1.rd, a1.nil, a1.caps⟩, ⟨a2.rd, a2.nil, a2.caps⟩, ⟨a3.rd, a3.nil, a3.caps⟩, ⟨a4.rd, a4.nil, a4.caps⟩⟩, ⟨a1.len, a2.len, a3.len, a4.len⟩, ?_⟩
    rw [hx, qca]
    simp only [Rows.uptoBulkAll]
    omega
/-- One datum, as it lies in a row of cells; and a list of them. -/
def OpenD (H : Type) (enc : TypeId × Value → H) (W : World) (fuel : Nat) : Prop := ∀ (cs : List Value) (x : DataW H × List MemPlace), DataW.trod enc Tryz.prog W 0 (fun _ => true) true fuel 42 cs = some x → ∃ t : Dt, cs = t.cells ∧ t.rd W ∧ t.tr.bulk ≤ Rows.uptoBulk x.1
theorem qph {fuel : Nat} {v : Value} {x : DataW H × List MemPlace} (ih : ∀ n, n < fuel → OpenD H enc W n) (h : DataW.trod enc Tryz.prog W 0 (fun _ => true) true fuel 34 [v] = some x) :
    ∃ lo lc ts, v = .slice lo (ts : List Dt).length lc ∧ ts.length ≤ lc ∧ lc ≤ 9223372036854775807 ∧ Rt W lo ts ∧ (∀ t ∈ ts, t.rd W) ∧ Tr.bulks (ts.map Dt.tr) ≤ Rows.uptoBulk x.1 := by
  rcases DataW.trod_slice Tryz.underlying34 h with ⟨hcs, _⟩ | ⟨a, len, cap, elems, rest, n, hf, hcs, hx, _, hl, hm, hlen, hel, _, _⟩
  · simp only [List.cons.injEq, and_true] at hcs
    subst hcs
    exact ⟨none, 0, [], rfl, Nat.le_refl _, by decide, fun k => absurd rfl k, fun _ k => by simp at k, Nat.zero_le _⟩
  · simp only [List.cons.injEq, and_true] at hcs
    subst hcs
    rw [show Tryz.prog.cellsOf 42 = 11 from by kernel_rfl] at hel
    have each : ∀ i, ∃ t : Dt, i < len → t.rd W ∧ (∀ j v, t.cells[j]? = some v → W.cell? ((a.add (i * 11)).add j) = some v) ∧ ∃ y, elems[i]? = some y ∧ t.tr.bulk ≤ Rows.uptoBulk y.1 := by
      intro i
      by_cases hi : i < len
      · have h1 := hel i hi
        rw [List.getElem?_eq_getElem (by omega)] at h1
        obtain ⟨cs, h2, h3⟩ := Option.bind_eq_some_iff.1 h1
        obtain ⟨_, hlc, hcell⟩ := World.cells?_some h2
        obtain ⟨t, rfl, hr, hb⟩ := ih n (by omega) cs _ h3
        exact ⟨t, fun _ => ⟨hr, fun j v hj => by rw [hcell j (by have := (List.getElem?_eq_some_iff.1 hj).1; rw [hlc] at this; exact this)]; exact hj, _, List.getElem?_eq_getElem (by omega), hb⟩⟩
      · exact ⟨.mk ⟨0, 0, ⟨⟨false, [], [], false, [], []⟩, none, 0, none, 0, none, 0, none, 0⟩, ⟨#[]⟩, none, 0, [], none, 0⟩ [], fun k => absurd k hi⟩
    obtain ⟨F, hF⟩ := Classical.skolem.1 each
    have hget : ∀ (j : Nat) (q : Dt), ((List.range len).map F)[j]? = some q → j < len ∧ q = F j := by
      intro j q hq
      rw [List.getElem?_map] at hq
      obtain ⟨y, h1, h2⟩ := Option.map_eq_some_iff.1 hq
      obtain ⟨h3, h4⟩ := List.getElem?_eq_some_iff.1 h1
      rw [List.length_range] at h3
      rw [List.getElem_range] at h4
      subst h4
      exact ⟨h3, h2.symm⟩
    refine ⟨some a, cap, (List.range len).map F, by simp, by simpa using hl, hm, fun hne => ?_, fun t ht => ?_, ?_⟩
    · have hn : 0 < len := by
        apply Classical.byContradiction
        intro k
        exact hne (by rw [show len = 0 from by omega]; rfl)
      obtain ⟨b, off, spot⟩ := a
      have h0 := (hF 0 hn).2.1 0 _ rfl
      have hspot : spot = none := by simpa [Addr.add] using World.cell?_spot h0
      subst hspot
      refine ⟨b, off, rfl, fun i t hi => ?_⟩
      obtain ⟨hlt, rfl⟩ := hget i t hi
      have hat : ∀ j v, (F i).cells[j]? = some v → W.cell? ⟨b, off + i * 11 + j, none⟩ = some v := fun j v hj => by
        have := (hF i hlt).2.1 j v hj
        rwa [Addr.add_lit, Addr.add_lit] at this
      exact ⟨zsd (hat 0 _ rfl), hat⟩
    · obtain ⟨j, hj⟩ := List.mem_iff_getElem?.1 ht
      obtain ⟨h1, rfl⟩ := hget j t hj
      exact (hF j h1).1
    · rw [hx]
      have key : ∀ m, m ≤ len → Tr.bulks (((List.range m).map F).map Dt.tr) ≤ Rows.uptoBulkAll ((elems.map (·.1)).take m) := by
        intro m
        induction m with
        | zero => intro _; simp [Tr.bulks]
        | succ m ih2 =>
          intro hm2
          have hs : ∀ (l : List Tr) (t : Tr), Tr.bulks (l ++ [t]) = Tr.bulks l + t.bulk := by
            intro l t
            induction l with
            | nil => simp [Tr.bulks]
            | cons u l ih3 => simp only [List.cons_append, Tr.bulks, ih3]; omega
          have hu : ∀ (l : List (DataW H)) (d : DataW H), Rows.uptoBulkAll (l ++ [d]) = Rows.uptoBulkAll l + Rows.uptoBulk d := by
            intro l d
            induction l with
            | nil => simp [Rows.uptoBulkAll]
            | cons u l ih3 => simp only [List.cons_append, Rows.uptoBulkAll, ih3]; omega
          obtain ⟨_, _, y, hy, hb⟩ := hF m (by omega)
          have := ih2 (by omega)
          rw [List.range_succ, List.map_append, List.map_append, List.take_add_one, List.getElem?_map, hy]
          simp only [List.map_cons, List.map_nil, Option.map_some, Option.toList_some]
          rw [hs, hu]
          omega
      have h1 := key len (Nat.le_refl _)
      rw [List.take_of_length_le (by rw [List.length_map]; omega)] at h1
      simp only [Rows.uptoBulk]
      omega
theorem zif : ∀ fuel, OpenD H enc W fuel := by
  intro fuel
  induction fuel using Nat.strongRecOn with
  | ind fuel ih =>
    intro cs x h
    obtain ⟨xs, n, hfu, hx, hl, hxl, hf⟩ := DataW.trod_struct Tryz.underlying42 h
    rw [show Tryz.prog.cellsOf 42 = 11 from by kernel_rfl] at hl
    match cs, hl with
    | [v0, v1, v2, v3, v4, v5, v6, v7, v8, v9, v10], _ =>
      match xs, hxl with
      | [x0, x1, x2, x3, x4, x5], _ =>
        have g0 := hf 0 _ rfl
        have g1 := hf 1 _ rfl
        have g2 := hf 2 _ rfl
        have g3 := hf 3 _ rfl
        have g4 := hf 4 _ rfl
        have g5 := hf 5 _ rfl
        have c1 : Tryz.prog.cellsOf 3 = 1 := by kernel_rfl
        have c2 : Tryz.prog.cellsOf 39 = 6 := by kernel_rfl
        have c3 : Tryz.prog.cellsOf 9 = 1 := by kernel_rfl
        have c4 : Tryz.prog.cellsOf 40 = 1 := by kernel_rfl
        have c5 : Tryz.prog.cellsOf 34 = 1 := by kernel_rfl
        simp only [c1, c2, c3, c4, c5, List.drop_zero, List.take_succ_cons, List.take_zero, List.drop_succ_cons, List.getElem?_cons_zero, List.getElem?_cons_succ] at g0 g1 g2 g3 g4 g5
        obtain ⟨k, e0, _, w0⟩ := DataW.trod_int Tryz.underlying3 g0
        obtain ⟨m, e1, _, w1⟩ := DataW.trod_int Tryz.underlying3 g1
        obtain ⟨y, e2, hy, hq, b2⟩ := zmg rfl g2
        obtain ⟨s, e3, hs, hsm⟩ := DataW.trod_string Tryz.underlying9 g3
        obtain ⟨ro, rc, rl, e4, hr, hrc, hrm, b4⟩ := zba g4
        obtain ⟨lo, lc, ts, e5, hlc, hlm, hrt, hrd, b5⟩ := qph (fun n' hn' => ih n' (by omega)) g5
        have bk := bounds_i64 w0
        have bm := bounds_i64 w1
        refine ⟨.mk ⟨k, m, y, s, ro, rc, rl, lo, lc⟩ ts, ?_, ?_, ?_⟩
        · injection e0 with f0
          injection e1 with f1
          injection e3 with f3
          injection e2 with e20 g
          injection g with e21 g
          injection g with e22 g
          injection g with e23 g
          injection g with e24 g
          injection g with e25 g
          subst f0 f1 f3 e4 e5 e20 e21 e22 e23 e24 e25
          rfl
        · rw [Dt.rd_iff]
          exact ⟨⟨hy, hq, hr, hrc, hrm, bk.1, bk.2, bm.1, bm.2, hsm⟩, hlc, hlm, hrt, hrd⟩
        · rw [Dt.tr_mk, um, hx, qca]
          have h3 : Rows.uptoBulk x3.1 = s.size + 1 := by
            rw [hs]
            rw [show Rows.uptoBulk (DataW.lit (H := H) (.string s.data.toList)) = s.data.toList.length + 1 from by simp only [Rows.uptoBulk], Array.length_toList]
            rfl
          simp only [List.map_cons, List.map_nil, Rows.uptoBulkAll]
          have := zaj x0.1
          omega
end
theorem qwf {w : World} {x : Addr} {vs : List Value} (hc : ∀ (i : Nat) v, vs[i]? = some v → w.cell? (x.add i) = some v) : Rc w (some x) vs := by
  intro hne
  obtain ⟨v, h0⟩ : ∃ v, vs[0]? = some v := by
    cases vs with
    | nil => exact absurd rfl hne
    | cons v t => exact ⟨v, rfl⟩
  obtain ⟨b, off, spot⟩ := x
  have hspot : spot = none := by
    have h2 := hc 0 v h0
    simp only [World.cell?, Addr.add] at h2
    split at h2
    · cases spot with
      | none => rfl
      | some s => simp at h2
    · cases h2
  subst hspot
  refine ⟨b, off, rfl, fun p u hp => ?_⟩
  have h2 := hc p u hp
  rw [Addr.add_lit] at h2
  exact h2
theorem qpi {H : Type} {d : DataW H} : ∀ {l : List (DataW H)}, d ∈ l → Rows.uptoBulk d ≤ Rows.uptoBulkAll l
  | c :: l, h => by
    simp only [Rows.uptoBulkAll]
    rcases List.mem_cons.1 h with rfl | h
    · omega
    · have := qpi h
      omega
section
variable {H : Type} {enc : TypeId × Value → H} {W : World}
theorem zbb {fuel : Nat} {v : Value} {y : DataW H × List MemPlace} (hf : DataW.trod enc Tryz.prog W 0 (fun _ => true) true fuel 31 [v] = some y) :
    ∃ so cap l, v = .slice so (l : List Bool).length cap ∧ E.Rl W so l ∧ l.length ≤ Rows.uptoBulk y.1 := by
  rcases DataW.trod_slice Tryz.underlying31 hf with ⟨hcs, _⟩ | ⟨x, len, cap, elems, rest, m, _, hcs, hx, _, hl, hm, hlen, hel, _, _⟩
  · simp at hcs
    subst hcs
    exact ⟨none, 0, [], rfl, E.rl_nil, Nat.zero_le _⟩
  · simp at hcs
    subst hcs
    subst hx
    have each : ∀ i, ∃ b : Bool, i < len → W.cell? (x.add i) = some (.bool b) := by
      intro i
      by_cases hi : i < len
      · have hE := hel i hi
        rw [show Tryz.prog.cellsOf 4 = 1 by kernel_rfl, Nat.mul_one] at hE
        rw [List.getElem?_eq_getElem (by omega), Option.bind_eq_some_iff] at hE
        obtain ⟨c1, hc1, hy1⟩ := hE
        obtain ⟨z, rfl, _⟩ := DataW.trod_bool Tryz.underlying4 hy1
        exact ⟨z, fun _ => cell_of_cells?_one hc1⟩
      · exact ⟨false, fun k => absurd k hi⟩
    obtain ⟨F, hF⟩ := Classical.skolem.1 each
    refine ⟨some x, cap, (List.range len).map F, by simp, qwf fun i v hi => ?_, ?_⟩
    · have hlt := (List.getElem?_eq_some_iff.1 hi).1
      simp only [E.boolC, List.length_map, List.length_range] at hlt
      simp only [E.boolC, List.map_map, List.getElem?_map, List.getElem?_range hlt, Option.map_some, Function.comp, Option.some.injEq] at hi
      rw [← hi]
      exact hF i hlt
    · refine Nat.le_trans ?_ (qhb _ _)
      simp only [List.length_map, List.length_range]
      omega
theorem zfh {fuel : Nat} {v : Value} {y : DataW H × List MemPlace} (hf : DataW.trod enc Tryz.prog W 0 (fun _ => true) true fuel 30 [v] = some y) :
    ∃ so cap l, v = .slice so (l : List ByteArray).length cap ∧ E.Rs W so l ∧ l.length ≤ Rows.uptoBulk y.1 ∧ ∀ s ∈ l, s.size ≤ Rows.uptoBulk y.1 := by
  rcases DataW.trod_slice Tryz.underlying30 hf with ⟨hcs, _⟩ | ⟨x, len, cap, elems, rest, m, _, hcs, hx, _, hl, hm, hlen, hel, _, _⟩
  · simp at hcs
    subst hcs
    exact ⟨none, 0, [], rfl, E.rs_nil, Nat.zero_le _, fun s k => by cases k⟩
  · simp at hcs
    subst hcs
    subst hx
    have each : ∀ i, ∃ s : ByteArray, i < len → W.cell? (x.add i) = some (.string s) ∧ s.size ≤ Rows.uptoBulk (DataW.slice (elems.map (·.1)) (rest.map (·.1))) := by
      intro i
      by_cases hi : i < len
      · have hE := hel i hi
        rw [show Tryz.prog.cellsOf 9 = 1 by kernel_rfl, Nat.mul_one] at hE
        rw [List.getElem?_eq_getElem (by omega), Option.bind_eq_some_iff] at hE
        obtain ⟨c1, hc1, hy1⟩ := hE
        obtain ⟨s, rfl, hy2, _⟩ := DataW.trod_string Tryz.underlying9 hy1
        refine ⟨s, fun _ => ⟨cell_of_cells?_one hc1, ?_⟩⟩
        have hm : (elems[i]'(by omega)).1 ∈ elems.map (·.1) := List.mem_map.2 ⟨_, List.getElem_mem _, rfl⟩
        have h3 := qpi hm
        have h4 : Rows.uptoBulk (elems[i]'(by omega)).1 = s.size + 1 := by
          rw [hy2]
          rw [show Rows.uptoBulk (DataW.lit (H := H) (.string s.data.toList)) = s.data.toList.length + 1 from by simp only [Rows.uptoBulk], Array.length_toList]
          rfl
        simp only [Rows.uptoBulk]
        omega
      · exact ⟨ByteArray.empty, fun k => absurd k hi⟩
    obtain ⟨F, hF⟩ := Classical.skolem.1 each
    refine ⟨some x, cap, (List.range len).map F, by simp, qwf fun i v hi => ?_, ?_, ?_⟩
    · have hlt := (List.getElem?_eq_some_iff.1 hi).1
      simp only [E.strC, List.length_map, List.length_range] at hlt
      simp only [E.strC, List.map_map, List.getElem?_map, List.getElem?_range hlt, Option.map_some, Function.comp, Option.some.injEq] at hi
      rw [← hi]
      exact (hF i hlt).1
    · refine Nat.le_trans ?_ (qhb _ _)
      simp only [List.length_map, List.length_range]
      omega
    · intro s hs
      obtain ⟨i, hi, rfl⟩ := List.mem_map.1 hs
      exact (hF i (List.mem_range.1 hi)).2
theorem zmh {fuel : Nat} {cs : List Value} {x : DataW H × List MemPlace} (h : DataW.trod enc Tryz.prog W 0 (fun _ => true) true fuel 33 cs = some x) :
    ∃ u : Ty, cs = u.c ∧ TyR W u ∧ u.nm.size ≤ Rows.uptoBulk x.1 ∧ u.ui.size ≤ Rows.uptoBulk x.1 ∧ u.fs.length ≤ Rows.uptoBulk x.1 ∧ u.ms.length ≤ Rows.uptoBulk x.1 ∧ ∀ s ∈ u.fs, s.size ≤ Rows.uptoBulk x.1 := by
  obtain ⟨xs, n, hfu, hx, hl, hxl, hf⟩ := DataW.trod_struct Tryz.underlying33 h
  rw [show Tryz.prog.cellsOf 33 = 7 from by kernel_rfl] at hl
  match cs, hl with
  | [v0, v1, v2, v3, v4, v5, v6], _ =>
    match xs, hxl with
    | [x0, x1, x2, x3, x4, x5, x6], _ =>
      have g0 := hf 0 _ rfl
      have g1 := hf 1 _ rfl
      have g2 := hf 2 _ rfl
      have g3 := hf 3 _ rfl
      have g4 := hf 4 _ rfl
      have g5 := hf 5 _ rfl
      have g6 := hf 6 _ rfl
      have c1 : Tryz.prog.cellsOf 3 = 1 := by kernel_rfl
      have c2 : Tryz.prog.cellsOf 9 = 1 := by kernel_rfl
      have c3 : Tryz.prog.cellsOf 30 = 1 := by kernel_rfl
      have c4 : Tryz.prog.cellsOf 31 = 1 := by kernel_rfl
      have c5 : Tryz.prog.cellsOf 4 = 1 := by kernel_rfl
      simp only [c1, c2, c3, c4, c5, List.drop_zero, List.take_succ_cons, List.take_zero, List.drop_succ_cons, List.getElem?_cons_zero, List.getElem?_cons_succ] at g0 g1 g2 g3 g4 g5 g6
      obtain ⟨s0, e0, hs0, hsm0⟩ := DataW.trod_string Tryz.underlying9 g0
      obtain ⟨k, e1, _, w0⟩ := DataW.trod_int Tryz.underlying3 g1
      obtain ⟨fo, fc, fs, e2, hfs, b2, z2⟩ := zfh g2
      obtain ⟨mo, mc, ms, e3, hms, b3⟩ := zbb g3
      obtain ⟨sl, e4, _⟩ := DataW.trod_bool Tryz.underlying4 g4
      obtain ⟨op, e5, _⟩ := DataW.trod_bool Tryz.underlying4 g5
      obtain ⟨s6, e6, hs6, hsm6⟩ := DataW.trod_string Tryz.underlying9 g6
      have hb : ∀ (s : ByteArray) (q : DataW H × List MemPlace), q.1 = .lit (.string s.data.toList) → Rows.uptoBulk q.1 = s.size + 1 := fun s q e => by
        rw [e, show Rows.uptoBulk (DataW.lit (H := H) (.string s.data.toList)) = s.data.toList.length + 1 from by simp only [Rows.uptoBulk], Array.length_toList]
        rfl
      have h0 := hb s0 x0 (by rw [hs0])
      have h6 := hb s6 x6 (by rw [hs6])
      have hbx : Rows.uptoBulk x.1 = Rows.uptoBulk x0.1 + (Rows.uptoBulk x1.1 + (Rows.uptoBulk x2.1 + (Rows.uptoBulk x3.1 + (Rows.uptoBulk x4.1 + (Rows.uptoBulk x5.1 + (Rows.uptoBulk x6.1 + 0)))))) + 1 := by
        rw [hx, qca]
        simp only [List.map_cons, List.map_nil, Rows.uptoBulkAll]
      refine ⟨⟨s0, k, fo, fc, fs, mo, mc, ms, sl, op, s6⟩, ?_, ⟨hfs, hms⟩, by show s0.size ≤ _; omega, by show s6.size ≤ _; omega, by show fs.length ≤ _; omega, by show ms.length ≤ _; omega, fun s hs => by have := z2 s hs; omega⟩
      injection e0 with f0
      injection e1 with f1
      injection e4 with f4
      injection e5 with f5
      injection e6 with f6
      subst f0 f1 f4 f5 f6 e2 e3
      rfl
end
section
variable {H : Type} {enc : TypeId × Value → H} {W : World}
theorem zmi {fuel : Nat} {cs : List Value} {x : DataW H × List MemPlace} (h : DataW.trod enc Tryz.prog W 0 (fun _ => true) true fuel 44 cs = some x) (hb : Rows.uptoBulk x.1 ≤ 1048576) : ∃ o : Ro, cs = o.c ∧ RoR W o := by
  obtain ⟨xs, n, hfu, hx, hl, hxl, hf⟩ := DataW.trod_struct Tryz.underlying44 h
  rw [show Tryz.prog.cellsOf 44 = 23 from by kernel_rfl] at hl
  match cs, hl with
  | [v0, v1, v2, v3, v4, v5, v6, v7, v8, v9, v10, v11, v12, v13, v14, v15, v16, v17, v18, v19, v20, v21, v22], _ =>
    match xs, hxl with
    | [x0, x1, x2, x3, x4, x5, x6], _ =>
      have g0 := hf 0 _ rfl
      have g1 := hf 1 _ rfl
      have g2 := hf 2 _ rfl
      have g3 := hf 3 _ rfl
      have g4 := hf 4 _ rfl
      have g5 := hf 5 _ rfl
      have g6 := hf 6 _ rfl
      have c1 : Tryz.prog.cellsOf 3 = 1 := by kernel_rfl
      have c2 : Tryz.prog.cellsOf 33 = 7 := by kernel_rfl
      have c3 : Tryz.prog.cellsOf 34 = 1 := by kernel_rfl
      have c4 : Tryz.prog.cellsOf 42 = 11 := by kernel_rfl
      simp only [c1, c2, c3, c4, List.drop_zero, List.take_succ_cons, List.take_zero, List.drop_succ_cons, List.getElem?_cons_zero, List.getElem?_cons_succ] at g0 g1 g2 g3 g4 g5 g6
      obtain ⟨z0, e0, _, _⟩ := DataW.trod_int Tryz.underlying3 g0
      obtain ⟨z1, e1, _, _⟩ := DataW.trod_int Tryz.underlying3 g1
      obtain ⟨z2, e2, _, _⟩ := DataW.trod_int Tryz.underlying3 g2
      obtain ⟨z3, e3, _, _⟩ := DataW.trod_int Tryz.underlying3 g3
      obtain ⟨u, e4, hu, b41, b42, b43, b44, b45⟩ := zmh g4
      obtain ⟨lo, lc, ts, e5, hlc, hlm, hrt, hrd, b5⟩ := qph (fun n' _ => zif n') g5
      obtain ⟨t, e6, hr, b6⟩ := zif n _ _ g6
      have hbx : Rows.uptoBulk x.1 = Rows.uptoBulk x0.1 + (Rows.uptoBulk x1.1 + (Rows.uptoBulk x2.1 + (Rows.uptoBulk x3.1 + (Rows.uptoBulk x4.1 + (Rows.uptoBulk x5.1 + (Rows.uptoBulk x6.1 + 0)))))) + 1 := by
        rw [hx, qca]
        simp only [List.map_cons, List.map_nil, Rows.uptoBulkAll]
      refine ⟨⟨z0, z1, z2, z3, u, lo, lc, ts, t⟩, ?_, ⟨hu, hrt, hrd, hr, ?_, ?_, ?_, ?_, ?_, ?_, ?_⟩⟩
      · injection e0 with f0
        injection e1 with f1
        injection e2 with f2
        injection e3 with f3
        subst f0 f1 f2 f3 e5
        have q4 : u.c = [v4, v5, v6, v7, v8, v9, v10] := e4.symm
        have q6 : t.d.cells t.ts.length = [v12, v13, v14, v15, v16, v17, v18, v19, v20, v21, v22] := e6.symm
        show _ = Ro.c _
        unfold Ro.c
        dsimp only
        rw [q6]
        unfold Ty.c at q4
        simp only [List.cons.injEq, and_true] at q4
        obtain ⟨r0, r1, r2, r3, r4, r5, r6⟩ := q4
        rw [r0, r1, r2, r3, r4, r5, r6]
        rfl
      · show u.nm.size ≤ _; omega
      · show u.ui.size ≤ _; omega
      · show u.fs.length ≤ _; omega
      · show u.ms.length ≤ _; omega
      · intro s hs
        have := b45 s hs
        omega
      · show Tr.bulks (ts.map Dt.tr) ≤ _; omega
      · show t.tr.bulk ≤ _; omega
theorem zmj {base : Nat} {v : Value} {d : DataW H} {p : List MemPlace} (hv : Value.okWide Tryz.prog W .any base 22 v) (h : DataW.Trod enc Tryz.prog W 0 (fun _ => true) true 22 v d p) (hb : Rows.uptoBulk d ≤ 1048576) :
    ∃ so cap l, v = .slice so (l : List Ro).length cap ∧ Rops W so l ∧ l.length ≤ 1048576 := by
  obtain ⟨a, n, c, rfl⟩ := okWide_slice Tryz.underlying22 hv
  obtain ⟨fuel, hf⟩ := h
  rcases DataW.trod_slice Tryz.underlying22 hf with ⟨hcs, _⟩ | ⟨x, len, cap, elems, rest, m, _, hcs, hx, _, hl, hm, hlen, hel, _, _⟩
  · simp [Value.cells] at hcs
    obtain ⟨rfl, rfl, rfl⟩ := hcs
    exact ⟨none, 0, [], rfl, ⟨fun k => absurd rfl k, fun o k => by cases k⟩, Nat.zero_le _⟩
  · simp [Value.cells] at hcs
    obtain ⟨rfl, rfl, rfl⟩ := hcs
    simp only [Prod.mk.injEq] at hx
    obtain ⟨rfl, _⟩ := hx
    have hall : Rows.uptoBulkAll (elems.map (·.1)) ≤ 1048576 := by
      simp only [Rows.uptoBulk] at hb
      omega
    have each : ∀ i, ∃ o : Ro, i < n → (∀ (j : Nat) v, o.c[j]? = some v → W.cell? (x.add (i * 23 + j)) = some v) ∧ RoR W o := by
      intro i
      by_cases hi : i < n
      · have hE := hel i hi
        rw [show Tryz.prog.cellsOf 44 = 23 by kernel_rfl] at hE
        rw [List.getElem?_eq_getElem (by omega), Option.bind_eq_some_iff] at hE
        obtain ⟨c1, hc1, hy1⟩ := hE
        have hm1 : (elems[i]'(by omega)).1 ∈ elems.map (·.1) := List.mem_map.2 ⟨_, List.getElem_mem _, rfl⟩
        have := qpi hm1
        obtain ⟨o, e, hr⟩ := zmi hy1 (by omega)
        obtain ⟨_, h2, h3⟩ := World.cells?_some hc1
        refine ⟨o, fun _ => ⟨fun j v hj => ?_, hr⟩⟩
        have hlt := (List.getElem?_eq_some_iff.1 hj).1
        rw [← e, h2] at hlt
        have h4 := h3 j hlt
        rw [e, hj] at h4
        rw [← Addr.add_add]
        exact h4
      · exact ⟨⟨0, 0, 0, 0, zpg, none, 0, [], jq⟩, fun k => absurd k hi⟩
    obtain ⟨F, hF⟩ := Classical.skolem.1 each
    have hcat : ∀ (i : Nat) v, (qt Ro.c ((List.range n).map F))[i]? = some v → W.cell? (x.add i) = some v := by
      intro i v hi
      have hlt := (List.getElem?_eq_some_iff.1 hi).1
      rw [yt zfg, List.length_map, List.length_range] at hlt
      have hj : i / 23 < n := by omega
      have h1 : ((List.range n).map F)[i / 23]? = some (F (i / 23)) := by simp [hj]
      have h2 := qkb zfg h1
      have h3 : (F (i / 23)).c[i % 23]? = some v := by
        rw [← h2, List.getElem?_take, if_pos (Nat.mod_lt _ (by decide)), List.getElem?_drop, show i / 23 * 23 + i % 23 = i by omega]
        exact hi
      have h4 := (hF (i / 23) hj).1 (i % 23) v h3
      rwa [show i / 23 * 23 + i % 23 = i by omega] at h4
    refine ⟨some x, c, (List.range n).map F, by simp, ⟨qwf hcat, fun o ho => ?_⟩, ?_⟩
    · obtain ⟨i, hi, rfl⟩ := List.mem_map.1 ho
      exact (hF i (List.mem_range.1 hi)).2
    · have := qpg (elems.map (·.1))
      simp only [List.length_map, List.length_range] at this ⊢
      omega
end
end Go.Proofs.YtokgmpjblnpjmaaGreatDoor.G
