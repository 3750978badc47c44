/- Walks of calls on a store that are refused, and of calls on nil. Records: what is so of a store vy so. Calls on a store, by its state. Bare data: characters and truth values. Walks of the law of a nil store. Walks of what the document says of sets, and of the law. Walks of lists that are taken apart. Walks of the document's sameness and order of numbers. The same trees. The walk of the document's utf8. Units of a text as rows; when a text has no bad byte. Walks of the document's Sound. The walk of the document's Sound. The walk of the document's sameness of data. -/
import Derived.Test.YtokgmpjblnpjmaaGreatDoorPrecord11e
import Derived.Test.YtokgmpjblnpjmaaGreatDoorPrecord11d
import Derived.Test.YtokgmpjblnpjmaaGreatDoorPrecord11a
import Derived.Test.YtokgmpjblnpjmaaGreatDoorPrecord11b
import Derived.Test.YtokgmpjblnpjmaaGreatDoorProg
import Derived.Lib.ConvBytes
namespace Go.Proofs.YtokgmpjblnpjmaaGreatDoor.G
open Go.RowKit
set_option linter.unusedVariables false
set_option linter.unusedSimpArgs false
set_option maxRecDepth 100000
theorem RcE_is1_26 : Is1 Tryz.prog 26 := ⟨⟨_, Tryz.underlying26, rfl⟩, by kernel_rfl⟩
theorem RcE_is1_3 : Is1 Tryz.prog 3 := ⟨⟨_, Tryz.underlying3, rfl⟩, by kernel_rfl⟩
theorem RcE_is1_30 : Is1 Tryz.prog 30 := ⟨⟨_, Tryz.underlying30, rfl⟩, by kernel_rfl⟩
theorem RcE_is1_31 : Is1 Tryz.prog 31 := ⟨⟨_, Tryz.underlying31, rfl⟩, by kernel_rfl⟩
theorem RcE_is1_4 : Is1 Tryz.prog 4 := ⟨⟨_, Tryz.underlying4, rfl⟩, by kernel_rfl⟩
theorem RcE_is1_71 : Is1 Tryz.prog 71 := ⟨⟨_, Tryz.underlying71, rfl⟩, by kernel_rfl⟩
theorem RcE_is1_9 : Is1 Tryz.prog 9 := ⟨⟨_, Tryz.underlying9, rfl⟩, by kernel_rfl⟩
theorem RcE_fld_33_1 : FieldAt Tryz.prog 33 1 1 := ⟨_, _, Tryz.underlying33, rfl, rfl, by kernel_rfl⟩
theorem RcE_fld_33_2 : FieldAt Tryz.prog 33 2 2 := ⟨_, _, Tryz.underlying33, rfl, rfl, by kernel_rfl⟩
theorem RcE_fld_33_3 : FieldAt Tryz.prog 33 3 3 := ⟨_, _, Tryz.underlying33, rfl, rfl, by kernel_rfl⟩
theorem RcE_fld_33_4 : FieldAt Tryz.prog 33 4 4 := ⟨_, _, Tryz.underlying33, rfl, rfl, by kernel_rfl⟩
theorem RcE_fld_33_6 : FieldAt Tryz.prog 33 6 6 := ⟨_, _, Tryz.underlying33, rfl, rfl, by kernel_rfl⟩
theorem RcE_fld_73_0 : FieldAt Tryz.prog 73 0 0 := ⟨_, _, Tryz.underlying73, rfl, rfl, by kernel_rfl⟩
theorem RcE_fld_73_1 : FieldAt Tryz.prog 73 1 1 := ⟨_, _, Tryz.underlying73, rfl, rfl, by kernel_rfl⟩
theorem RcE_isS_33 : IsS Tryz.prog 33 7 := ⟨⟨_, Tryz.underlying33⟩, by kernel_rfl⟩
theorem RcE_isS_42 : IsS Tryz.prog 42 11 := ⟨⟨_, Tryz.underlying42⟩, by kernel_rfl⟩
set_option maxHeartbeats 2000000 in
theorem zof {w : World} {b tc rc : Nat} {tz ro : Option Addr} {ts : List Ty} {rs : List Rk} (V : SR w b tz tc ts ro rc rs) (hW : WS (ts.map Ty.k) (rs.map Rk.k)) {u : Ty} (hU : TyR w u) (hul : u.fs.length ≤ 2000000) (hum : u.ms.length ≤ 2000000) (huz : ∀ s ∈ u.fs, s.size ≤ 281474976710656) (hno : (tyS (ts.map Ty.k) u.k).2.2 = false) : Calls Tryz.prog 8 #[.pointer (some ⟨b, 0, none⟩), .agg #[.string u.nm, .int .i64 u.par, .slice u.fo u.fs.length u.fc, .slice u.mo u.ms.length u.mc, .bool u.sl, .bool u.op, .string u.ui]] w fun e w' => e = .returned (.tuple #[.int .i64 (tyS (ts.map Ty.k) u.k).1, .int .i64 (tyS (ts.map Ty.k) u.k).2.1]) ∧ Below w.heap.size w w' := by
 have hkl := hW.kl
 have hrl := hW.rl
 rw [List.length_map] at hkl hrl
 have M : Mg w w ([]) := Mg.start w
 refine qx (l := [(0, .pointer (some ⟨b, 0, none⟩)), (1, .agg #[.string u.nm, .int .i64 u.par, .slice u.fo u.fs.length u.fc, .slice u.mo u.ms.length u.mc, .bool u.sl, .bool u.op, .string u.ui])]) Tryz.func8 rfl Tryz.ntmps8 rfl rfl ?_
 intro Q hret hnorm hP a A
 refine wsk fun K1 hK1 => wrl (jb (vs := [.string u.nm, .int .i64 u.par, .slice u.fo u.fs.length u.fc, .slice u.mo u.ms.length u.mc, .bool u.sl, .bool u.op, .string u.ui]) (t := 33) A M rfl rfl rfl pg (zh rfl rfl) (by decide) ?_)
 intro g2 w3 M a A
 iterate 2 refine sda A λa A↦?_
 refine qa (hK1 _ _ (wsk fun K4 hK4 => wsk fun K5 hK5 => wrl (sdm A λa A↦?_)))
 refine sdo (v := .bool false) A (qi rfl rfl (fun w => by kernel_rfl)) λa A↦?_
 iterate 2 refine sdm A λa A↦?_
 refine sdo A (qy M RcE_isS_33 rfl 0 rfl (cs := [.string u.nm, .int .i64 u.par, .slice u.fo u.fs.length u.fc, .slice u.mo u.ms.length u.mc, .bool u.sl, .bool u.op, .string u.ui]) rfl rfl) λa A↦?_
 rcases tf (gdB ts.length u.k) with hb6 | hb6
 ·
  refine gcl A M (ef rfl rfl) (qgb (V.below M.bel) hW (hU.below M.bel) hul huz hb6) fun w8 hb7 M a A => ?_
  refine sdo (v := .bool false) A (zj rfl zq) λa A↦?_
  refine sdk (v := .bool false) A λa A↦?_
  refine qa (hK5 _ _ (wp_cond_false (A.ev rfl) ?_))
  refine wp_skip (hK4 _ _ (wsk fun K9 hK9 => wsk fun K10 hK10 => wrl (sdm A λa A↦?_)))
  refine sdo (v := .pointer (some ⟨g2, 6, none⟩)) A (qb RcE_fld_33_6 rfl rfl) λa A↦?_
  refine sdo A (qh M RcE_is1_9 rfl 0 rfl rfl) λa A↦?_
  refine gcl A M (ef rfl rfl) (qgf (V.below M.bel) hW) fun w12 hb11 M a A => ?_
  refine sda A λa A↦?_
  refine qa (hK10 _ _ (wsk fun K13 hK13 => wrl (sdm A λa A↦?_)))
  rcases tf (decide (0 ≤ uix (ts.map Ty.k) u.ui)) with hb14 | hb14
  ·
   have hb14' := of_decide_eq_true hb14
   refine sdc A zk hb14 λa A↦?_
   refine qa (hK13 _ _ (wp_cond_true (A.ev rfl) ?_))
   refine wsk fun K15 hK15 => wrl ?_
   iterate 2 refine sdm A λa A↦?_
   refine sdo A (qy M RcE_isS_33 rfl 0 rfl (cs := [.string u.nm, .int .i64 u.par, .slice u.fo u.fs.length u.fc, .slice u.mo u.ms.length u.mc, .bool u.sl, .bool u.op, .string u.ui]) rfl rfl) λa A↦?_
   obtain ⟨y, hy⟩ : ∃ y, ts[(uix (ts.map Ty.k) u.ui).toNat]? = some y := ⟨_, List.getElem?_eq_getElem (show (uix (ts.map Ty.k) u.ui).toNat < ts.length by have := zii (ts.map Ty.k) u.ui; rw [List.length_map] at this; omega)⟩
   refine gcl A M (ef rfl rfl) (zfe (V.below M.bel) hW (hU.below M.bel) hul hum (by omega) (by have := zii (ts.map Ty.k) u.ui; rw [List.length_map] at this; omega) hy) fun w17 hb16 M a A => ?_
   iterate 2 refine sdo A (ze (vs := [.int .i64 ((if xm y.k u.k = true then uix (ts.map Ty.k) u.ui else 0)), .int .i64 ((if xm y.k u.k = true then 0 else 8))]) rfl rfl) λa A↦?_
   iterate 2 refine sda A λa A↦?_
   refine qa (hK15 _ _ (wp_ret (hret _ _ (en2 A rfl (qf rfl) (qf rfl) ?_))))
   refine ⟨?_, M.bel⟩
   rw [qqi (show gdB (ts.map Ty.k).length u.k = true by rw [List.length_map]; exact hb6) (show 0 ≤ uix (ts.map Ty.k) u.k.ui by show 0 ≤ uix (ts.map Ty.k) u.ui; omega) (zl hy)]
   rcases tf (xm y.k u.k) with hq | hq
   ·
    rw [if_pos hq, if_pos hq, if_pos hq]; rfl
   ·
    rw [if_neg (by rw [hq]; decide), if_neg (by rw [hq]; decide), if_neg (by rw [hq]; decide)]
  ·
   have hb14' := of_decide_eq_false hb14
   refine sdc A zk hb14 λa A↦?_
   refine qa (hK13 _ _ (wp_cond_false (A.ev rfl) ?_))
   refine wp_skip (hK9 _ _ (wsk fun K18 hK18 => wp_block (wsk fun K19 hK19 => ?_)))
   obtain ⟨hg1, hg2, hg3, hg4⟩ := znf hb6
   rw [show u.k.par = u.par from rfl] at hg3 hg4
   have hc16 := hW.cnt16 (t := u.par) (by rw [List.length_map]; exact hg4)
   refine zn (S := fun w1 => Mg w w1 (.obj g2 (.cells #[.string u.nm, .int .i64 u.par, .slice u.fo u.fs.length u.fc, .slice u.mo u.ms.length u.mc, .bool u.sl, .bool u.op, .string u.ui] 33) :: [])) (by kernel_rfl) ?_
   replace M := M.drew
   refine qe (v := .pointer (some ⟨g2, 1, none⟩)) A 0 rfl rfl rfl rfl hP (M.sub (cc (List.nil_sublist _))) (fun w1 M => qb RcE_fld_33_1 rfl rfl) λa A↦?_
   refine qe A 1 rfl rfl rfl rfl hP (M.sub (cc (List.nil_sublist _))) (fun w1 M => qh M RcE_is1_3 rfl 0 rfl rfl) λa A↦?_
   rcases tf ((u.par != -1)) with hb20 | hb20
   ·
    have hb20' := bne_iff_ne.1 hb20
    refine qe (v := .bool true) A 2 rfl rfl rfl rfl hP (M.sub (cc (List.nil_sublist _))) (fun w1 M => qi rfl rfl (fun w => (zi w).trans (by rw [hb20]))) λa A↦?_
    refine qe A 3 rfl rfl rfl rfl hP (M.sub (cc (List.nil_sublist _))) (fun w1 M => qr rfl) λa A↦?_
    refine qe A 4 rfl rfl rfl rfl hP (M.sub (cc (List.nil_sublist _))) (fun w1 M => qr rfl) λa A↦?_
    refine qe A 5 rfl rfl rfl rfl hP (M.sub (cc (List.nil_sublist _))) (fun w1 M => zf rfl) λa A↦?_
    refine qe (v := .pointer (some ⟨b, 0, none⟩)) A 6 rfl rfl rfl rfl hP (M.sub (cc (List.nil_sublist _))) (fun w1 M => qb RcE_fld_73_0 rfl rfl) λa A↦?_
    refine qe A 7 rfl rfl rfl rfl hP (M.sub (cc (List.nil_sublist _))) (fun w1 M => E.m_loadX M V.c0 RcE_is1_26 rfl) λa A↦?_
    refine qe (v := .pointer (some ⟨g2, 1, none⟩)) A 8 rfl rfl rfl rfl hP (M.sub (cc (List.nil_sublist _))) (fun w1 M => qb RcE_fld_33_1 rfl rfl) λa A↦?_
    refine qe A 9 rfl rfl rfl rfl hP (M.sub (cc (List.nil_sublist _))) (fun w1 M => qh M RcE_is1_3 rfl 0 rfl rfl) λa A↦?_
    obtain ⟨ty21, bt22, ot23, it24, mt25, rt26, lt27, Ht28⟩ := V.T.at_ (i := (u.par).toNat) (by omega)
    refine qe (v := .pointer (some ⟨bt22, ot23 + (u.par).toNat * 7, none⟩)) A 10 rfl rfl rfl rfl hP (M.sub (cc (List.nil_sublist _))) (fun w1 M => zb (k := (u.par).toNat) Tryz.underlying26 (by kernel_rfl) rfl rfl (by first | rfl | omega) lt27 (by omega)) λa A↦?_
    refine qe (v := .pointer (some ⟨bt22, ot23 + (u.par).toNat * 7 + 4, none⟩)) A 11 rfl rfl rfl rfl hP (M.sub (cc (List.nil_sublist _))) (fun w1 M => qb RcE_fld_33_4 rfl rfl) λa A↦?_
    refine qe A 12 rfl rfl rfl rfl hP (M.sub (cc (List.nil_sublist _))) (fun w1 M => jm (j := 4) M Ht28 RcE_is1_4 rfl rfl rfl) λa A↦?_
    refine qe (v := .bool ty21.sl) A 13 rfl rfl rfl rfl hP (M.sub (cc (List.nil_sublist _))) (fun w1 M => je rfl rfl rfl rfl) λa A↦?_
    refine qe A 14 rfl rfl rfl rfl hP (M.sub (cc (List.nil_sublist _))) (fun w1 M => qm rfl) λa A↦?_
    refine zd (by kernel_rfl) ?_
    refine hK19 _ _ ?_
    refine wp_cond_split (t := ty21.sl) (A.ev rfl) (fun hc29 => ?_) (fun hc29 => ?_)
    ·
     refine wsk fun K30 hK30 => wrl ?_
     iterate 2 refine sda A λa A↦?_
     refine qa (hK30 _ _ (wp_ret (hret _ _ (en2 A rfl (qf rfl) (qf rfl) ?_))))
     exact ⟨by rw [uz (show gdB (ts.map Ty.k).length u.k = true by rw [List.length_map]; exact hb6) (show ¬ 0 ≤ uix (ts.map Ty.k) u.k.ui by show ¬ 0 ≤ uix (ts.map Ty.k) u.ui; omega) (show slP (ts.map Ty.k) u.k.par = true from ((xr (show 0 ≤ u.par by omega) (zl it24)).trans hc29))], M.bel⟩
    ·
     refine wsk fun K31 hK31 => zn (S := fun w1 => Mg w w1 (.obj g2 (.cells #[.string u.nm, .int .i64 u.par, .slice u.fo u.fs.length u.fc, .slice u.mo u.ms.length u.mc, .bool u.sl, .bool u.op, .string u.ui] 33) :: [])) (by kernel_rfl) ?_
     replace M := M.drew
     refine qe A 0 rfl rfl rfl rfl hP (M.sub (cc (List.nil_sublist _))) (fun w1 M => qr rfl) λa A↦?_
     refine qe (v := .pointer (some ⟨g2, 1, none⟩)) A 1 rfl rfl rfl rfl hP (M.sub (cc (List.nil_sublist _))) (fun w1 M => qb RcE_fld_33_1 rfl rfl) λa A↦?_
     refine qe A 2 rfl rfl rfl rfl hP (M.sub (cc (List.nil_sublist _))) (fun w1 M => qh M RcE_is1_3 rfl 0 rfl rfl) λa A↦?_
     refine qe (v := .pointer (some ⟨g2, 2, none⟩)) A 4 rfl rfl rfl rfl hP (M.sub (cc (List.nil_sublist _))) (fun w1 M => qb RcE_fld_33_2 rfl rfl) λa A↦?_
     refine qe A 5 rfl rfl rfl rfl hP (M.sub (cc (List.nil_sublist _))) (fun w1 M => qh M RcE_is1_30 rfl 0 rfl rfl) λa A↦?_
     refine qe (v := .int .i64 (((u.fs.length : Nat) : Int))) A 6 rfl rfl rfl rfl hP (M.sub (cc (List.nil_sublist _))) (fun w1 M => qp Tryz.underlying30 rfl) λa A↦?_
     refine qw (by kernel_rfl) (jf A 3 rfl rfl rfl rfl (zg rfl rfl (fun w => by kernel_rfl)) (vk (V.below M.bel) hW (by omega) (by omega)) ?_)
     rintro _ w33 ⟨rfl, hb32⟩
     replace M := M.call hb32
     refine ⟨_, rfl, (M.sub (cc (List.nil_sublist _))), ?_⟩
     intro a A
     refine qe (v := .int .i64 (((cnt (ts.map Ty.k) u.par + u.fs.length : Nat) : Int))) A 7 rfl rfl rfl rfl hP (M.sub (cc (List.nil_sublist _))) (fun w1 M => qi rfl rfl (fun w => (jc (jg (by omega) (by omega)) w).trans (by rw [show (((cnt (ts.map Ty.k) u.par : Nat) : Int) + ((u.fs.length : Nat) : Int) : Int) = ((cnt (ts.map Ty.k) u.par + u.fs.length : Nat) : Int) from by omega]))) λa A↦?_
     rcases tf (decide (16 < ((cnt (ts.map Ty.k) u.par + u.fs.length : Nat) : Int))) with hb34 | hb34
     ·
      have hb34' := of_decide_eq_true hb34
      refine qe (v := .bool true) A 8 rfl rfl rfl rfl hP (M.sub (cc (List.nil_sublist _))) (fun w1 M => qi rfl rfl (fun w => (jj w).trans (by rw [hb34]))) λa A↦?_
      refine qe A 9 rfl rfl rfl rfl hP (M.sub (cc (List.nil_sublist _))) (fun w1 M => qr rfl) λa A↦?_
      refine jl A 10 rfl rfl rfl rfl hP (M.sub (cc (List.nil_sublist _))) λa A↦?_
      refine jl A 11 rfl rfl rfl rfl hP (M.sub (cc (List.nil_sublist _))) λa A↦?_
      refine jl A 12 rfl rfl rfl rfl hP (M.sub (cc (List.nil_sublist _))) λa A↦?_
      refine jl A 13 rfl rfl rfl rfl hP (M.sub (cc (List.nil_sublist _))) λa A↦?_
      refine jl A 14 rfl rfl rfl rfl hP (M.sub (cc (List.nil_sublist _))) λa A↦?_
      refine jl A 15 rfl rfl rfl rfl hP (M.sub (cc (List.nil_sublist _))) λa A↦?_
      refine qe (v := .bool true) A 16 rfl rfl rfl rfl hP (M.sub (cc (List.nil_sublist _))) (fun w1 M => je rfl rfl rfl rfl) λa A↦?_
      refine qe A 17 rfl rfl rfl rfl hP (M.sub (cc (List.nil_sublist _))) (fun w1 M => qm rfl) λa A↦?_
      refine zd (by kernel_rfl) ?_
      refine hK31 _ _ (wp_cond_true (A.ev rfl) ?_)
      refine wsk fun K35 hK35 => wrl ?_
      iterate 2 refine sda A λa A↦?_
      refine qa (hK35 _ _ (wp_ret (hret _ _ (en2 A rfl (qf rfl) (qf rfl) ?_))))
      exact ⟨by rw [jo (show gdB (ts.map Ty.k).length u.k = true by rw [List.length_map]; exact hb6) (show ¬ 0 ≤ uix (ts.map Ty.k) u.k.ui by show ¬ 0 ≤ uix (ts.map Ty.k) u.ui; omega) (show slP (ts.map Ty.k) u.k.par = false from ((xr (show 0 ≤ u.par by omega) (zl it24)).trans hc29)) (show ¬ (cnt (ts.map Ty.k) u.par + u.fs.length ≤ 16 ∧ (ts.map Ty.k).length < 4096) by rw [List.length_map]; omega)], M.bel⟩
     ·
      have hb34' := of_decide_eq_false hb34
      refine qe (v := .bool false) A 8 rfl rfl rfl rfl hP (M.sub (cc (List.nil_sublist _))) (fun w1 M => qi rfl rfl (fun w => (jj w).trans (by rw [hb34]))) λa A↦?_
      refine qe A 9 rfl rfl rfl rfl hP (M.sub (cc (List.nil_sublist _))) (fun w1 M => qr rfl) λa A↦?_
      refine qe A 10 rfl rfl rfl rfl hP (M.sub (cc (List.nil_sublist _))) (fun w1 M => qr rfl) λa A↦?_
      refine qe A 11 rfl rfl rfl rfl hP (M.sub (cc (List.nil_sublist _))) (fun w1 M => zf rfl) λa A↦?_
      refine qe (v := .pointer (some ⟨b, 0, none⟩)) A 12 rfl rfl rfl rfl hP (M.sub (cc (List.nil_sublist _))) (fun w1 M => qb RcE_fld_73_0 rfl rfl) λa A↦?_
      refine qe A 13 rfl rfl rfl rfl hP (M.sub (cc (List.nil_sublist _))) (fun w1 M => E.m_loadX M V.c0 RcE_is1_26 rfl) λa A↦?_
      refine qe (v := .int .i64 (((ts.length : Nat) : Int))) A 14 rfl rfl rfl rfl hP (M.sub (cc (List.nil_sublist _))) (fun w1 M => qp Tryz.underlying26 rfl) λa A↦?_
      rcases tf (decide (4096 ≤ ((ts.length : Nat) : Int))) with hb36 | hb36
      ·
       have hb36' := of_decide_eq_true hb36
       refine qe (v := .bool true) A 15 rfl rfl rfl rfl hP (M.sub (cc (List.nil_sublist _))) (fun w1 M => qi rfl rfl (fun w => (zk w).trans (by rw [hb36]))) λa A↦?_
       refine qe (v := .bool true) A 16 rfl rfl rfl rfl hP (M.sub (cc (List.nil_sublist _))) (fun w1 M => je rfl rfl rfl rfl) λa A↦?_
       refine qe A 17 rfl rfl rfl rfl hP (M.sub (cc (List.nil_sublist _))) (fun w1 M => qm rfl) λa A↦?_
       refine zd (by kernel_rfl) ?_
       refine hK31 _ _ (wp_cond_true (A.ev rfl) ?_)
       refine wsk fun K37 hK37 => wrl ?_
       iterate 2 refine sda A λa A↦?_
       refine qa (hK37 _ _ (wp_ret (hret _ _ (en2 A rfl (qf rfl) (qf rfl) ?_))))
       exact ⟨by rw [jo (show gdB (ts.map Ty.k).length u.k = true by rw [List.length_map]; exact hb6) (show ¬ 0 ≤ uix (ts.map Ty.k) u.k.ui by show ¬ 0 ≤ uix (ts.map Ty.k) u.ui; omega) (show slP (ts.map Ty.k) u.k.par = false from ((xr (show 0 ≤ u.par by omega) (zl it24)).trans hc29)) (show ¬ (cnt (ts.map Ty.k) u.par + u.fs.length ≤ 16 ∧ (ts.map Ty.k).length < 4096) by rw [List.length_map]; omega)], M.bel⟩
      ·
       have hb36' := of_decide_eq_false hb36
       refine qe (v := .bool false) A 15 rfl rfl rfl rfl hP (M.sub (cc (List.nil_sublist _))) (fun w1 M => qi rfl rfl (fun w => (zk w).trans (by rw [hb36]))) λa A↦?_
       refine qe (v := .bool false) A 16 rfl rfl rfl rfl hP (M.sub (cc (List.nil_sublist _))) (fun w1 M => je rfl rfl rfl rfl) λa A↦?_
       refine qe A 17 rfl rfl rfl rfl hP (M.sub (cc (List.nil_sublist _))) (fun w1 M => qm rfl) λa A↦?_
       refine zd (by kernel_rfl) ?_
       refine hK31 _ _ (wp_cond_false (A.ev rfl) ?_)
       refine wp_skip (hK18 _ _ (wsk fun K38 hK38 => ?_))
       rw [uj (show gdB (ts.map Ty.k).length u.k = true by rw [List.length_map]; exact hb6) (show ¬ 0 ≤ uix (ts.map Ty.k) u.k.ui by show ¬ 0 ≤ uix (ts.map Ty.k) u.ui; omega) (show slP (ts.map Ty.k) u.k.par = false from ((xr (show 0 ≤ u.par by omega) (zl it24)).trans hc29)) (show cnt (ts.map Ty.k) u.par + u.fs.length ≤ 16 ∧ (ts.map Ty.k).length < 4096 by rw [List.length_map]; omega)] at hno
       exact absurd (show true = false from hno) (by decide)
   ·
    have hb20' := bne_eq_false_iff_eq.1 hb20
    refine qe (v := .bool false) A 2 rfl rfl rfl rfl hP (M.sub (cc (List.nil_sublist _))) (fun w1 M => qi rfl rfl (fun w => (zi w).trans (by rw [hb20]))) λa A↦?_
    refine qe A 3 rfl rfl rfl rfl hP (M.sub (cc (List.nil_sublist _))) (fun w1 M => qr rfl) λa A↦?_
    refine jl A 4 rfl rfl rfl rfl hP (M.sub (cc (List.nil_sublist _))) λa A↦?_
    refine jl A 5 rfl rfl rfl rfl hP (M.sub (cc (List.nil_sublist _))) λa A↦?_
    refine jl A 6 rfl rfl rfl rfl hP (M.sub (cc (List.nil_sublist _))) λa A↦?_
    refine jl A 7 rfl rfl rfl rfl hP (M.sub (cc (List.nil_sublist _))) λa A↦?_
    refine jl A 8 rfl rfl rfl rfl hP (M.sub (cc (List.nil_sublist _))) λa A↦?_
    refine jl A 9 rfl rfl rfl rfl hP (M.sub (cc (List.nil_sublist _))) λa A↦?_
    refine jl A 10 rfl rfl rfl rfl hP (M.sub (cc (List.nil_sublist _))) λa A↦?_
    refine jl A 11 rfl rfl rfl rfl hP (M.sub (cc (List.nil_sublist _))) λa A↦?_
    refine jl A 12 rfl rfl rfl rfl hP (M.sub (cc (List.nil_sublist _))) λa A↦?_
    refine qe (v := .bool false) A 13 rfl rfl rfl rfl hP (M.sub (cc (List.nil_sublist _))) (fun w1 M => je rfl rfl rfl rfl) λa A↦?_
    refine qe A 14 rfl rfl rfl rfl hP (M.sub (cc (List.nil_sublist _))) (fun w1 M => qm rfl) λa A↦?_
    refine zd (by kernel_rfl) ?_
    refine hK19 _ _ (wp_cond_false (A.ev rfl) ?_)
    refine wsk fun K39 hK39 => zn (S := fun w1 => Mg w w1 (.obj g2 (.cells #[.string u.nm, .int .i64 u.par, .slice u.fo u.fs.length u.fc, .slice u.mo u.ms.length u.mc, .bool u.sl, .bool u.op, .string u.ui] 33) :: [])) (by kernel_rfl) ?_
    replace M := M.drew
    refine qe A 0 rfl rfl rfl rfl hP (M.sub (cc (List.nil_sublist _))) (fun w1 M => qr rfl) λa A↦?_
    refine qe (v := .pointer (some ⟨g2, 1, none⟩)) A 1 rfl rfl rfl rfl hP (M.sub (cc (List.nil_sublist _))) (fun w1 M => qb RcE_fld_33_1 rfl rfl) λa A↦?_
    refine qe A 2 rfl rfl rfl rfl hP (M.sub (cc (List.nil_sublist _))) (fun w1 M => qh M RcE_is1_3 rfl 0 rfl rfl) λa A↦?_
    refine qe (v := .pointer (some ⟨g2, 2, none⟩)) A 4 rfl rfl rfl rfl hP (M.sub (cc (List.nil_sublist _))) (fun w1 M => qb RcE_fld_33_2 rfl rfl) λa A↦?_
    refine qe A 5 rfl rfl rfl rfl hP (M.sub (cc (List.nil_sublist _))) (fun w1 M => qh M RcE_is1_30 rfl 0 rfl rfl) λa A↦?_
    refine qe (v := .int .i64 (((u.fs.length : Nat) : Int))) A 6 rfl rfl rfl rfl hP (M.sub (cc (List.nil_sublist _))) (fun w1 M => qp Tryz.underlying30 rfl) λa A↦?_
    refine qw (by kernel_rfl) (jf A 3 rfl rfl rfl rfl (zg rfl rfl (fun w => by kernel_rfl)) (vk (V.below M.bel) hW (by omega) (by omega)) ?_)
    rintro _ w41 ⟨rfl, hb40⟩
    replace M := M.call hb40
    refine ⟨_, rfl, (M.sub (cc (List.nil_sublist _))), ?_⟩
    intro a A
    refine qe (v := .int .i64 (((cnt (ts.map Ty.k) u.par + u.fs.length : Nat) : Int))) A 7 rfl rfl rfl rfl hP (M.sub (cc (List.nil_sublist _))) (fun w1 M => qi rfl rfl (fun w => (jc (jg (by omega) (by omega)) w).trans (by rw [show (((cnt (ts.map Ty.k) u.par : Nat) : Int) + ((u.fs.length : Nat) : Int) : Int) = ((cnt (ts.map Ty.k) u.par + u.fs.length : Nat) : Int) from by omega]))) λa A↦?_
    rcases tf (decide (16 < ((cnt (ts.map Ty.k) u.par + u.fs.length : Nat) : Int))) with hb42 | hb42
    ·
     have hb42' := of_decide_eq_true hb42
     refine qe (v := .bool true) A 8 rfl rfl rfl rfl hP (M.sub (cc (List.nil_sublist _))) (fun w1 M => qi rfl rfl (fun w => (jj w).trans (by rw [hb42]))) λa A↦?_
     refine qe A 9 rfl rfl rfl rfl hP (M.sub (cc (List.nil_sublist _))) (fun w1 M => qr rfl) λa A↦?_
     refine jl A 10 rfl rfl rfl rfl hP (M.sub (cc (List.nil_sublist _))) λa A↦?_
     refine jl A 11 rfl rfl rfl rfl hP (M.sub (cc (List.nil_sublist _))) λa A↦?_
     refine jl A 12 rfl rfl rfl rfl hP (M.sub (cc (List.nil_sublist _))) λa A↦?_
     refine jl A 13 rfl rfl rfl rfl hP (M.sub (cc (List.nil_sublist _))) λa A↦?_
     refine jl A 14 rfl rfl rfl rfl hP (M.sub (cc (List.nil_sublist _))) λa A↦?_
     refine jl A 15 rfl rfl rfl rfl hP (M.sub (cc (List.nil_sublist _))) λa A↦?_
     refine qe (v := .bool true) A 16 rfl rfl rfl rfl hP (M.sub (cc (List.nil_sublist _))) (fun w1 M => je rfl rfl rfl rfl) λa A↦?_
     refine qe A 17 rfl rfl rfl rfl hP (M.sub (cc (List.nil_sublist _))) (fun w1 M => qm rfl) λa A↦?_
     refine zd (by kernel_rfl) ?_
     refine hK39 _ _ (wp_cond_true (A.ev rfl) ?_)
     refine wsk fun K43 hK43 => wrl ?_
     iterate 2 refine sda A λa A↦?_
     refine qa (hK43 _ _ (wp_ret (hret _ _ (en2 A rfl (qf rfl) (qf rfl) ?_))))
     exact ⟨by rw [jo (show gdB (ts.map Ty.k).length u.k = true by rw [List.length_map]; exact hb6) (show ¬ 0 ≤ uix (ts.map Ty.k) u.k.ui by show ¬ 0 ≤ uix (ts.map Ty.k) u.ui; omega) (show slP (ts.map Ty.k) u.k.par = false from (xn (show u.par < 0 by omega))) (show ¬ (cnt (ts.map Ty.k) u.par + u.fs.length ≤ 16 ∧ (ts.map Ty.k).length < 4096) by rw [List.length_map]; omega)], M.bel⟩
    ·
     have hb42' := of_decide_eq_false hb42
     refine qe (v := .bool false) A 8 rfl rfl rfl rfl hP (M.sub (cc (List.nil_sublist _))) (fun w1 M => qi rfl rfl (fun w => (jj w).trans (by rw [hb42]))) λa A↦?_
     refine qe A 9 rfl rfl rfl rfl hP (M.sub (cc (List.nil_sublist _))) (fun w1 M => qr rfl) λa A↦?_
     refine qe A 10 rfl rfl rfl rfl hP (M.sub (cc (List.nil_sublist _))) (fun w1 M => qr rfl) λa A↦?_
     refine qe A 11 rfl rfl rfl rfl hP (M.sub (cc (List.nil_sublist _))) (fun w1 M => zf rfl) λa A↦?_
     refine qe (v := .pointer (some ⟨b, 0, none⟩)) A 12 rfl rfl rfl rfl hP (M.sub (cc (List.nil_sublist _))) (fun w1 M => qb RcE_fld_73_0 rfl rfl) λa A↦?_
     refine qe A 13 rfl rfl rfl rfl hP (M.sub (cc (List.nil_sublist _))) (fun w1 M => E.m_loadX M V.c0 RcE_is1_26 rfl) λa A↦?_
     refine qe (v := .int .i64 (((ts.length : Nat) : Int))) A 14 rfl rfl rfl rfl hP (M.sub (cc (List.nil_sublist _))) (fun w1 M => qp Tryz.underlying26 rfl) λa A↦?_
     rcases tf (decide (4096 ≤ ((ts.length : Nat) : Int))) with hb44 | hb44
     ·
      have hb44' := of_decide_eq_true hb44
      refine qe (v := .bool true) A 15 rfl rfl rfl rfl hP (M.sub (cc (List.nil_sublist _))) (fun w1 M => qi rfl rfl (fun w => (zk w).trans (by rw [hb44]))) λa A↦?_
      refine qe (v := .bool true) A 16 rfl rfl rfl rfl hP (M.sub (cc (List.nil_sublist _))) (fun w1 M => je rfl rfl rfl rfl) λa A↦?_
      refine qe A 17 rfl rfl rfl rfl hP (M.sub (cc (List.nil_sublist _))) (fun w1 M => qm rfl) λa A↦?_
      refine zd (by kernel_rfl) ?_
      refine hK39 _ _ (wp_cond_true (A.ev rfl) ?_)
      refine wsk fun K45 hK45 => wrl ?_
      iterate 2 refine sda A λa A↦?_
      refine qa (hK45 _ _ (wp_ret (hret _ _ (en2 A rfl (qf rfl) (qf rfl) ?_))))
      exact ⟨by rw [jo (show gdB (ts.map Ty.k).length u.k = true by rw [List.length_map]; exact hb6) (show ¬ 0 ≤ uix (ts.map Ty.k) u.k.ui by show ¬ 0 ≤ uix (ts.map Ty.k) u.ui; omega) (show slP (ts.map Ty.k) u.k.par = false from (xn (show u.par < 0 by omega))) (show ¬ (cnt (ts.map Ty.k) u.par + u.fs.length ≤ 16 ∧ (ts.map Ty.k).length < 4096) by rw [List.length_map]; omega)], M.bel⟩
     ·
      have hb44' := of_decide_eq_false hb44
      refine qe (v := .bool false) A 15 rfl rfl rfl rfl hP (M.sub (cc (List.nil_sublist _))) (fun w1 M => qi rfl rfl (fun w => (zk w).trans (by rw [hb44]))) λa A↦?_
      refine qe (v := .bool false) A 16 rfl rfl rfl rfl hP (M.sub (cc (List.nil_sublist _))) (fun w1 M => je rfl rfl rfl rfl) λa A↦?_
      refine qe A 17 rfl rfl rfl rfl hP (M.sub (cc (List.nil_sublist _))) (fun w1 M => qm rfl) λa A↦?_
      refine zd (by kernel_rfl) ?_
      refine hK39 _ _ (wp_cond_false (A.ev rfl) ?_)
      refine wp_skip (hK18 _ _ (wsk fun K46 hK46 => ?_))
      rw [uj (show gdB (ts.map Ty.k).length u.k = true by rw [List.length_map]; exact hb6) (show ¬ 0 ≤ uix (ts.map Ty.k) u.k.ui by show ¬ 0 ≤ uix (ts.map Ty.k) u.ui; omega) (show slP (ts.map Ty.k) u.k.par = false from (xn (show u.par < 0 by omega))) (show cnt (ts.map Ty.k) u.par + u.fs.length ≤ 16 ∧ (ts.map Ty.k).length < 4096 by rw [List.length_map]; omega)] at hno
      exact absurd (show true = false from hno) (by decide)
 ·
  refine gcl A M (ef rfl rfl) (qgb (V.below M.bel) hW (hU.below M.bel) hul huz hb6) fun w48 hb47 M a A => ?_
  refine sdo (v := .bool true) A (zj rfl zq) λa A↦?_
  refine sdk (v := .bool true) A λa A↦?_
  refine qa (hK5 _ _ (wp_cond_true (A.ev rfl) ?_))
  refine wsk fun K49 hK49 => wrl ?_
  iterate 2 refine sda A λa A↦?_
  refine qa (hK49 _ _ (wp_ret (hret _ _ (en2 A rfl (qf rfl) (qf rfl) ?_))))
  exact ⟨by rw [kt (show gdB (ts.map Ty.k).length u.k = false by rw [List.length_map]; exact hb6)], M.bel⟩
theorem zog {w : World} {b tc rc : Nat} {tz ro : Option Addr} {ts : List Ty} {rs : List Rk} (V : SR w b tz tc ts ro rc rs) (hW : WS (ts.map Ty.k) (rs.map Rk.k)) {vo : Option Addr} {vc : Nat} {vs : List Dt} (hV : Rt w vo vs) (hD : ∀ d ∈ vs, d.rd w) (hvl : vs.length ≤ 1000000000) (hT : Tabs8 w) {t : Int} (hno : (mkS (ts.map Ty.k) rs.length t (vs.map Dt.tr)).2.2 = false) : Calls Tryz.prog 10 #[.pointer (some ⟨b, 0, none⟩), .int .i64 t, .slice vo vs.length vc] w fun e w' => e = .returned (.tuple #[.int .i64 (mkS (ts.map Ty.k) rs.length t (vs.map Dt.tr)).1, .int .i64 (mkS (ts.map Ty.k) rs.length t (vs.map Dt.tr)).2.1]) ∧ Below w.heap.size w w' := by
 have hkl := hW.kl
 have hrl := hW.rl
 rw [List.length_map] at hkl hrl
 have M : Mg w w ([]) := Mg.start w
 refine qx (l := [(0, .pointer (some ⟨b, 0, none⟩)), (1, .int .i64 t), (2, .slice vo vs.length vc)]) Tryz.func10 rfl Tryz.ntmps10 rfl rfl ?_
 intro Q hret hnorm hP a A
 refine wsk fun K1 hK1 => wrl ?_
 iterate 2 refine sda A λa A↦?_
 refine qa (hK1 _ _ (wsk fun K2 hK2 => wrl ?_))
 iterate 2 refine sdm A λa A↦?_
 rcases tf (okT ts.length t) with hb3 | hb3
 ·
  have hx5 := ka hb3
  refine gcl A M (ef rfl rfl) (vj (V.below M.bel) hW hb3) fun w6 hb4 M a A => ?_
  refine sda A λa A↦?_
  refine qa (hK2 _ _ (wsk fun K7 hK7 => wp_block (wsk fun K8 hK8 => wrl (sdm A λa A↦?_))))
  refine sdo (v := .bool false) A (qi rfl rfl (fun w => by kernel_rfl)) λa A↦?_
  refine sda A λa A↦?_
  refine qa (hK8 _ _ (wp_cond_false (A.ev rfl) ?_))
  refine wsk fun K9 hK9 => wrl (sdm A λa A↦?_)
  refine sdo A (qp Tryz.underlying34 rfl) λa A↦?_
  iterate 2 refine sdm A λa A↦?_
  refine gcl A M (ef rfl rfl) (vk (V.below M.bel) hW (by omega) (by omega)) fun w11 hb10 M a A => ?_
  rcases tf ((((vs.length : Nat) : Int) != ((cnt (ts.map Ty.k) t : Nat) : Int))) with hb12 | hb12
  ·
   have hb12' := bne_iff_ne.1 hb12
   refine sdc A zi hb12 λa A↦?_
   refine sda A λa A↦?_
   refine qa (hK9 _ _ (wp_cond_true (A.ev rfl) ?_))
   refine wsk fun K13 hK13 => wrl ?_
   iterate 2 refine sda A λa A↦?_
   refine qa (hK13 _ _ (wp_ret (hret _ _ (en2 A rfl (qf rfl) (qf rfl) ?_))))
   exact ⟨by rw [qsa hb3 (show (vs.map Dt.tr).length ≠ cnt (ts.map Ty.k) t by rw [List.length_map]; omega)], M.bel⟩
  ·
   have hb12' := bne_eq_false_iff_eq.1 hb12
   refine sdc A zi hb12 λa A↦?_
   refine sda A λa A↦?_
   refine qa (hK9 _ _ (wp_cond_false (A.ev rfl) ?_))
   refine wsk fun K14 hK14 => wrl (sdm A λa A↦?_)
   rcases tf ((vs.map Dt.tr).all (jn ja)) with hb15 | hb15
   ·
    refine gcl A M (ef rfl rfl) (qaa (hV.below M.bel) (fun d hd => Dt.keep M.bel _ (hD d hd)) hvl (hT.below M.bel) hb15) fun w17 hb16 M a A => ?_
    refine sda A λa A↦?_
    refine qa (hK14 _ _ (wp_cond_false (A.ev rfl) ?_))
    refine wsk fun K18 hK18 => wrl (sdm A λa A↦?_)
    refine sdo A (zf rfl) λa A↦?_
    refine sdo (v := .pointer (some ⟨b, 1, none⟩)) A (qb RcE_fld_73_1 rfl rfl) λa A↦?_
    refine sdo A (E.m_loadX M V.c1 RcE_is1_71 rfl) λa A↦?_
    refine sdo A (qp Tryz.underlying71 rfl) λa A↦?_
    rcases tf (decide (20000 ≤ ((rs.length : Nat) : Int))) with hb19 | hb19
    ·
     have hb19' := of_decide_eq_true hb19
     refine sdc A zk hb19 λa A↦?_
     refine sda A λa A↦?_
     refine qa (hK18 _ _ (wp_cond_true (A.ev rfl) ?_))
     refine wsk fun K20 hK20 => wrl ?_
     iterate 2 refine sda A λa A↦?_
     refine qa (hK20 _ _ (wp_ret (hret _ _ (en2 A rfl (qf rfl) (qf rfl) ?_))))
     exact ⟨by rw [qlc hb3 (show (vs.map Dt.tr).length = cnt (ts.map Ty.k) t by rw [List.length_map]; omega) hb15 (by omega)], M.bel⟩
    ·
     have hb19' := of_decide_eq_false hb19
     refine sdc A zk hb19 λa A↦?_
     refine sda A λa A↦?_
     refine qa (hK18 _ _ (wp_cond_false (A.ev rfl) ?_))
     refine wp_skip (hK7 _ _ (wsk fun K21 hK21 => ?_))
     rw [qzc hb3 (show (vs.map Dt.tr).length = cnt (ts.map Ty.k) t by rw [List.length_map]; omega) hb15 (by omega)] at hno
     exact absurd (show true = false from hno) (by decide)
   ·
    refine gcl A M (ef rfl rfl) (qaa (hV.below M.bel) (fun d hd => Dt.keep M.bel _ (hD d hd)) hvl (hT.below M.bel) hb15) fun w23 hb22 M a A => ?_
    refine sda A λa A↦?_
    refine qa (hK14 _ _ (wp_cond_true (A.ev rfl) ?_))
    refine wsk fun K24 hK24 => wrl ?_
    iterate 2 refine sda A λa A↦?_
    refine qa (hK24 _ _ (wp_ret (hret _ _ (en2 A rfl (qf rfl) (qf rfl) ?_))))
    exact ⟨by rw [qlb hb3 (show (vs.map Dt.tr).length = cnt (ts.map Ty.k) t by rw [List.length_map]; omega) hb15], M.bel⟩
 ·
  have hx26 := qbe hb3
  refine gcl A M (ef rfl rfl) (kp (V.below M.bel) hW hb3) fun w27 hb25 M a A => ?_
  refine sda A λa A↦?_
  refine qa (hK2 _ _ (wsk fun K28 hK28 => wp_block (wsk fun K29 hK29 => wrl (sdm A λa A↦?_))))
  refine sdo (v := .bool true) A (qi rfl rfl (fun w => by kernel_rfl)) λa A↦?_
  refine sda A λa A↦?_
  refine qa (hK29 _ _ (wp_cond_true (A.ev rfl) ?_))
  refine wsk fun K30 hK30 => wrl (sdm A λa A↦?_)
  iterate 2 refine sda A λa A↦?_
  refine qa (hK30 _ _ (wp_ret (hret _ _ (en2 A rfl (qf rfl) (qf rfl) ?_))))
  exact ⟨by rw [qzb hb3], M.bel⟩
theorem qzf {ks : List TK} {rr : List (Nat × List Tr)} {r t i : Int} {v : Tr} (h : (plS ks rr r t i).2 ≠ 0) : seS ks rr r t i v = (plS ks rr r t i).2 := if_neg h
theorem qle {ks : List TK} {rr : List (Nat × List Tr)} {r t i : Int} {v : Tr} (h : (plS ks rr r t i).2 = 0) (hs : jn ja v = false) : seS ks rr r t i v = 2 := by unfold seS; rw [if_pos h, if_neg (by rw [hs]; decide)]
theorem qeg {ks : List TK} {rr : List (Nat × List Tr)} {r t i : Int} {v : Tr} (h : (plS ks rr r t i).2 = 0) (hs : jn ja v = true) {k : TK} (hk : ks[t.toNat]? = some k) {q : Bool} (hq : k.ms[i.toNat]? = some q) : seS ks rr r t i v = if q = true then 0 else 8 := by
 unfold seS
 rw [if_pos h, if_pos hs, hk]
 show (if (k.ms[i.toNat]?).getD false = true then _ else _) = _
 rw [hq]
 rfl
theorem zsa {w : World} {b tc rc : Nat} {tz ro : Option Addr} {ts : List Ty} {rs : List Rk} (V : SR w b tz tc ts ro rc rs) (hW : WS (ts.map Ty.k) (rs.map Rk.k)) {v : Dt} (hv : v.rd w) (hT : Tabs8 w) {r t i : Int} (hno : seS (ts.map Ty.k) (rs.map Rk.k) r t i v.tr ≠ 0) : Calls Tryz.prog 16 #[.pointer (some ⟨b, 0, none⟩), .int .i64 r, .int .i64 t, .int .i64 i, .agg (v.d.cells v.ts.length).toArray] w fun e w' => e = .returned (.int .i64 (seS (ts.map Ty.k) (rs.map Rk.k) r t i v.tr)) ∧ Below w.heap.size w w' := by
 have hkl := hW.kl
 have hrl := hW.rl
 rw [List.length_map] at hkl hrl
 have M : Mg w w ([]) := Mg.start w
 refine qx (l := [(0, .pointer (some ⟨b, 0, none⟩)), (1, .int .i64 r), (2, .int .i64 t), (3, .int .i64 i), (4, .agg (v.d.cells v.ts.length).toArray)]) Tryz.func16 rfl Tryz.ntmps16 rfl rfl ?_
 intro Q hret hnorm hP a A
 refine wsk fun K1 hK1 => wrl (jb (vs := (v.d.cells v.ts.length)) (t := 42) A M rfl rfl rfl pg (zh rfl rfl) (by decide) ?_)
 intro g2 w3 M a A
 refine sda A λa A↦?_
 refine qa (hK1 _ _ (wsk fun K4 hK4 => wrl ?_))
 iterate 4 refine sdm A λa A↦?_
 refine gcl A M (ef rfl rfl) (yy (V.below M.bel) hW) fun w6 hb5 M a A => ?_
 refine sdm A λa A↦?_
 iterate 2 refine sdo A (ze (vs := [.int .i64 ((plS (ts.map Ty.k) (rs.map Rk.k) r t i).1), .int .i64 ((plS (ts.map Ty.k) (rs.map Rk.k) r t i).2)]) rfl rfl) λa A↦?_
 iterate 2 refine sda A λa A↦?_
 refine qa (hK4 _ _ (wsk fun K7 hK7 => wp_block (wsk fun K8 hK8 => wrl (sdm A λa A↦?_))))
 rcases tf (((plS (ts.map Ty.k) (rs.map Rk.k) r t i).2 != 0)) with hb9 | hb9
 ·
  have hb9' := bne_iff_ne.1 hb9
  refine sdc A zi hb9 λa A↦?_
  refine sda A λa A↦?_
  refine qa (hK8 _ _ (wp_cond_true (A.ev rfl) ?_))
  refine wsk fun K10 hK10 => wrl (sdm A λa A↦?_)
  refine sda A λa A↦?_
  refine qa (hK10 _ _ (wp_ret (hret _ _ (en1 A rfl (qf rfl) ?_))))
  exact ⟨by rw [qzf (show (plS (ts.map Ty.k) (rs.map Rk.k) r t i).2 ≠ 0 by omega)], M.bel⟩
 ·
  have hb9' := bne_eq_false_iff_eq.1 hb9
  refine sdc A zi hb9 λa A↦?_
  refine sda A λa A↦?_
  refine qa (hK8 _ _ (wp_cond_false (A.ev rfl) ?_))
  refine wsk fun K11 hK11 => wrl (sdo A (qy M RcE_isS_42 rfl 0 rfl (cs := (v.d.cells v.ts.length)) rfl rfl) λa A↦?_)
  rcases tf (jn ja v.tr) with hb12 | hb12
  ·
   refine gcl A M (ef rfl rfl) ((hb12 ▸ sound_any (t := v) (Dt.keep M.bel _ hv) (hT.below M.bel))) fun w14 hb13 M a A => ?_
   refine sdo (v := .bool false) A (zj rfl zq) λa A↦?_
   refine sda A λa A↦?_
   refine qa (hK11 _ _ (wp_cond_false (A.ev rfl) ?_))
   refine wsk fun K15 hK15 => ?_
   obtain ⟨x9, k9, hx9, hk9, p1, p2, p3, p4, p5, p6, p7, p8, p9, p10⟩ := qoe hW (show (plS (ts.map Ty.k) (rs.map Rk.k) r t i).2 = 0 by omega)
   rw [List.length_map] at p2 p4
   obtain ⟨ty16, bt17, ot18, it19, mt20, rt21, lt22, Ht23⟩ := V.T.at_ (i := t.toNat) (by omega)
   have hml := hW.ml _ (List.mem_of_getElem? (zl it19))
   rw [show ty16.k.fs.length = ty16.fs.length from rfl, show ty16.k.ms.length = ty16.ms.length from rfl] at hml
   obtain rfl : k9 = ty16.k := Option.some.inj (hk9.symm.trans (zl it19))
   rw [show ty16.k.fs.length = ty16.fs.length from rfl] at p6
   refine wrl (sdm A λa A↦?_)
   refine sdo A (zf rfl) λa A↦?_
   refine sdo (v := .pointer (some ⟨b, 0, none⟩)) A (qb RcE_fld_73_0 rfl rfl) λa A↦?_
   refine sdo A (E.m_loadX M V.c0 RcE_is1_26 rfl) λa A↦?_
   refine sdm A λa A↦?_
   refine sdo (v := .pointer (some ⟨bt17, ot18 + t.toNat * 7, none⟩)) A (zb (k := t.toNat) Tryz.underlying26 (by kernel_rfl) rfl rfl (by first | rfl | omega) lt22 (by omega)) λa A↦?_
   refine sdo (v := .pointer (some ⟨bt17, ot18 + t.toNat * 7 + 3, none⟩)) A (qb RcE_fld_33_3 rfl rfl) λa A↦?_
   refine sdo A (jm (j := 3) M Ht23 RcE_is1_31 rfl rfl rfl) λa A↦?_
   refine sdm A λa A↦?_
   obtain ⟨bx24, ox25, sx26, hs27, hc28, hi29⟩ := rt21.m.at_ (i := i.toNat) (by omega)
   refine sdo (v := .pointer (some ⟨bx24, ox25 + i.toNat, none⟩)) A (zp (k := i.toNat) Tryz.underlying31 (by kernel_rfl) rfl rfl (by first | rfl | omega) hs27 (by omega)) λa A↦?_
   refine sdo A (E.m_loadX M hc28 RcE_is1_4 rfl) λa A↦?_
   rcases sx26 with _ | _
   ·
    refine sdo (v := .bool true) A (zj rfl zq) λa A↦?_
    refine sda A λa A↦?_
    refine qa (hK15 _ _ (wp_cond_true (A.ev rfl) ?_))
    refine wsk fun K30 hK30 => wrl (sda A λa A↦?_)
    refine qa (hK30 _ _ (wp_ret (hret _ _ (en1 A rfl (qf rfl) ?_))))
    exact ⟨by rw [qeg (show (plS (ts.map Ty.k) (rs.map Rk.k) r t i).2 = 0 by omega) hb12 hk9 hi29, if_neg (by decide)], M.bel⟩
   ·
    refine sdo (v := .bool false) A (zj rfl zq) λa A↦?_
    refine sda A λa A↦?_
    refine qa (hK15 _ _ (wp_cond_false (A.ev rfl) ?_))
    refine wp_skip (hK7 _ _ (wsk fun K31 hK31 => ?_))
    rw [qeg (show (plS (ts.map Ty.k) (rs.map Rk.k) r t i).2 = 0 by omega) hb12 hk9 hi29, if_pos rfl] at hno
    exact absurd rfl hno
  ·
   refine gcl A M (ef rfl rfl) ((hb12 ▸ sound_any (t := v) (Dt.keep M.bel _ hv) (hT.below M.bel))) fun w33 hb32 M a A => ?_
   refine sdo (v := .bool true) A (zj rfl zq) λa A↦?_
   refine sda A λa A↦?_
   refine qa (hK11 _ _ (wp_cond_true (A.ev rfl) ?_))
   refine wsk fun K34 hK34 => wrl (sda A λa A↦?_)
   refine qa (hK34 _ _ (wp_ret (hret _ _ (en1 A rfl (qf rfl) ?_))))
   exact ⟨by rw [qle (show (plS (ts.map Ty.k) (rs.map Rk.k) r t i).2 = 0 by omega) hb12], M.bel⟩
theorem zce {ps : List Int} (hw : Wf ps) (q : List Int) : ∀ (n : Nat) (t : Int), t < ((ps.length : Nat) : Int) → chn (ps ++ q) n t = chn ps n t
  | 0, t, _ => rfl
  | n + 1, t, ht => by
    rw [chn, chn]
    by_cases h : t < 0
    · rw [if_pos h, if_pos h]
    · rw [if_neg h, if_neg h]
      have e : (ps ++ q).getD t.toNat (-1) = ps.getD t.toNat (-1) := by
        rw [List.getD_eq_getElem?_getD, List.getD_eq_getElem?_getD, List.getElem?_append_left (by omega)]
      have := hw.at_ (t := t) (by omega)
      rw [e, zce hw q n _ (by omega)]
theorem zoh {ps : List Int} (hw : Wf ps) (q : List Int) {t : Int} (ht : t < ((ps.length : Nat) : Int)) : chT (ps ++ q) t = chT ps t := zce hw q _ t ht
theorem zcf (ks : List TK) : (prs ks).length = ks.length := List.length_map _
theorem qsc {ks : List TK} (hw : Wf (prs ks)) (u : TK) {t : Int} (ht : t < ((ks.length : Nat) : Int)) : cnt (ks ++ [u]) t = cnt ks t := by
  unfold cnt
  rw [show prs (ks ++ [u]) = prs ks ++ [u.par] from List.map_append, zoh hw _ (by rw [zcf]; exact ht)]
  unfold qji
  congr 1
  refine List.map_congr_left fun x hx => ?_
  have := uh hw hx
  unfold nfs
  rw [List.getElem?_append_left (by omega)]
theorem zsb {ps : List Int} (hw : Wf ps) {p : Int} (h0 : -1 ≤ p) (h1 : p < ((ps.length : Nat) : Int)) : Wf (ps ++ [p]) := by
  intro i q h
  by_cases hi : i < ps.length
  · rw [List.getElem?_append_left hi] at h; exact hw i q h
  · rw [List.getElem?_append_right (by omega)] at h
    have hl := (List.getElem?_eq_some_iff.1 h).1
    simp only [List.length_cons, List.length_nil] at hl
    rw [show i - ps.length = 0 by omega] at h
    cases h
    omega
theorem zoi {ks : List TK} {rr : List (Nat × List Tr)} (hW : WS ks rr) {u : TK} (hn : (tyS ks u).2.2 = true) (hz : u.nm.size ≤ 281474976710656 ∧ u.ui.size ≤ 281474976710656 ∧ ∀ s ∈ u.fs, s.size ≤ 281474976710656) : WS (ks ++ [u]) rr := by
  have key : gdB ks.length u = true ∧ cnt ks u.par + u.fs.length ≤ 16 ∧ ks.length < 4096 := by
    unfold tyS at hn
    split at hn
    · rename_i hg
      split at hn
      · split at hn <;> cases hn
      · split at hn
        · cases hn
        · split at hn
          · rename_i h; exact ⟨hg, h⟩
          · cases hn
    · cases hn
  obtain ⟨hg, hc, hl⟩ := key
  obtain ⟨g1, g2, g3, g4⟩ := znf hg
  have hwf : Wf (prs (ks ++ [u])) := by
    rw [show prs (ks ++ [u]) = prs ks ++ [u.par] from List.map_append]
    exact zsb hW.wf g3 (by rw [zcf]; exact g4)
  refine ⟨hwf, ?_, ?_, by rw [List.length_append]; show ks.length + 1 ≤ 4096; omega, ?_, hW.rl, hW.bk, ?_⟩
  · intro k hk
    rcases List.mem_append.1 hk with h | h
    · exact hW.ml k h
    · rw [List.mem_singleton.1 h]; exact g1
  · intro i hi
    rw [List.length_append] at hi
    by_cases h : i < ks.length
    · rw [qsc hW.wf u (by omega)]; exact hW.fl i h
    · have hi2 : i = ks.length := by simp only [List.length_cons, List.length_nil] at hi; omega
      subst hi2
      have e : (ks ++ [u])[((ks.length : Nat) : Int).toNat]? = some u := by
        rw [Int.toNat_natCast, List.getElem?_append_right (Nat.le_refl _), Nat.sub_self]; rfl
      rw [qjj hwf (by omega) e, qsc hW.wf u g4]
      omega
  · intro r hr
    have := hW.rk r hr
    rw [List.length_append, qsc hW.wf u (by omega)]
    exact ⟨by omega, this.2⟩
  · intro k hk
    rcases List.mem_append.1 hk with h | h
    · exact hW.zs k h
    · rw [List.mem_singleton.1 h]; exact hz
theorem zoj {ks : List TK} {rr : List (Nat × List Tr)} (hW : WS ks rr) {t : Int} {vs : List Tr} (hn : (mkS ks rr.length t vs).2.2 = true) (hb : ∀ d ∈ vs, d.bulk ≤ 1000000000) : WS ks (rr ++ [(t.toNat, vs)]) := by
  have key : okT ks.length t = true ∧ vs.length = cnt ks t ∧ rr.length < 20000 := by
    unfold mkS at hn
    split at hn
    · rename_i h1
      split at hn
      · rename_i h2
        split at hn
        · split at hn
          · rename_i h3; exact ⟨h1, h2, h3⟩
          · cases hn
        · cases hn
      · cases hn
    · cases hn
  obtain ⟨h1, h2, h3⟩ := key
  have h4 := ka h1
  refine ⟨hW.wf, hW.ml, hW.fl, hW.kl, ?_, by rw [List.length_append]; show rr.length + 1 ≤ 20000; omega, ?_, hW.zs⟩
  · intro r hr
    rcases List.mem_append.1 hr with h | h
    · exact hW.rk r h
    · rw [List.mem_singleton.1 h]
      refine ⟨by show t.toNat < _; omega, ?_⟩
      show vs.length = cnt ks ((t.toNat : Nat) : Int)
      rw [show ((t.toNat : Nat) : Int) = t by omega]; exact h2
  · intro r hr
    rcases List.mem_append.1 hr with h | h
    · exact hW.bk r h
    · rw [List.mem_singleton.1 h]; exact hb
/-- One field of one record is changed. -/
def qvb (rr : List (Nat × List Tr)) (r a : Nat) (v : Tr) : List (Nat × List Tr) := match rr[r]? with
  | some x => rr.set r (x.1, x.2.set a v)
  | none => rr
theorem zcg {rr : List (Nat × List Tr)} {r a : Nat} {v : Tr} {x : Nat × List Tr} (h : rr[r]? = some x) : qvb rr r a v = rr.set r (x.1, x.2.set a v) := by unfold qvb; rw [h]
theorem um {α : Type} {l : List α} {i : Nat} {v x : α} (h : x ∈ l.set i v) : x ∈ l ∨ x = v := List.mem_or_eq_of_mem_set h
theorem zsc {ks : List TK} {rr : List (Nat × List Tr)} (hW : WS ks rr) {r a : Nat} {v : Tr} (hb : v.bulk ≤ 1000000000) : WS ks (qvb rr r a v) := by
  unfold qvb
  cases e : rr[r]? with
  | none => exact hW
  | some x =>
    have hx := List.mem_of_getElem? e
    refine ⟨hW.wf, hW.ml, hW.fl, hW.kl, ?_, by rw [List.length_set]; exact hW.rl, ?_, hW.zs⟩
    · intro q hq
      rcases um hq with h | h
      · exact hW.rk q h
      · subst h
        have := hW.rk x hx
        refine ⟨this.1, ?_⟩
        show (x.2.set a v).length = _
        rw [List.length_set]; exact this.2
    · intro q hq d hd
      rcases um hq with h | h
      · exact hW.bk q h d hd
      · subst h
        rcases um hd with h | h
        · exact hW.bk x hx d h
        · rw [h]; exact hb
theorem zsd : WS [] [] := ⟨fun i p h => by simp [prs] at h, fun k h => (by cases h), fun i h => (by simp at h), by simp, fun r h => (by cases h), by simp, fun r h => (by cases h), fun k h => (by cases h)⟩
theorem zff {vs : List Tr} (h : Tr.bulks vs ≤ 1000000000) : ∀ d ∈ vs, d.bulk ≤ 1000000000 := fun d hd => Nat.le_trans (qag hd) h
theorem xy {a b : Ty} : xm a.k b.k = true ↔ a.nm = b.nm ∧ a.par = b.par ∧ a.fs = b.fs ∧ a.ms = b.ms ∧ a.sl = b.sl ∧ a.op = b.op ∧ a.ui = b.ui := by
  rw [vx]
  simp only [Bool.and_eq_true, decide_eq_true_eq, beq_iff_eq, and_assoc]
theorem zch {ts : List Ty} {ui : ByteArray} (hne : ui ≠ ⟨#[]⟩) {i : Nat} {y : Ty} (hb : ∀ (j : Nat) u, j < i → ts[j]? = some u → u.ui ≠ ui) (hi : ts[i]? = some y) (hy : y.ui = ui) : uix (ts.map Ty.k) ui = ((i : Nat) : Int) := by
  unfold uix
  rw [if_neg (by rw [decide_eq_true_eq]; exact hne), qqh]
  exact qhh (fun j u hj hu => decide_eq_false (hb j u hj hu)) hi (decide_eq_true hy)
theorem qvc {ts : List Ty} {ui : ByteArray} {i : Nat} (hb : ∀ (j : Nat) u, j < i → ts[j]? = some u → u.ui ≠ ui) (h : ui = ⟨#[]⟩ ∨ ts.length ≤ i) : ¬ 0 ≤ uix (ts.map Ty.k) ui := by
  unfold uix
  by_cases hq : ui = ⟨#[]⟩
  · rw [if_pos (decide_eq_true hq)]; decide
  · rw [if_neg (by rw [decide_eq_true_eq]; exact hq), qqh]
    have hl := h.resolve_left hq
    rw [show ixG (fun x : Ty => decide (x.k.ui = ui)) ts = -1 from qdj (fun j u hj hu => decide_eq_false (hb j u (by omega) hu))]
    decide
section
variable {P : Program} {w0 w : World} {L : List Ck} {l : List (Nat × Value)} {dst : Option Tmp} {ty : TypeId} {pos : String} {after : Array Edge} {guard : Option (Nat × Bool)}
/-- A whole number in a row of one's own. -/
theorem qvd (hM : Mg w0 w L) (k : Nat) {e : TypeId} {n ca b o i o' : Nat} {so : Option Addr} {xs : List Int} {z : Int} (hk : L[k]? = some (.row e 1 (.slice so n ca) n (inC xs))) (hi : xs[i]? = some z) (hso : so = some ⟨b, o, none⟩) {t : TypeId} (ht : Is1 P t) {y : Operand} (hy : ev l y = some (.pointer (some ⟨b, o', none⟩))) (ho : o' = o + i) : Does P l ⟨dst, .load t y, ty, pos, after, guard⟩ w (.int .i64 z) w := by
  obtain ⟨b', o'', z', e1, h1, h2, _⟩ := qkb (rc_own (hM.has k hk)) (List.getElem?_eq_some_iff.1 hi).1
  rw [hso] at e1
  cases e1
  subst ho
  rw [hi] at h2
  cases h2
  exact jr hy (jy ht h1)
end
structure Pst where
 tz : Option Addr
 tc : Nat
 ts : List Ty
 ro : Option Addr
 rc : Nat
 rs : List Rk
def Rk.row (r : Rk) : Ck := .row 42 11 (.slice r.vo r.vs.length r.vc) r.vs.length (cellsOf r.vs)
def Pst.head (P : Pst) (b : Nat) : List Ck := [(.obj b (.cells #[.slice P.tz P.ts.length P.tc, .slice P.ro P.rs.length P.rc] 73)), .row 33 7 (.slice P.tz P.ts.length P.tc) P.ts.length (qj Ty.c P.ts), .row 86 2 (.slice P.ro P.rs.length P.rc) P.rs.length (qj Rk.c P.rs)]
def Pst.pcs (P : Pst) (b : Nat) : List Ck := P.head b ++ P.rs.map Rk.row
def Pst.ks (P : Pst) : List TK := P.ts.map Ty.k
def Pst.rr (P : Pst) : List (Nat × List Tr) := P.rs.map Rk.k
structure PL (w0 : World) (X : List Ck) (P : Pst) : Prop where
 ty : ∀ t ∈ P.ts, ∀ w, Mg w0 w X → TyR w t
 da : ∀ r ∈ P.rs, ∀ d ∈ r.vs, ∀ w, Mg w0 w X → d.rd w
 ws : WS P.ks P.rr
 nb : jk X
section
variable {w0 w : World} {b : Nat} {P : Pst} {EE X : List Ck}
theorem qeh (rs : List Rk) : jk (rs.map Rk.row) := fun c hc b bs e => by
 obtain ⟨r, _, h⟩ := List.mem_map.1 hc
 rw [← h] at e; cases e
theorem qve (P : Pst) (b : Nat) : jk (P.head b) := fun c hc b' bs e => by
 simp only [Pst.head, List.mem_cons, List.not_mem_nil, or_false] at hc
 rcases hc with h | h | h <;> (rw [h] at e; cases e)
theorem zka (P : Pst) (b : Nat) (EE X : List Ck) : (EE ++ (P.pcs b ++ X)).Perm (P.head b ++ (P.rs.map Rk.row ++ (X ++ EE))) := by
 refine List.perm_append_comm.trans ?_
 rw [Pst.pcs, List.append_assoc, List.append_assoc]
theorem toP (M : Mg w0 w (EE ++ (P.pcs b ++ X))) : Mg w0 w (P.head b ++ (P.rs.map Rk.row ++ (X ++ EE))) := M.perm (zka P b EE X)
theorem zci (hP : PL w0 X P) (M : Mg w0 w (P.head b ++ (P.rs.map Rk.row ++ (X ++ EE)))) : SR w b P.tz P.tc P.ts P.ro P.rc P.rs := by
 have hX : Mg w0 w X := M.sub ((List.sublist_append_left X EE).trans ((List.sublist_append_right _ _).trans (List.sublist_append_right _ _)))
 have h0 : Mg w0 w ((.obj b (.cells #[.slice P.tz P.ts.length P.tc, .slice P.ro P.rs.length P.rc] 73)) :: .row 33 7 (.slice P.tz P.ts.length P.tc) P.ts.length (qj Ty.c P.ts) :: .row 86 2 (.slice P.ro P.rs.length P.rc) P.rs.length (qj Rk.c P.rs) :: (P.rs.map Rk.row ++ (X ++ EE))) := M
 refine ⟨h0.cell 0 rfl 0 rfl, h0.cell 0 rfl 1 rfl, ⟨rc_own (h0.has 1 rfl), fun t ht => hP.ty t ht w hX⟩, ⟨rc_own (h0.has 2 rfl), fun r hr => ⟨?_, fun d hd => hP.da r hr d hd w hX⟩⟩⟩
 have := M.all r.row (by
  refine List.mem_append_right _ (List.mem_append_left _ (List.mem_map.2 ⟨r, hr, rfl⟩)))
 exact (uf this).1
theorem PL.sr (hP : PL w0 X P) (M : Mg w0 w (EE ++ (P.pcs b ++ X))) : SR w b P.tz P.tc P.ts P.ro P.rc P.rs := zci hP (toP M)
theorem PL.more (hP : PL w0 X P) {F : List Ck} (hF : jk F) : PL w0 (F ++ X) P := ⟨fun t ht w h => hP.ty t ht w (h.sub (List.sublist_append_right _ _)), fun r hr d hd w h => hP.da r hr d hd w (h.sub (List.sublist_append_right _ _)), hP.ws, jz hF hP.nb⟩
theorem qvf (hE : jk EE) (hP : PL w0 X P) : jk (P.rs.map Rk.row ++ (X ++ EE)) := jz (qeh P.rs) (jz hP.nb hE)
theorem inE {φ : World → Prop} (h : ∀ w1, Mg w0 w1 EE → φ w1) : ∀ w1, Mg w0 w1 (P.rs.map Rk.row ++ (X ++ EE)) → φ w1 := fun w1 h1 => h w1 (h1.sub ((List.sublist_append_right _ _).trans (List.sublist_append_right _ _)))
theorem zse {hd N A F : List Ck} (h : Mg w0 w (hd ++ (F ++ (A ++ (X ++ EE))))) : Mg w0 w (EE ++ ((hd ++ A) ++ (F ++ X))) := by
 refine h.perm ?_
 refine List.Perm.trans ?_ List.perm_append_comm
 rw [List.append_assoc, List.append_assoc]
 refine List.Perm.append_left hd ?_
 refine (List.perm_append_comm_assoc F A _).trans ?_
 rw [List.append_assoc]
end
theorem qof {xs cs : List Value} {o : Nat} (h : (xs.drop o).take cs.length = cs) : over xs o cs = xs := by
 induction cs generalizing o with
 | nil => rfl
 | cons c cs ih =>
  have h0 : xs[o]? = some c := by
   have := congrArg (fun l => l[0]?) h
   simpa using this
  have e : xs.set o c = xs := by
   apply List.ext_getElem?
   intro i
   by_cases hi : o = i
   ·
    subst hi; rw [List.getElem?_set_self (List.getElem?_eq_some_iff.1 h0).1]; exact h0.symm
   ·
    rw [List.getElem?_set_ne hi]
  rw [over, e]
  refine ih ?_
  have ho := (List.getElem?_eq_some_iff.1 h0).1
  rw [List.drop_eq_getElem_cons ho, List.length_cons, List.take_succ_cons] at h
  exact (List.cons.inj h).2
theorem zkb {w0 w : World} {b : Nat} {P : Pst} {EE X : List Ck} (hP : PL w0 X P) (hE : jk EE) {u : Ty} (hU : ∀ w1, Mg w0 w1 EE → TyR w1 u) (hul : u.fs.length ≤ 2000000) (hum : u.ms.length ≤ 2000000) (hz1 : u.nm.size ≤ 281474976710656) (hz2 : u.ui.size ≤ 281474976710656) (huz : ∀ s ∈ u.fs, s.size ≤ 281474976710656) (M : Mg w0 w (EE ++ (P.pcs b ++ X))) : Calls Tryz.prog 8 #[.pointer (some ⟨b, 0, none⟩), .agg #[.string u.nm, .int .i64 u.par, .slice u.fo u.fs.length u.fc, .slice u.mo u.ms.length u.mc, .bool u.sl, .bool u.op, .string u.ui]] w fun e w' => ∃ (P' : Pst) (F : List Ck), e = .returned (.tuple #[.int .i64 (tyS P.ks u.k).1, .int .i64 (tyS P.ks u.k).2.1]) ∧ (PL w0 (F ++ X) P' ∧ P'.ks = (if (tyS P.ks u.k).2.2 = true then P.ks ++ [u.k] else P.ks) ∧ P'.rr = P.rr) ∧ Mg w0 w' (EE ++ (P'.pcs b ++ (F ++ X))) := by
 have S := hP.sr M
 have hW := hP.ws
 have hEM : Mg w0 w EE := M.sub (List.sublist_append_left _ _)
 cases hq : (tyS P.ks u.k).2.2 with
 | false =>
  refine (zof S hW (hU w hEM) hul hum huz hq).mono ?_
  rintro e w' ⟨rfl, h1⟩
  exact ⟨P, [], rfl, ⟨hP, by rw [if_neg (by decide)], rfl⟩, M.call h1⟩
 | true =>
  have key : gdB P.ts.length u.k = true ∧ ¬ 0 ≤ uix P.ks u.ui ∧ slP P.ks u.par = false ∧ cnt P.ks u.par + u.fs.length ≤ 16 ∧ P.ts.length < 4096 ∧ tyS P.ks u.k = (((P.ts.length : Nat) : Int), 0, true) := by
   have hq0 := hq
   unfold tyS at hq
   split at hq
   ·
    rename_i hg
    split at hq
    ·
     split at hq <;> cases hq
    ·
     rename_i h0
     split at hq
     ·
      cases hq
     ·
      rename_i h1
      split at hq
      ·
       rename_i h2
       refine ⟨?_, h0, show slP P.ks u.k.par = false by simpa using h1, h2.1, by have := h2.2; rwa [Pst.ks, List.length_map] at this, ?_⟩
       ·
        rwa [Pst.ks, List.length_map] at hg
       ·
        rw [uj hg h0 (by simpa using h1) h2, Pst.ks, List.length_map]
      ·
       cases hq
   ·
    cases hq
  obtain ⟨k1, k2, k3, k4, k5, k6⟩ := key
  refine (zji (qvf hE hP) hW (fun w1 h1 => zci hP h1) (toP M) (inE hU) hul hum hz1 hz2 huz k1 k2 k3 k4 k5).mono ?_
  rintro e w' ⟨t2, tz', tc', rfl, hk2, h1⟩
  have hks : (P.ts ++ [t2]).map Ty.k = P.ks ++ [u.k] := by rw [List.map_append, List.map_cons, List.map_nil, hk2]; rfl
  refine ⟨⟨tz', tc', P.ts ++ [t2], P.ro, P.rc, P.rs⟩, [.row 9 1 (.slice t2.fo t2.fs.length t2.fc) t2.fs.length (E.strC t2.fs), .row 4 1 (.slice t2.mo t2.ms.length t2.mc) t2.ms.length (E.boolC t2.ms)], by rw [k6], ⟨⟨?_, fun r hr d hd w9 h9 => hP.da r hr d hd w9 (h9.sub (List.sublist_append_right _ _)), ?_, jz (qg (by simp) (qg (by simp) (fun c hc => by cases hc))) hP.nb⟩, by rw [if_pos rfl]; exact hks, rfl⟩, ?_⟩
  ·
   intro t ht w9 h9
   rcases List.mem_append.1 ht with h | h
   ·
    exact hP.ty t h w9 (h9.sub (List.sublist_append_right _ _))
   ·
    rw [List.mem_singleton.1 h]
    exact ⟨Go.Proofs.YtokgmpjblnpjmaaGreatDoor.G.E.rc_own (h9.has 0 rfl), Go.Proofs.YtokgmpjblnpjmaaGreatDoor.G.E.rc_own (h9.has 1 rfl)⟩
  ·
   show WS ((P.ts ++ [t2]).map Ty.k) P.rr
   rw [hks]
   exact zoi hW hq ⟨hz1, hz2, huz⟩
  ·
   exact zse (hd := Pst.head ⟨tz', tc', P.ts ++ [t2], P.ro, P.rc, P.rs⟩ b) (N := []) (F := [.row 9 1 (.slice t2.fo t2.fs.length t2.fc) t2.fs.length (E.strC t2.fs), .row 4 1 (.slice t2.mo t2.ms.length t2.mc) t2.ms.length (E.boolC t2.ms)]) (A := P.rs.map Rk.row) h1
theorem qsd {w0 w : World} {b : Nat} {P : Pst} {EE X : List Ck} (hP : PL w0 X P) (hE : jk EE) {vo : Option Addr} {vc : Nat} {vs : List Dt} (hV : ∀ w1, Mg w0 w1 EE → Rt w1 vo vs ∧ ∀ d ∈ vs, d.rd w1) (hvb : Tr.bulks (vs.map Dt.tr) ≤ 1000000000) (hT : ∀ w1, Mg w0 w1 EE → Tabs8 w1) (t : Int) (M : Mg w0 w (EE ++ (P.pcs b ++ X))) : Calls Tryz.prog 10 #[.pointer (some ⟨b, 0, none⟩), .int .i64 t, .slice vo vs.length vc] w fun e w' => ∃ (P' : Pst) (F : List Ck), e = .returned (.tuple #[.int .i64 (mkS P.ks P.rs.length t (vs.map Dt.tr)).1, .int .i64 (mkS P.ks P.rs.length t (vs.map Dt.tr)).2.1]) ∧ (PL w0 (F ++ X) P' ∧ P'.ks = P.ks ∧ P'.rr = (if (mkS P.ks P.rs.length t (vs.map Dt.tr)).2.2 = true then P.rr ++ [(t.toNat, vs.map Dt.tr)] else P.rr)) ∧ Mg w0 w' (EE ++ (P'.pcs b ++ (F ++ X))) := by
 have S := hP.sr M
 have hW := hP.ws
 have hEM : Mg w0 w EE := M.sub (List.sublist_append_left _ _)
 have hvl := ky vs
 cases hq : (mkS P.ks P.rs.length t (vs.map Dt.tr)).2.2 with
 | false =>
  refine (zog S hW (hV w hEM).1 (hV w hEM).2 (by omega) (hT w hEM) hq).mono ?_
  rintro e w' ⟨rfl, h1⟩
  exact ⟨P, [], rfl, ⟨hP, rfl, by rw [if_neg (by decide)]⟩, M.call h1⟩
 | true =>
  have key : okT P.ts.length t = true ∧ vs.length = cnt P.ks t ∧ (vs.map Dt.tr).all (jn ja) = true ∧ P.rs.length < 20000 ∧ mkS P.ks P.rs.length t (vs.map Dt.tr) = (((P.rs.length : Nat) : Int), 0, true) := by
   unfold mkS at hq
   split at hq
   ·
    rename_i h1
    rw [Pst.ks, List.length_map] at h1
    split at hq
    ·
     rename_i h2
     split at hq
     ·
      rename_i h3
      split at hq
      ·
       rename_i h4; exact ⟨h1, by rw [← h2, List.length_map], h3, h4, qzc h1 h2 h3 h4⟩
      ·
       cases hq
     ·
      cases hq
    ·
     cases hq
   ·
    cases hq
  obtain ⟨k1, k2, k3, k4, k5⟩ := key
  refine (zoe (qvf hE hP) hW (fun w1 h1 => zci hP h1) (toP M) (inE hV) hvb (inE hT) k1 k2 k3 k4).mono ?_
  rintro e w' ⟨us, so6, ca6, ro', rc', F, rfl, ⟨htr, hL, hF⟩, h1⟩
  have hrr : (P.rs ++ [Rk.mk t.toNat so6 ca6 us]).map Rk.k = P.rr ++ [(t.toNat, vs.map Dt.tr)] := by rw [List.map_append, List.map_cons, List.map_nil, ← htr]; rfl
  refine ⟨⟨P.tz, P.tc, P.ts, ro', rc', P.rs ++ [Rk.mk t.toNat so6 ca6 us]⟩, F, by rw [k5], ⟨⟨fun y hy w9 h9 => hP.ty y hy w9 (h9.sub (List.sublist_append_right _ _)), ?_, ?_, jz hF hP.nb⟩, rfl, by rw [if_pos rfl]; exact hrr⟩, ?_⟩
  ·
   intro r hr d hd w9 h9
   rcases List.mem_append.1 hr with h | h
   ·
    exact hP.da r h d hd w9 (h9.sub (List.sublist_append_right _ _))
   ·
    rw [List.mem_singleton.1 h] at hd
    exact hL d hd _ w9 (h9.sub (List.sublist_append_left _ _))
  ·
   show WS P.ks ((P.rs ++ [Rk.mk t.toNat so6 ca6 us]).map Rk.k)
   rw [hrr]
   exact zoj hW (by rw [Pst.rr, List.length_map]; exact hq) (zff hvb)
  ·
   refine zse (hd := Pst.head ⟨P.tz, P.tc, P.ts, ro', rc', P.rs ++ [Rk.mk t.toNat so6 ca6 us]⟩ b) (N := []) (F := F) (A := (P.rs ++ [Rk.mk t.toNat so6 ca6 us]).map Rk.row) ?_
   refine Mg.perm h1 ?_
   rw [List.map_append]
   show List.Perm (Pst.head ⟨P.tz, P.tc, P.ts, ro', rc', P.rs ++ [Rk.mk t.toNat so6 ca6 us]⟩ b ++ ([(Rk.mk t.toNat so6 ca6 us).row] ++ (F ++ (P.rs.map Rk.row ++ (X ++ EE))))) _
   refine List.Perm.append_left _ ?_
   refine (List.perm_append_comm_assoc _ F _).trans (List.Perm.append_left F ?_)
   rw [List.append_assoc]
   exact List.perm_append_comm_assoc _ _ _
theorem zcj {rs : List Rk} : ∀ {j : Nat} {x : Rk} (y : Rk), rs[j]? = some x → (rs.map Rk.row).Perm (x.row :: (rs.eraseIdx j).map Rk.row) ∧ ((rs.set j y).map Rk.row).Perm (y.row :: (rs.eraseIdx j).map Rk.row) := by
 induction rs with
 | nil => intro j x y h; simp at h
 | cons a l ih =>
  intro j x y h
  cases j with
  | zero => cases h; exact ⟨.refl _, .refl _⟩
  | succ j =>
   obtain ⟨h1, h2⟩ := ih y (show l[j]? = some x by simpa using h)
   exact ⟨(h1.cons _).trans (.swap _ _ _), (h2.cons _).trans (.swap _ _ _)⟩
theorem zti {w0 w : World} {b : Nat} {P : Pst} {EE X : List Ck} (hP : PL w0 X P) (hE : jk EE) {v : Dt} (hv : ∀ w1, Mg w0 w1 EE → v.rd w1) (hvb : v.tr.bulk ≤ 1000000000) (hT : ∀ w1, Mg w0 w1 EE → Tabs8 w1) (r t i : Int) (M : Mg w0 w (EE ++ (P.pcs b ++ X))) : Calls Tryz.prog 16 #[.pointer (some ⟨b, 0, none⟩), .int .i64 r, .int .i64 t, .int .i64 i, .agg (v.d.cells v.ts.length).toArray] w fun e w' => ∃ (P' : Pst) (F : List Ck), e = .returned (.int .i64 (seS P.ks P.rr r t i v.tr)) ∧ (PL w0 (F ++ X) P' ∧ P'.ks = P.ks ∧ P'.rr = (if seS P.ks P.rr r t i v.tr = 0 then qvb P.rr r.toNat (plS P.ks P.rr r t i).1.toNat v.tr else P.rr)) ∧ Mg w0 w' (EE ++ (P'.pcs b ++ (F ++ X))) := by
 have S := hP.sr M
 have hW := hP.ws
 have hEM : Mg w0 w EE := M.sub (List.sublist_append_left _ _)
 by_cases hq : seS P.ks P.rr r t i v.tr = 0
 ·
  have key : (plS P.ks P.rr r t i).2 = 0 ∧ jn ja v.tr = true ∧ (((P.ks[t.toNat]?).map fun k => (k.ms[i.toNat]?).getD false).getD false) = true := by
   have hq0 := hq
   unfold seS at hq
   split at hq
   ·
    rename_i h1
    split at hq
    ·
     rename_i h2
     split at hq
     ·
      rename_i h3; exact ⟨h1, h2, h3⟩
     ·
      exact absurd hq (by decide)
    ·
     exact absurd hq (by decide)
   ·
    rename_i h1; exact absurd hq h1
  obtain ⟨k1, k2, k3⟩ := key
  obtain ⟨x9, k9, hx9, hk9, p1, p2, p3, p4, p5, p6, p7, p8, p9, p10⟩ := qoe hW k1
  have hr2 : r.toNat < P.rs.length := by rw [Pst.rr, List.length_map] at p2; omega
  have hx : P.rs[r.toNat]? = some (P.rs[r.toNat]) := List.getElem?_eq_getElem hr2
  generalize P.rs[r.toNat] = x at hx
  have hxk := xf hx
  have hexk : x9 = x.k := Option.some.inj (hx9.symm.trans hxk)
  subst hexk
  have hpm : (P.rs.map Rk.row ++ (X ++ EE)).Perm (x.row :: ((P.rs.eraseIdx r.toNat).map Rk.row ++ (X ++ EE))) := (zcj x hx).1.append_right _
  refine (zrj (x := x) (Y := (P.rs.eraseIdx r.toNat).map Rk.row ++ (X ++ EE)) (jz (qeh _) (jz hP.nb hE)) hW (fun w1 h1 => zci hP (h1.perm (List.Perm.append_left (P.head b) hpm.symm))) ((toP M).perm (List.Perm.append_left (P.head b) hpm)) (fun w1 h1 => hv w1 (h1.sub ((List.sublist_append_right _ _).trans (List.sublist_append_right _ _)))) hvb (fun w1 h1 => hT w1 (h1.sub ((List.sublist_append_right _ _).trans (List.sublist_append_right _ _)))) hx k1 k2 k3).mono ?_
  rintro e w' ⟨v2, F, rfl, ⟨ht2, hL, hF⟩, h1⟩
  have hlen : (x.vs.set (plS P.ks P.rr r t i).1.toNat v2).length = x.vs.length := List.length_set
  have hln2 : (P.rs.set r.toNat (Rk.mk x.kd x.vo x.vc (x.vs.set (plS P.ks P.rr r t i).1.toNat v2))).length = P.rs.length := List.length_set
  have hrr : (P.rs.set r.toNat (Rk.mk x.kd x.vo x.vc (x.vs.set (plS P.ks P.rr r t i).1.toNat v2))).map Rk.k = qvb P.rr r.toNat (plS P.ks P.rr r t i).1.toNat v.tr := by
   rw [zcg hx9, List.map_set]
   show (P.rs.map Rk.k).set _ (x.kd, (x.vs.set (plS P.ks P.rr r t i).1.toNat v2).map Dt.tr) = _
   rw [List.map_set, ht2]; rfl
  have hcc : qj Rk.c (P.rs.set r.toNat (Rk.mk x.kd x.vo x.vc (x.vs.set (plS P.ks P.rr r t i).1.toNat v2))) = qj Rk.c P.rs := by
   rw [← qtj ug _ hr2]
   refine qof ?_
   show ((qj Rk.c P.rs).drop _).take 2 = [.int .i64 ((x.kd : Nat) : Int), .slice x.vo (x.vs.set (plS P.ks P.rr r t i).1.toNat v2).length x.vc]
   rw [hlen, qhg ug hx]; rfl
  refine ⟨⟨P.tz, P.tc, P.ts, P.ro, P.rc, P.rs.set r.toNat (Rk.mk x.kd x.vo x.vc (x.vs.set (plS P.ks P.rr r t i).1.toNat v2))⟩, F, by rw [hq], ⟨⟨fun y hy w9 h9 => hP.ty y hy w9 (h9.sub (List.sublist_append_right _ _)), ?_, ?_, jz hF hP.nb⟩, rfl, by rw [if_pos hq]; exact hrr⟩, ?_⟩
  ·
   intro y hy d hd w9 h9
   have h9X := h9.sub (List.sublist_append_right F X)
   rcases um hy with h | h
   ·
    exact hP.da y h d hd w9 h9X
   ·
    rw [h] at hd
    rcases um hd with h | h
    ·
     exact hP.da x (List.mem_of_getElem? hx) d h w9 h9X
    ·
     rw [h]; exact hL _ w9 (h9.sub (List.sublist_append_left _ _))
  ·
   show WS P.ks ((P.rs.set r.toNat (Rk.mk x.kd x.vo x.vc (x.vs.set (plS P.ks P.rr r t i).1.toNat v2))).map Rk.k)
   rw [hrr]
   exact zsc hW hvb
  ·
   refine zse (hd := Pst.head ⟨P.tz, P.tc, P.ts, P.ro, P.rc, P.rs.set r.toNat (Rk.mk x.kd x.vo x.vc (x.vs.set (plS P.ks P.rr r t i).1.toNat v2))⟩ b) (N := []) (F := F) (A := (P.rs.set r.toNat (Rk.mk x.kd x.vo x.vc (x.vs.set (plS P.ks P.rr r t i).1.toNat v2))).map Rk.row) ?_
   have eh : Pst.head ⟨P.tz, P.tc, P.ts, P.ro, P.rc, P.rs.set r.toNat (Rk.mk x.kd x.vo x.vc (x.vs.set (plS P.ks P.rr r t i).1.toNat v2))⟩ b = P.head b := by
    show [_, _, Ck.row _ _ (.slice P.ro (P.rs.set r.toNat _).length P.rc) (P.rs.set r.toNat _).length (qj Rk.c (P.rs.set r.toNat _))] = _
    rw [hcc, hln2]; rfl
   rw [eh]
   refine Mg.perm h1 ?_
   show List.Perm (P.head b ++ (.row 42 11 (.slice x.vo x.vs.length x.vc) x.vs.length (cellsOf (x.vs.set (plS P.ks P.rr r t i).1.toNat v2)) :: (F ++ ((P.rs.eraseIdx r.toNat).map Rk.row ++ (X ++ EE))))) _
   refine List.Perm.append_left _ ?_
   refine List.Perm.trans ?_ (List.Perm.append_left F ((zcj (Rk.mk x.kd x.vo x.vc (x.vs.set (plS P.ks P.rr r t i).1.toNat v2)) hx).2.symm.append_right _))
   rw [show (Rk.mk x.kd x.vo x.vc (x.vs.set (plS P.ks P.rr r t i).1.toNat v2)).row = Ck.row 42 11 (.slice x.vo x.vs.length x.vc) x.vs.length (cellsOf (x.vs.set (plS P.ks P.rr r t i).1.toNat v2)) from by unfold Rk.row; rw [hlen]]
   exact (List.perm_append_comm_assoc F [_] _).symm
 ·
  refine (zsa S hW (hv w hEM) (hT w hEM) hq).mono ?_
  rintro e w' ⟨rfl, h1⟩
  exact ⟨P, [], rfl, ⟨hP, rfl, by rw [if_neg hq]⟩, M.call h1⟩
def kD (k n : Int) : Dt := .mk ⟨k, n, ⟨Q6.zero, none, 0, none, 0, none, 0, none, 0⟩, ⟨#[]⟩, none, 0, [], none, 0⟩ []
def kT (k n : Int) : Tr := .mk k n Q6.zero ⟨#[]⟩ [] []
theorem zqe (k n : Int) : (kD k n).tr = kT k n := by unfold kD kT; rw [Dt.tr_mk]; rfl
theorem ztj (w : World) {k n : Int} (h0 : -9223372036854775808 ≤ k) (h1 : k ≤ 9223372036854775807) (h2 : -9223372036854775808 ≤ n) (h3 : n ≤ 9223372036854775807) : (kD k n).rd w :=
  Dt.rd_iff.2 ⟨⟨⟨Sc.none w, Sc.none w, Sc.none w, Sc.none w⟩, qob, ⟨fun h => absurd rfl h⟩, Nat.le_refl _, by show (0 : Nat) ≤ _; omega, h0, h1, h2, h3, by show (0 : Nat) ≤ _; omega⟩, Nat.le_refl _, by show (0 : Nat) ≤ _; omega, fun h => absurd rfl h, fun t h => by cases h⟩
theorem zva {t u : Dt} (h : t.tr = u.tr) : t.d.n = u.d.n := by
  cases t with
  | mk d ts =>
    cases u with
    | mk e us =>
      rw [Dt.tr_mk, Dt.tr_mk] at h
      injection h
theorem RcG_is1_3 : Is1 Tryz.prog 3 := ⟨⟨_, Tryz.underlying3, rfl⟩, by kernel_rfl⟩
theorem RcG_fld_42_1 : FieldAt Tryz.prog 42 1 1 := ⟨_, _, Tryz.underlying42, rfl, rfl, by kernel_rfl⟩
theorem zda {w : World} : Calls Tryz.prog 7 #[] w fun e w' => ∃ g, e = .returned (.pointer (some ⟨g, 0, none⟩)) ∧ Mg w w' ((⟨none, 0, [], none, 0, []⟩ : Pst).pcs g) := by
 have M : Mg w w ([]) := Mg.start w
 refine qx (l := []) Tryz.func7 rfl Tryz.ntmps7 rfl rfl ?_
 intro Q hret hnorm hP a A
 refine wsk fun K1 hK1 => wrl (sda A λa A↦?_)
 refine qa (hK1 _ _ (wsk fun K2 hK2 => wrl (sdo (v := .agg #[.slice none 0 0, .slice none 0 0]) A (jd rfl (fun w => by kernel_rfl)) λa A↦?_)))
 refine jb (vs := [.slice none 0 0, .slice none 0 0]) (t := 73) A M rfl rfl rfl pg (zh rfl rfl) (by decide) ?_
 intro g3 w4 M a A
 refine sda A λa A↦?_
 refine qa (hK2 _ _ (wp_ret (hret _ _ (en1 A rfl (qf rfl) ?_))))
 have hM2 := (M.nilRow (qg (by simp) (ql qn)) 86 2).nilRow (qg (by simp) (qg (by simp) (ql qn))) 33 7
 exact ⟨_, rfl, hM2.perm ((List.Perm.cons _ (List.Perm.swap _ _ _)).trans (List.Perm.swap _ _ _))⟩
theorem qvg (g : Nat) : jk ((⟨none, 0, [], none, 0, []⟩ : Pst).pcs g) := jz (qve _ _) (qeh _)
theorem pl0 (w0 : World) : PL w0 [] (⟨none, 0, [], none, 0, []⟩ : Pst) := ⟨fun t h => (by cases h), fun r h => (by cases h), zsd, fun c h => (by cases h)⟩
def awK : TK := ⟨⟨#[112]⟩, -1, [⟨#[120]⟩], [true], false, false, ⟨#[]⟩⟩
theorem zua : tyS [] awK = (0, 0, true) := by decide +kernel
theorem zub : mkS [awK] 0 0 [kT 2 1] = (0, 0, true) := by decide +kernel
theorem zuc : plS [awK] [(0, [kT 2 1])] 0 0 0 = (0, 0) := by decide +kernel
theorem zud : gtT [awK] [(0, [kT 2 1])] 0 0 0 = kT 2 1 := by unfold gtT; rw [zuc]; rfl
theorem zpa {w0 w : World} {b : Nat} {P : Pst} {EE X : List Ck} (hP : PL w0 X P) (hE : jk EE) {u : Ty} (hU : ∀ w1, Mg w0 w1 EE → TyR w1 u) (hul : u.fs.length ≤ 2000000) (hum : u.ms.length ≤ 2000000) (hz1 : u.nm.size ≤ 281474976710656) (hz2 : u.ui.size ≤ 281474976710656) (huz : ∀ s ∈ u.fs, s.size ≤ 281474976710656) {a : Int} (hz : tyS P.ks u.k = (a, 0, true)) (M : Mg w0 w (EE ++ (P.pcs b ++ X))) : Calls Tryz.prog 8 #[.pointer (some ⟨b, 0, none⟩), .agg #[.string u.nm, .int .i64 u.par, .slice u.fo u.fs.length u.fc, .slice u.mo u.ms.length u.mc, .bool u.sl, .bool u.op, .string u.ui]] w fun e w' => ∃ (P' : Pst) (F : List Ck), e = .returned (.tuple #[.int .i64 a, .int .i64 0]) ∧ (PL w0 (F ++ X) P' ∧ P'.ks = P.ks ++ [u.k] ∧ P'.rr = P.rr) ∧ Mg w0 w' (EE ++ (P'.pcs b ++ (F ++ X))) := by
 have h := zkb hP hE hU hul hum hz1 hz2 huz M
 rw [hz] at h
 exact h
theorem zpb {w0 w : World} {b : Nat} {P : Pst} {EE X : List Ck} (hP : PL w0 X P) (hE : jk EE) {vo : Option Addr} {vc : Nat} {vs : List Dt} (hV : ∀ w1, Mg w0 w1 EE → Rt w1 vo vs ∧ ∀ d ∈ vs, d.rd w1) (hvb : Tr.bulks (vs.map Dt.tr) ≤ 1000000000) (hT : ∀ w1, Mg w0 w1 EE → Tabs8 w1) (t : Int) {ks : List TK} {n : Nat} {trs : List Tr} {a : Int} (hks : P.ks = ks) (hn : P.rs.length = n) (htr : vs.map Dt.tr = trs) (hz : mkS ks n t trs = (a, 0, true)) (M : Mg w0 w (EE ++ (P.pcs b ++ X))) : Calls Tryz.prog 10 #[.pointer (some ⟨b, 0, none⟩), .int .i64 t, .slice vo vs.length vc] w fun e w' => ∃ (P' : Pst) (F : List Ck), e = .returned (.tuple #[.int .i64 a, .int .i64 0]) ∧ (PL w0 (F ++ X) P' ∧ P'.ks = ks ∧ P'.rr = P.rr ++ [(t.toNat, trs)]) ∧ Mg w0 w' (EE ++ (P'.pcs b ++ (F ++ X))) := by
 have h := qsd (vc := vc) hP hE hV hvb hT t M
 rw [hks, hn, htr, hz] at h
 exact h
theorem zue {w0 w : World} {b : Nat} {P : Pst} {EE X : List Ck} (hP : PL w0 X P) (r t i : Int) {ks : List TK} {rr : List (Nat × List Tr)} (hks : P.ks = ks) (hrr : P.rr = rr) (M : Mg w0 w (EE ++ (P.pcs b ++ X))) : Calls Tryz.prog 13 #[.pointer (some ⟨b, 0, none⟩), .int .i64 r, .int .i64 t, .int .i64 i] w fun e w' => ∃ d2 : Dt, e = .returned (.tuple #[.agg (d2.d.cells d2.ts.length).toArray, .int .i64 (plS ks rr r t i).2]) ∧ (d2.rd w' ∧ d2.tr = gtT ks rr r t i) ∧ Mg w0 w' (EE ++ (P.pcs b ++ X)) := by
 subst hks hrr
 refine (zcd (hP.sr M) hP.ws).mono ?_
 rintro e w' ⟨d2, h1, h2, h3⟩
 exact ⟨d2, h1, ⟨h2.1, h2.2.1⟩, M.call h3⟩
theorem zfg {w : World} (hT : Tabs8 w) : Calls Tryz.prog 6 #[] w fun e w' => e = .returned (.bool true) ∧ Below w.heap.size w w' := by
 have M : Mg w w ([]) := Mg.start w
 refine qx (l := []) Tryz.func6 rfl Tryz.ntmps6 rfl rfl ?_
 intro Q hret hnorm hP a A
 refine wsk fun K1 hK1 => wrl (sda A λa A↦?_)
 refine qa (hK1 _ _ (wsk fun K2 hK2 => wrl (sct A (ef rfl rfl) (zda) ?_)))
 rintro _ w5 ⟨g4, rfl, hM3⟩
 replace M : Mg w w5 (((⟨none, 0, [], none, 0, []⟩ : Pst).pcs g4 ++ [])) := (show Mg _ _ ([] ++ ((⟨none, 0, [], none, 0, []⟩ : Pst).pcs g4 ++ [])) from (by rw [List.append_nil]; exact (M.both hM3 (ql qn) (qvg g4)).perm List.perm_append_comm))
 refine ⟨_, rfl, ?_⟩
 intro a A
 refine sda A λa A↦?_
 refine qa (hK2 _ _ (wsk fun K6 hK6 => wsk fun K7 hK7 => wrl (sdm A λa A↦?_)))
 refine sdo (v := .bool false) A (qi rfl rfl (fun w => by kernel_rfl)) λa A↦?_
 refine qa (hK7 _ _ (wp_cond_false (A.ev rfl) ?_))
 refine wp_skip (hK6 _ _ (wsk fun K8 hK8 => wrl (sdm A λa A↦?_)))
 refine jw (e := 9) (sz := 1) (m := 1) (vs := E.strC [⟨#[120]⟩]) A M rfl rfl rfl (qs rfl (by kernel_rfl)) rfl rfl (.inl (by decide)) ?_
 intro g9 w10 M a A
 refine jw (e := 4) (sz := 1) (m := 1) (vs := E.boolC [true]) A M rfl rfl rfl (qs rfl (by kernel_rfl)) rfl rfl (.inl (by decide)) ?_
 intro g11 w12 M a A
 refine sdo (v := .agg #[.string (⟨#[112]⟩), .int .i64 (-1), .slice (some ⟨g9, 0, none⟩) 1 1, .slice (some ⟨g11, 0, none⟩) 1 1, .bool false, .bool false, .string (⟨#[]⟩)]) A (jd rfl (fun w => by kernel_rfl)) λa A↦?_
 refine sct A (ef rfl rfl) (zpa (EE := [.row 4 1 (.slice (some ⟨g11, 0, none⟩) 1 1) 1 (E.boolC [true]), .row 9 1 (.slice (some ⟨g9, 0, none⟩) 1 1) 1 (E.strC [⟨#[120]⟩])]) (pl0 w) (qg (by simp) (qg (by simp) (ql qn))) (u := (⟨⟨#[112]⟩, -1, some ⟨g9, 0, none⟩, 1, [⟨#[120]⟩], some ⟨g11, 0, none⟩, 1, [true], false, false, ⟨#[]⟩⟩ : Ty)) (fun w1 h1 => ⟨E.rc_own (h1.has 1 rfl), E.rc_own (h1.has 0 rfl)⟩) (show 1 ≤ 2000000 by decide) (show 1 ≤ 2000000 by decide) (show (⟨#[112]⟩ : ByteArray).size ≤ 281474976710656 by decide) (show (⟨#[]⟩ : ByteArray).size ≤ 281474976710656 by decide) (fun s hs => by rw [List.mem_singleton.1 hs]; decide) zua M) ?_
 rintro _ w14 ⟨P1, F1, rfl, ⟨hP1, hk1, hr1⟩, hM13⟩
 replace M : Mg w w14 (.row 4 1 (.slice (some ⟨g11, 0, none⟩) 1 1) 1 (E.boolC [true]) :: .row 9 1 (.slice (some ⟨g9, 0, none⟩) 1 1) 1 (E.strC [⟨#[120]⟩]) :: (P1.pcs g4 ++ (F1 ++ []))) := hM13
 refine ⟨_, rfl, ?_⟩
 intro a A
 refine sdm A λa A↦?_
 iterate 2 refine sdo A (ze (vs := [.int .i64 0, .int .i64 0]) rfl rfl) λa A↦?_
 iterate 2 refine sda A λa A↦?_
 refine qa (hK8 _ _ (wsk fun K15 hK15 => wrl ?_))
 iterate 2 refine sdm A λa A↦?_
 refine sdo (v := .agg ((kD 2 1).d.cells (kD 2 1).ts.length).toArray) A (jd rfl (fun w => by kernel_rfl)) λa A↦?_
 refine jw (e := 42) (sz := 11) (m := 1) (vs := cellsOf [(kD 2 1)]) A M rfl rfl rfl (qs rfl (by kernel_rfl)) rfl rfl (.inl (by decide)) ?_
 intro g16 w17 M a A
 refine sct A (ef rfl rfl) (zpb (EE := [.row 42 11 (.slice (some ⟨g16, 0, none⟩) 1 1) 1 (cellsOf [(kD 2 1)]), .row 4 1 (.slice (some ⟨g11, 0, none⟩) 1 1) 1 (E.boolC [true]), .row 9 1 (.slice (some ⟨g9, 0, none⟩) 1 1) 1 (E.strC [⟨#[120]⟩])]) (vs := [kD 2 1]) hP1 (qg (by simp) (qg (by simp) (qg (by simp) (ql qn)))) (fun w1 h1 => ⟨(uf (h1.has 0 rfl)).1, fun d hd => by rw [List.mem_singleton.1 hd]; exact ztj _ (by decide) (by decide) (by decide) (by decide)⟩) (by decide +kernel) (fun w1 h1 => hT.below h1.bel) 0 (show P1.ks = [awK] from hk1) (by have h8 := congrArg List.length hr1; rw [Pst.rr, List.length_map] at h8; exact h8) (show [kD 2 1].map Dt.tr = [kT 2 1] by rw [List.map_cons, List.map_nil, zqe]) zub M) ?_
 rintro _ w19 ⟨P2, F2, rfl, ⟨hP2, hk2, hr2⟩, hM18⟩
 replace M : Mg w w19 (.row 42 11 (.slice (some ⟨g16, 0, none⟩) 1 1) 1 (cellsOf [(kD 2 1)]) :: .row 4 1 (.slice (some ⟨g11, 0, none⟩) 1 1) 1 (E.boolC [true]) :: .row 9 1 (.slice (some ⟨g9, 0, none⟩) 1 1) 1 (E.strC [⟨#[120]⟩]) :: (P2.pcs g4 ++ (F2 ++ (F1 ++ [])))) := hM18
 refine ⟨_, rfl, ?_⟩
 intro a A
 refine sdm A λa A↦?_
 iterate 2 refine sdo A (ze (vs := [.int .i64 0, .int .i64 0]) rfl rfl) λa A↦?_
 iterate 2 refine sda A λa A↦?_
 refine qa (hK15 _ _ (wsk fun K20 hK20 => wrl ?_))
 iterate 3 refine sdm A λa A↦?_
 refine sct A (ef rfl rfl) (zue (EE := [.row 42 11 (.slice (some ⟨g16, 0, none⟩) 1 1) 1 (cellsOf [(kD 2 1)]), .row 4 1 (.slice (some ⟨g11, 0, none⟩) 1 1) 1 (E.boolC [true]), .row 9 1 (.slice (some ⟨g9, 0, none⟩) 1 1) 1 (E.strC [⟨#[120]⟩])]) hP2 0 0 0 hk2 (show P2.rr = [(0, [kT 2 1])] by rw [hr2, hr1]; rfl) M) ?_
 rintro _ w22 ⟨d2, rfl, ⟨hd2, hdt2⟩, hM21⟩
 have hn2 : d2.d.n = 1 := zva (u := kD 2 1) (hdt2.trans (zud.trans (zqe 2 1).symm))
 replace M : Mg w w22 (.row 42 11 (.slice (some ⟨g16, 0, none⟩) 1 1) 1 (cellsOf [(kD 2 1)]) :: .row 4 1 (.slice (some ⟨g11, 0, none⟩) 1 1) 1 (E.boolC [true]) :: .row 9 1 (.slice (some ⟨g9, 0, none⟩) 1 1) 1 (E.strC [⟨#[120]⟩]) :: (P2.pcs g4 ++ (F2 ++ (F1 ++ [])))) := hM21
 refine ⟨_, rfl, ?_⟩
 intro a A
 refine sdm A λa A↦?_
 iterate 2 refine sdo A (ze (vs := [.agg (d2.d.cells d2.ts.length).toArray, .int .i64 0]) rfl rfl) λa A↦?_
 refine jb (vs := (js.d.cells js.ts.length)) (t := 42) A M rfl rfl rfl pg (zw (z := .agg (js.d.cells js.ts.length).toArray) (by kernel_rfl) rfl) (by decide) ?_
 intro g23 w24 M a A
 refine zr (us := (d2.d.cells d2.ts.length)) (L' := (.obj g23 (.cells (d2.d.cells d2.ts.length).toArray 42) :: .row 42 11 (.slice (some ⟨g16, 0, none⟩) 1 1) 1 (cellsOf [(kD 2 1)]) :: .row 4 1 (.slice (some ⟨g11, 0, none⟩) 1 1) 1 (E.boolC [true]) :: .row 9 1 (.slice (some ⟨g9, 0, none⟩) 1 1) 1 (E.strC [⟨#[120]⟩]) :: (P2.pcs g4 ++ (F2 ++ (F1 ++ []))))) A M rfl rfl (qz rfl rfl rfl (by kernel_rfl) M 0 rfl rfl rfl) 0 rfl rfl rfl ?_
 intro w25 M
 refine sda A λa A↦?_
 refine qa (hK20 _ _ (wsk fun K26 hK26 => wrl (sdm A λa A↦?_)))
 refine sdo (v := .bool true) A (qi rfl rfl (fun w => by kernel_rfl)) λa A↦?_
 iterate 2 refine sdm A λa A↦?_
 refine sdo (v := .bool true) A (qi rfl rfl (fun w => by kernel_rfl)) λa A↦?_
 refine sdk (v := .bool true) A λa A↦?_
 iterate 2 refine sdm A λa A↦?_
 refine sdo (v := .bool true) A (qi rfl rfl (fun w => by kernel_rfl)) λa A↦?_
 refine sdk (v := .bool true) A λa A↦?_
 refine sdm A λa A↦?_
 refine sdo (v := .pointer (some ⟨g23, 1, none⟩)) A (qb RcG_fld_42_1 rfl rfl) λa A↦?_
 refine sdo A (qh M RcG_is1_3 rfl 0 rfl rfl) λa A↦?_
 refine sdo (v := .bool true) A (qi rfl rfl (fun w => (qt w).trans (by rw [show ((d2.d.n == 1)) = true from (by rw [hn2]; rfl)]))) λa A↦?_
 refine sdk (v := .bool true) A λa A↦?_
 refine sda A λa A↦?_
 refine qa (hK26 _ _ (wp_ret (hret _ _ (en1 A rfl (qf rfl) ?_))))
 exact ⟨rfl, M.bel⟩
end Go.Proofs.YtokgmpjblnpjmaaGreatDoor.G
namespace Go.Proofs.YtokgmpjblnpjmaaGreatDoor.G.E
open Go.RowKit Go.Lib Go.Sort
set_option linter.unusedVariables false
set_option linter.unusedSimpArgs false
set_option maxRecDepth 100000
theorem EnE_is1_9 : Is1 Tryz.prog 9 := ⟨⟨_, Tryz.underlying9, rfl⟩, by kernel_rfl⟩
theorem yy {w : World} {so : Option Addr} {ca : Nat} {l : List ByteArray} (hR : Rs w so l) (hl : l.length ≤ 8796093021952) {s : ByteArray} : Calls Tryz.prog 55 #[.slice so l.length ca, .string s] w fun e w' => e = .returned (.int .i64 (idxOfS l s)) ∧ Below w.heap.size w w' := by
 have M : Mg w w ([]) := Mg.start w
 refine qx (l := [(0, .slice so l.length ca), (1, .string s)]) Tryz.func55 rfl Tryz.ntmps55 rfl rfl ?_
 intro Q hret hnorm hP a A
 refine wsk fun K1 hK1 => wrl (sda A λa A↦?_)
 refine qa (hK1 _ _ (wsk fun K2 hK2 => wsk fun K3 hK3 => wrl (sda A λa A↦?_)))
 refine qa (hK3 _ _ (wp_block (zt (fun m_ a w1 => ∃ (i : Nat), m_ = 1 + (l.length - i) ∧ (i ≤ l.length ∧ ∀ (j : Nat) u, j < i → l[j]? = some u → u ≠ s) ∧ Sl a 19 [(0, .slice so l.length ca), (1, .string s), (5, .int .i64 (((i : Nat) : Int)))] ∧ Mg w w1 ([])) _ ⟨0, rfl, ⟨Nat.zero_le _, fun j u h => absurd h (Nat.not_lt_zero _)⟩, A.keep _ ⟨rfl, rfl, rfl, trivial⟩, M⟩ ?_)))
 clear M A
 rintro m_ a w4 ⟨i, rfl, hinv6, A, M⟩ K5 hK5
 obtain ⟨hi0, hin9⟩ := hinv6
 refine wsk fun K7 hK7 => wsk fun K8 hK8 => wrl ?_
 iterate 2 refine sdm A λa A↦?_
 refine sdo A (qp Tryz.underlying30 rfl) λa A↦?_
 rcases tf (decide (((i : Nat) : Int) < ((l.length : Nat) : Int))) with hb9 | hb9
 ·
  have hb9' := of_decide_eq_true hb9
  refine sdc A za hb9 λa A↦?_
  refine qa (hK8 _ _ (wp_cond_true (A.ev rfl) ?_))
  refine wp_skip (hK7 _ _ (wsk fun K10 hK10 => wp_block (wsk fun K11 hK11 => wrl ?_)))
  iterate 2 refine sdm A λa A↦?_
  obtain ⟨bx12, ox13, sx14, hs15, hc16, hi17⟩ := hR.at_ (i := i) (by omega)
  refine sdo (v := .pointer (some ⟨bx12, ox13 + i, none⟩)) A (zp (k := i) Tryz.underlying30 (by kernel_rfl) rfl rfl (by first | rfl | omega) hs15 (by omega)) λa A↦?_
  refine sdo A (m_loadX M hc16 EnE_is1_9 rfl) λa A↦?_
  refine sdm A λa A↦?_
  rcases tf (decide (sx14 = s)) with hb18 | hb18
  ·
   have hb18' := of_decide_eq_true hb18
   refine sdo (v := .bool true) A (qi rfl rfl (fun w => (xk Tryz.underlying9 w).trans (by rw [hb18]))) λa A↦?_
   refine qa (hK11 _ _ (wp_cond_true (A.ev rfl) ?_))
   refine wsk fun K19 hK19 => wrl (sdm A λa A↦?_)
   refine sda A λa A↦?_
   refine qa (hK19 _ _ (wp_ret (hret _ _ (en1 A rfl (qf rfl) ?_))))
   exact ⟨by rw [qhe (s := s) (by rw [hi17, hb18']) hin9], M.bel⟩
  ·
   have hb18' := of_decide_eq_false hb18
   refine sdo (v := .bool false) A (qi rfl rfl (fun w => (xk Tryz.underlying9 w).trans (by rw [hb18]))) λa A↦?_
   refine qa (hK11 _ _ (wp_cond_false (A.ev rfl) ?_))
   refine wp_skip (hK10 _ _ (wrl (sdm A λa A↦?_)))
   refine sdo (v := .int .i64 (((i + 1 : Nat) : Int))) A (qi rfl rfl (ar_add ((in_i64 (by omega) (by omega)).trans (by omega)))) λa A↦?_
   refine sda A λa A↦?_
   refine qa ?_
   refine hK5 _ _ _ (by omega) ⟨i + 1, rfl, ⟨by omega, fun j u hj hu => if h9 : j < i then hin9 j u h9 hu else by have h8 : j = i := (by omega); subst h8; rw [hi17] at hu; rw [← Option.some.inj hu]; exact hb18'⟩, A.keep _ ⟨rfl, rfl, rfl, trivial⟩, M⟩
 ·
  have hb9' := of_decide_eq_false hb9
  refine sdc A za hb9 λa A↦?_
  refine qa (hK8 _ _ (wp_cond_false (A.ev rfl) ?_))
  refine wp_exit (hK2 _ _ (wsk fun K20 hK20 => wrl (sda A λa A↦?_)))
  refine qa (hK20 _ _ (wp_ret (hret _ _ (en1 A rfl (qf rfl) ?_))))
  exact ⟨by rw [qdh (fun j u hj => hin9 j u (by omega))], M.bel⟩
theorem rtwice_any {w : World} {so : Option Addr} {ca : Nat} {l : List ByteArray} (hR : Rs w so l) (hl : l.length ≤ 8796093021952) : Calls Tryz.prog 30 #[.slice so l.length ca] w fun e w' => e = .returned (.bool (twS l)) ∧ Below w.heap.size w w' := by
 have M : Mg w w ([]) := Mg.start w
 refine qx (l := [(0, .slice so l.length ca)]) Tryz.func30 rfl Tryz.ntmps30 rfl rfl ?_
 intro Q hret hnorm hP a A
 refine wsk fun K1 hK1 => wrl (sda A λa A↦?_)
 refine qa (hK1 _ _ (wsk fun K2 hK2 => wsk fun K3 hK3 => wrl (sda A λa A↦?_)))
 refine qa (hK3 _ _ (wp_block (zt (fun m_ a w1 => ∃ (i : Nat), m_ = 1 + (l.length - i) ∧ (i ≤ l.length ∧ ∀ (j : Nat) u, j < i → l[j]? = some u → ((j : Nat) : Int) ≤ idxOfS l u) ∧ Sl a 18 [(0, .slice so l.length ca), (3, .int .i64 (((i : Nat) : Int)))] ∧ Mg w w1 ([])) _ ⟨0, rfl, ⟨Nat.zero_le _, fun j u h => absurd h (Nat.not_lt_zero _)⟩, A.keep _ ⟨rfl, rfl, trivial⟩, M⟩ ?_)))
 clear M A
 rintro m_ a w4 ⟨i, rfl, hinv6, A, M⟩ K5 hK5
 obtain ⟨hi0, hin9⟩ := hinv6
 refine wsk fun K7 hK7 => wsk fun K8 hK8 => wrl ?_
 iterate 2 refine sdm A λa A↦?_
 refine sdo A (qp Tryz.underlying30 rfl) λa A↦?_
 rcases tf (decide (((i : Nat) : Int) < ((l.length : Nat) : Int))) with hb9 | hb9
 ·
  have hb9' := of_decide_eq_true hb9
  refine sdc A za hb9 λa A↦?_
  refine qa (hK8 _ _ (wp_cond_true (A.ev rfl) ?_))
  refine wp_skip (hK7 _ _ (wsk fun K10 hK10 => wp_block (wsk fun K11 hK11 => wrl ?_)))
  iterate 3 refine sdm A λa A↦?_
  obtain ⟨bx12, ox13, sx14, hs15, hc16, hi17⟩ := hR.at_ (i := i) (by omega)
  refine sdo (v := .pointer (some ⟨bx12, ox13 + i, none⟩)) A (zp (k := i) Tryz.underlying30 (by kernel_rfl) rfl rfl (by first | rfl | omega) hs15 (by omega)) λa A↦?_
  refine sdo A (m_loadX M hc16 EnE_is1_9 rfl) λa A↦?_
  refine gcl A M (ef rfl rfl) (yy (hR.below M.bel) hl) fun w19 hb18 M a A => ?_
  refine sdm A λa A↦?_
  rcases tf (decide (idxOfS l sx14 < ((i : Nat) : Int))) with hb20 | hb20
  ·
   have hb20' := of_decide_eq_true hb20
   refine sdc A za hb20 λa A↦?_
   refine qa (hK11 _ _ (wp_cond_true (A.ev rfl) ?_))
   refine wsk fun K21 hK21 => wrl (sda A λa A↦?_)
   refine qa (hK21 _ _ (wp_ret (hret _ _ (en1 A rfl (qf rfl) ?_))))
   refine ⟨?_, M.bel⟩
   rw [zrd hi17 hb20']
  ·
   have hb20' := of_decide_eq_false hb20
   refine sdc A za hb20 λa A↦?_
   refine qa (hK11 _ _ (wp_cond_false (A.ev rfl) ?_))
   refine wp_skip (hK10 _ _ (wrl (sdm A λa A↦?_)))
   refine sdo (v := .int .i64 (((i + 1 : Nat) : Int))) A (qi rfl rfl (ar_add ((in_i64 (by omega) (by omega)).trans (by omega)))) λa A↦?_
   refine sda A λa A↦?_
   refine qa ?_
   refine hK5 _ _ _ (by omega) ⟨i + 1, rfl, ⟨by omega, fun j u hj hu => if h9 : j < i then hin9 j u h9 hu else by have h8 : j = i := (by omega); subst h8; rw [hi17] at hu; rw [← Option.some.inj hu]; omega⟩, A.keep _ ⟨rfl, rfl, trivial⟩, M⟩
 ·
  have hb9' := of_decide_eq_false hb9
  refine sdc A za hb9 λa A↦?_
  refine qa (hK8 _ _ (wp_cond_false (A.ev rfl) ?_))
  refine wp_exit (hK2 _ _ (wsk fun K22 hK22 => wrl (sda A λa A↦?_)))
  refine qa (hK22 _ _ (wp_ret (hret _ _ (en1 A rfl (qf rfl) ?_))))
  refine ⟨?_, M.bel⟩
  rw [znd (fun j u hj => hin9 j u (by have := (List.getElem?_eq_some_iff.1 hj).1; omega) hj)]
theorem zfh {w : World} {so : Option Addr} {ca : Nat} {l : List ByteArray} (hR : Rs w so l) (hl : l.length ≤ 8796093021952) {so2 : Option Addr} {ca2 : Nat} {l2 : List ByteArray} (hR2 : Rs w so2 l2) (hl2 : l2.length ≤ 8796093021952) : Calls Tryz.prog 47 #[.slice so l.length ca, .slice so2 l2.length ca2] w fun e w' => e = .returned (.bool (decide (l = l2))) ∧ Below w.heap.size w w' := by
 have M : Mg w w ([]) := Mg.start w
 refine qx (l := [(0, .slice so l.length ca), (1, .slice so2 l2.length ca2)]) Tryz.func47 rfl Tryz.ntmps47 rfl rfl ?_
 intro Q hret hnorm hP a A
 refine wsk fun K1 hK1 => wrl (sda A λa A↦?_)
 refine qa (hK1 _ _ (wsk fun K2 hK2 => wsk fun K3 hK3 => wrl (sdm A λa A↦?_)))
 refine sdo A (qp Tryz.underlying30 rfl) λa A↦?_
 refine sdm A λa A↦?_
 refine sdo A (qp Tryz.underlying30 rfl) λa A↦?_
 rcases tf ((((l.length : Nat) : Int) != ((l2.length : Nat) : Int))) with hb4 | hb4
 ·
  have hb4' := bne_iff_ne.1 hb4
  refine sdc A zi hb4 λa A↦?_
  refine qa (hK3 _ _ (wp_cond_true (A.ev rfl) ?_))
  refine wsk fun K5 hK5 => wrl (sda A λa A↦?_)
  refine qa (hK5 _ _ (wp_ret (hret _ _ (en1 A rfl (qf rfl) ?_))))
  refine ⟨?_, M.bel⟩
  rw [decide_eq_false (fun e9 => by rw [e9] at hb4'; exact hb4' rfl)]
 ·
  have hb4' := bne_eq_false_iff_eq.1 hb4
  refine sdc A zi hb4 λa A↦?_
  refine qa (hK3 _ _ (wp_cond_false (A.ev rfl) ?_))
  refine wp_skip (hK2 _ _ (wsk fun K6 hK6 => wsk fun K7 hK7 => wrl (sda A λa A↦?_)))
  refine qa (hK7 _ _ (wp_block (zt (fun m_ a w1 => ∃ (i : Nat), m_ = 1 + (l.length - i) ∧ (i ≤ l.length ∧ ∀ j : Nat, j < i → l[j]? = l2[j]?) ∧ Sl a 26 [(0, .slice so l.length ca), (1, .slice so2 l2.length ca2), (5, .int .i64 (((i : Nat) : Int))), (6, .slice so l.length ca), (7, .int .i64 (((l.length : Nat) : Int))), (8, .slice so2 l2.length ca2), (9, .int .i64 (((l2.length : Nat) : Int))), (10, .bool false)] ∧ Mg w w1 ([])) _ ⟨0, rfl, ⟨Nat.zero_le _, fun j h => absurd h (Nat.not_lt_zero _)⟩, A.keep _ (by repeat' constructor), M⟩ ?_)))
  clear M A
  rintro m_ a w8 ⟨i, rfl, hinv10, A, M⟩ K9 hK9
  obtain ⟨hi0, hin9⟩ := hinv10
  refine wsk fun K11 hK11 => wsk fun K12 hK12 => wrl ?_
  iterate 2 refine sdm A λa A↦?_
  refine sdo A (qp Tryz.underlying30 rfl) λa A↦?_
  refine sdo (v := .bool (decide (((i : Nat) : Int) < ((l.length : Nat) : Int)))) A (qi rfl rfl za) λa A↦?_
  refine qa (hK12 _ _ ?_)
  refine wp_cond_split (t := decide (((i : Nat) : Int) < ((l.length : Nat) : Int))) (A.ev rfl) (fun hc13 => ?_) (fun hc13 => ?_)
  ·
   have hc13' := of_decide_eq_true hc13
   refine wp_skip (hK11 _ _ (wsk fun K14 hK14 => wp_block (wsk fun K15 hK15 => zn (S := fun w1 => Mg w w1 ([])) (by kernel_rfl) ?_)))
   replace M := M.drew
   refine qe A 0 rfl rfl rfl rfl hP (M.sub (List.nil_sublist _)) (fun w1 M => qr rfl) λa A↦?_
   refine qe A 1 rfl rfl rfl rfl hP (M.sub (List.nil_sublist _)) (fun w1 M => qr rfl) λa A↦?_
   obtain ⟨bx16, ox17, sx18, hs19, hc20, hi21⟩ := hR.at_ (i := i) (by omega)
   refine qe (v := .pointer (some ⟨bx16, ox17 + i, none⟩)) A 2 rfl rfl rfl rfl hP (M.sub (List.nil_sublist _)) (fun w1 M => zp (k := i) Tryz.underlying30 (by kernel_rfl) rfl rfl (by first | rfl | omega) hs19 (by omega)) λa A↦?_
   refine qe A 3 rfl rfl rfl rfl hP (M.sub (List.nil_sublist _)) (fun w1 M => m_loadX M hc20 EnE_is1_9 rfl) λa A↦?_
   refine qe A 4 rfl rfl rfl rfl hP (M.sub (List.nil_sublist _)) (fun w1 M => qr rfl) λa A↦?_
   refine qe A 5 rfl rfl rfl rfl hP (M.sub (List.nil_sublist _)) (fun w1 M => qr rfl) λa A↦?_
   obtain ⟨bx22, ox23, sx24, hs25, hc26, hi27⟩ := hR2.at_ (i := i) (by omega)
   refine qe (v := .pointer (some ⟨bx22, ox23 + i, none⟩)) A 6 rfl rfl rfl rfl hP (M.sub (List.nil_sublist _)) (fun w1 M => zp (k := i) Tryz.underlying30 (by kernel_rfl) rfl rfl (by first | rfl | omega) hs25 (by omega)) λa A↦?_
   refine qe A 7 rfl rfl rfl rfl hP (M.sub (List.nil_sublist _)) (fun w1 M => m_loadX M hc26 EnE_is1_9 rfl) λa A↦?_
   rcases tf (decide (sx18 = sx24)) with hb28 | hb28
   ·
    have hb28' := of_decide_eq_true hb28
    refine qe (v := .bool false) A 8 rfl rfl rfl rfl hP (M.sub (List.nil_sublist _)) (fun w1 M => qi rfl rfl (fun w => (xd Tryz.underlying9 w).trans (by rw [hb28]; rfl))) λa A↦?_
    refine zd (by kernel_rfl) ?_
    refine hK15 _ _ (wp_cond_false (A.ev rfl) ?_)
    refine wp_skip (hK14 _ _ (wrl (sdm A λa A↦?_)))
    refine sdo (v := .int .i64 (((i + 1 : Nat) : Int))) A (qi rfl rfl (ar_add ((in_i64 (by omega) (by omega)).trans (by omega)))) λa A↦?_
    refine sda A λa A↦?_
    refine qa ?_
    refine hK9 _ _ _ (by omega) ⟨i + 1, rfl, ⟨by omega, fun j hj => if h9 : j < i then hin9 j h9 else by have h8 : j = i := (by omega); subst h8; rw [hi21, hi27, hb28']⟩, A.keep _ (by repeat' constructor), M⟩
   ·
    have hb28' := of_decide_eq_false hb28
    refine qe (v := .bool true) A 8 rfl rfl rfl rfl hP (M.sub (List.nil_sublist _)) (fun w1 M => qi rfl rfl (fun w => (xd Tryz.underlying9 w).trans (by rw [hb28]; rfl))) λa A↦?_
    refine zd (by kernel_rfl) ?_
    refine hK15 _ _ (wp_cond_true (A.ev rfl) ?_)
    refine wsk fun K29 hK29 => wrl (sda A λa A↦?_)
    refine qa (hK29 _ _ (wp_ret (hret _ _ (en1 A rfl (qf rfl) ?_))))
    refine ⟨?_, M.bel⟩
    rw [decide_eq_false (fun e9 => hb28' (by rw [e9, hi27] at hi21; exact (Option.some.inj hi21).symm))]
  ·
   have hc13' := of_decide_eq_false hc13
   refine wp_exit (hK6 _ _ (wsk fun K30 hK30 => wrl (sda A λa A↦?_)))
   refine qa (hK30 _ _ (wp_ret (hret _ _ (en1 A rfl (qf rfl) ?_))))
   refine ⟨?_, M.bel⟩
   rw [decide_eq_true (List.ext_getElem? fun j => if h9 : j < i then hin9 j h9 else by rw [List.getElem?_eq_none (by omega), List.getElem?_eq_none (by omega)])]
theorem sameT_as {w : World} {so : Option Addr} {ca : Nat} {l : List ByteArray} (hR : Rs w so l) (hl : l.length ≤ 8796093021952) {so2 : Option Addr} {ca2 : Nat} {l2 : List ByteArray} (hR2 : Rs w so2 l2) (hl2 : l2.length ≤ 8796093021952) {b : Bool} (h : decide (l = l2) = b) : Calls Tryz.prog 47 #[.slice so l.length ca, .slice so2 l2.length ca2] w fun e w' => e = .returned (.bool b) ∧ Below w.heap.size w w' := h ▸ zfh hR hl hR2 hl2
end Go.Proofs.YtokgmpjblnpjmaaGreatDoor.G.E
namespace Go.Proofs.YtokgmpjblnpjmaaGreatDoor.G
open Go.RowKit
set_option linter.unusedVariables false
set_option linter.unusedSimpArgs false
set_option maxRecDepth 100000


end Go.Proofs.YtokgmpjblnpjmaaGreatDoor.G
namespace Go.Proofs.YtokgmpjblnpjmaaGreatDoor
open Go.RowKit
set_option linter.unusedVariables false
set_option linter.unusedSimpArgs false
set_option maxRecDepth 100000
theorem EqO_fld_39_0 : FieldAt Tryz.prog 39 0 0 := ⟨_, _, Tryz.underlying39, rfl, rfl, by kernel_rfl⟩
theorem EqO_fld_39_1 : FieldAt Tryz.prog 39 1 3 := ⟨_, _, Tryz.underlying39, rfl, rfl, by kernel_rfl⟩
theorem EqO_isS_37 : IsS Tryz.prog 37 3 := ⟨⟨_, Tryz.underlying37⟩, by kernel_rfl⟩
theorem qzg {w : World} {p q : Q6} {a1 a2 a3 a4 : Option Addr} {ac1 ac2 ac3 ac4 : Nat} (ha : Nm w p a1 ac1 a2 ac2 a3 ac3 a4 ac4) (hl : LenQ p) {u1 u2 u3 u4 : Option Addr} {uc1 uc2 uc3 uc4 : Nat} (hu : Nm w q u1 uc1 u2 uc2 u3 uc3 u4 uc4) (hm : LenQ q) {r : Bool} (hr : (vu p.b1 p.t1 p.q1 q.b1 q.t1 q.q1 && vu p.b2 p.t2 p.q2 q.b2 q.t2 q.q2) = r) : Calls Tryz.prog 40 #[zhf p a1 ac1 a2 ac2 a3 ac3 a4 ac4, zhf q u1 uc1 u2 uc2 u3 uc3 u4 uc4] w fun e w' => e = .returned (.bool r) ∧ Below w.heap.size w w' := by
 have S : St w w [] [(u4, q.q2), (u3, q.t2), (u2, q.q1), (u1, q.t1), (a4, p.q2), (a3, p.t2), (a2, p.q1), (a1, p.t1)] [] := ((((((((St.start w).addR ha.s1.rd).addR ha.s2.rd).addR ha.s3.rd).addR ha.s4.rd).addR hu.s1.rd).addR hu.s2.rd).addR hu.s3.rd).addR hu.s4.rd
 refine qx (l := [(0, .agg #[.bool p.b1, .slice a1 p.t1.length ac1, .slice a2 p.q1.length ac2, .bool p.b2, .slice a3 p.t2.length ac3, .slice a4 p.q2.length ac4]), (1, .agg #[.bool q.b1, .slice u1 q.t1.length uc1, .slice u2 q.q1.length uc2, .bool q.b2, .slice u3 q.t2.length uc3, .slice u4 q.q2.length uc4])]) Tryz.func40 rfl Tryz.ntmps40 rfl rfl ?_
 intro Q hret hnorm hP a A
 refine wsk fun K1 hK1 => wrl (kr A S rfl rfl rfl pg (zh rfl rfl) rfl ?_)
 intro g2 w3 S a A
 refine kr A S rfl rfl rfl pg (zh rfl rfl) rfl ?_
 intro g4 w5 S a A
 refine sda A λa A↦?_
 refine qa (hK1 _ _ (wsk fun K6 hK6 => wrl (sdo (v := .pointer (some ⟨g2, 0, none⟩)) A (qb EqO_fld_39_0 rfl rfl) λa A↦?_)))
 refine sdo A (ke S EqO_isS_37 rfl 1 rfl (cs := [.bool p.b1, .slice a1 p.t1.length ac1, .slice a2 p.q1.length ac2]) rfl rfl) λa A↦?_
 refine sdo (v := .pointer (some ⟨g4, 0, none⟩)) A (qb EqO_fld_39_0 rfl rfl) λa A↦?_
 refine sdo A (ke S EqO_isS_37 rfl 0 rfl (cs := [.bool q.b1, .slice u1 q.t1.length uc1, .slice u2 q.q1.length uc2]) rfl rfl) λa A↦?_
 rcases tf (vu p.b1 p.t1 p.q1 q.b1 q.t1 q.q1) with hb7 | hb7
 ·
  refine sct A (ef rfl rfl) (yp ⟨(S.rd 7 rfl), ha.s1.nil, ha.s1.cap⟩ ⟨(S.rd 6 rfl), ha.s2.nil, ha.s2.cap⟩ ⟨(S.rd 3 rfl), hu.s1.nil, hu.s1.cap⟩ ⟨(S.rd 2 rfl), hu.s2.nil, hu.s2.cap⟩ hl.l1 hl.l2 hm.l1 hm.l2 hb7) ?_
  rintro _ w9 ⟨rfl, hb8⟩
  replace S := S.call hb8
  refine ⟨_, rfl, ?_⟩
  intro a A
  refine sdm A λa A↦?_
  refine sdo (v := .pointer (some ⟨g2, 3, none⟩)) A (qb EqO_fld_39_1 rfl rfl) λa A↦?_
  refine sdo A (ke S EqO_isS_37 rfl 1 rfl (cs := [.bool p.b2, .slice a3 p.t2.length ac3, .slice a4 p.q2.length ac4]) rfl rfl) λa A↦?_
  refine sdo (v := .pointer (some ⟨g4, 3, none⟩)) A (qb EqO_fld_39_1 rfl rfl) λa A↦?_
  refine sdo A (ke S EqO_isS_37 rfl 0 rfl (cs := [.bool q.b2, .slice u3 q.t2.length uc3, .slice u4 q.q2.length uc4]) rfl rfl) λa A↦?_
  rcases tf (vu p.b2 p.t2 p.q2 q.b2 q.t2 q.q2) with hb10 | hb10
  ·
   refine sct A (ef rfl rfl) (yp ⟨(S.rd 5 rfl), ha.s3.nil, ha.s3.cap⟩ ⟨(S.rd 4 rfl), ha.s4.nil, ha.s4.cap⟩ ⟨(S.rd 1 rfl), hu.s3.nil, hu.s3.cap⟩ ⟨(S.rd 0 rfl), hu.s4.nil, hu.s4.cap⟩ hl.l3 hl.l4 hm.l3 hm.l4 hb10) ?_
   rintro _ w12 ⟨rfl, hb11⟩
   replace S := S.call hb11
   refine ⟨_, rfl, ?_⟩
   intro a A
   refine sdk (v := .bool true) A λa A↦?_
   refine sda A λa A↦?_
   refine qa (hK6 _ _ (wp_ret (hret _ _ (en1 A rfl (qf rfl) ?_))))
   subst hr
   exact ⟨by rw [hb7, hb10]; try rfl, S.bel⟩
  ·
   refine sct A (ef rfl rfl) (yp ⟨(S.rd 5 rfl), ha.s3.nil, ha.s3.cap⟩ ⟨(S.rd 4 rfl), ha.s4.nil, ha.s4.cap⟩ ⟨(S.rd 1 rfl), hu.s3.nil, hu.s3.cap⟩ ⟨(S.rd 0 rfl), hu.s4.nil, hu.s4.cap⟩ hl.l3 hl.l4 hm.l3 hm.l4 hb10) ?_
   rintro _ w14 ⟨rfl, hb13⟩
   replace S := S.call hb13
   refine ⟨_, rfl, ?_⟩
   intro a A
   refine sdk (v := .bool false) A λa A↦?_
   refine sda A λa A↦?_
   refine qa (hK6 _ _ (wp_ret (hret _ _ (en1 A rfl (qf rfl) ?_))))
   subst hr
   exact ⟨by rw [hb7, hb10]; try rfl, S.bel⟩
 ·
  refine sct A (ef rfl rfl) (yp ⟨(S.rd 7 rfl), ha.s1.nil, ha.s1.cap⟩ ⟨(S.rd 6 rfl), ha.s2.nil, ha.s2.cap⟩ ⟨(S.rd 3 rfl), hu.s1.nil, hu.s1.cap⟩ ⟨(S.rd 2 rfl), hu.s2.nil, hu.s2.cap⟩ hl.l1 hl.l2 hm.l1 hm.l2 hb7) ?_
  rintro _ w16 ⟨rfl, hb15⟩
  replace S := S.call hb15
  refine ⟨_, rfl, ?_⟩
  intro a A
  refine sdm A λa A↦?_
  iterate 5 refine qk A rfl rfl rfl λa A↦?_
  refine sdk (v := .bool false) A λa A↦?_
  refine sda A λa A↦?_
  refine qa (hK6 _ _ (wp_ret (hret _ _ (en1 A rfl (qf rfl) ?_))))
  subst hr
  exact ⟨by rw [hb7]; try rfl, S.bel⟩

end Go.Proofs.YtokgmpjblnpjmaaGreatDoor
namespace Go.Proofs.YtokgmpjblnpjmaaGreatDoor.G
open Go.RowKit
set_option linter.unusedVariables false
set_option linter.unusedSimpArgs false
/-! ### The same trees, by the document -/
mutual
def yz : Tr → Tr → Bool
  | .mk k n q s rl ts, u => (decide (k = u.k) && (decide (n = u.n) && (decide (s = u.s) && (decide (rl = u.rl) && (vu q.b1 q.t1 q.q1 u.q.b1 u.q.t1 u.q.q1 && vu q.b2 q.t2 q.q2 u.q.b2 u.q.t2 u.q.q2))))) && (decide (ts.length = u.ts.length) && kq ts u.ts)
def kq : List Tr → List Tr → Bool
  | [], _ => true
  | _ :: _, [] => true
  | t :: ts, u :: us => yz t u && kq ts us
end
theorem zfi {b b' : Bool} {t q t' q' : List Nat} : vu b t q b' t' q' = true ↔ b = b' ∧ t = t' ∧ q = q' := by
  unfold vu
  simp
theorem zkc (k n : Int) (q : Q6) (s : ByteArray) (rl : List UInt8) (ts : List Tr) (k' n' : Int) (q' : Q6) (s' : ByteArray) (rl' : List UInt8) (ts' : List Tr) : yz (.mk k n q s rl ts) (.mk k' n' q' s' rl' ts') = true ↔ k = k' ∧ n = n' ∧ q = q' ∧ s = s' ∧ rl = rl' ∧ ts.length = ts'.length ∧ kq ts ts' = true := by
  rw [yz]
  show ((decide (k = k') && (decide (n = n') && (decide (s = s') && (decide (rl = rl') && (vu q.b1 q.t1 q.q1 q'.b1 q'.t1 q'.q1 && vu q.b2 q.t2 q.q2 q'.b2 q'.t2 q'.q2))))) && (decide (ts.length = ts'.length) && kq ts ts')) = true ↔ _
  simp only [Bool.and_eq_true, decide_eq_true_eq, zfi]
  constructor
  · rintro ⟨⟨a, b, c, d, ⟨e1, e2, e3⟩, f1, f2, f3⟩, g, h⟩
    refine ⟨a, b, ?_, c, d, g, h⟩
    cases q; cases q'
    simp_all
  · rintro ⟨a, b, c, d, e, f, g⟩
    subst c
    exact ⟨⟨a, b, d, e, ⟨rfl, rfl, rfl⟩, rfl, rfl, rfl⟩, f, g⟩
theorem qvh {ts : List Tr} (h : ∀ t ∈ ts, ∀ u, yz t u = true ↔ t = u) : ∀ us : List Tr, ts.length = us.length → (kq ts us = true ↔ ts = us) := by
  induction ts with
  | nil =>
    intro us hl
    cases us with
    | nil => simp [kq]
    | cons u us => simp at hl
  | cons t ts ih =>
    intro us hl
    cases us with
    | nil => simp at hl
    | cons u us =>
      rw [kq, Bool.and_eq_true, h t List.mem_cons_self u, ih (fun x hx => h x (List.mem_cons_of_mem _ hx)) us (by simpa using hl)]
      simp
theorem zkd : ∀ t u : Tr, yz t u = true ↔ t = u := by
  refine Tr.indT fun k n q s rl ts ih u => ?_
  obtain ⟨k', n', q', s', rl', ts'⟩ := u
  rw [zkc]
  constructor
  · rintro ⟨a, b, c, d, e, f, g⟩
    rw [a, b, c, d, e, (qvh ih ts' f).1 g]
  · intro h
    cases h
    exact ⟨rfl, rfl, rfl, rfl, rfl, rfl, (qvh ih ts rfl).2 rfl⟩
theorem qvi {ts us : List Dt} {i : Nat} {t u : Dt} (hi : ts[i]? = some t) (hj : us[i]? = some u) : kq ((ts.map Dt.tr).drop i) ((us.map Dt.tr).drop i) = (yz t.tr u.tr && kq ((ts.map Dt.tr).drop (i + 1)) ((us.map Dt.tr).drop (i + 1))) := by
  rw [yu hi, yu hj, kq]
theorem zfj {ts us : List Dt} {i : Nat} (h : ¬ i < ts.length) : kq ((ts.map Dt.tr).drop i) ((us.map Dt.tr).drop i) = true := by
  rw [qaf h, kq]
theorem qvj (p r : Dt) : yz p.tr r.tr = ((decide (p.d.k = r.d.k) && (decide (p.d.n = r.d.n) && (decide (p.d.s = r.d.s) && (decide (p.d.rl = r.d.rl) && (vu p.d.y.q.b1 p.d.y.q.t1 p.d.y.q.q1 r.d.y.q.b1 r.d.y.q.t1 r.d.y.q.q1 && vu p.d.y.q.b2 p.d.y.q.t2 p.d.y.q.q2 r.d.y.q.b2 r.d.y.q.t2 r.d.y.q.q2))))) && (decide (p.ts.length = r.ts.length) && kq (p.ts.map Dt.tr) (r.ts.map Dt.tr))) := by
  rw [Dt.tr_eta p, Dt.tr_eta r, yz, List.length_map]
  show _ = (_ && (decide (p.ts.length = r.ts.length) && _))
  rw [show (Tr.mk r.d.k r.d.n r.d.y.q r.d.s r.d.rl (r.ts.map Dt.tr)).ts.length = r.ts.length from List.length_map _]
  rfl
def SQ2 (p r : Dt) : Bool := vu p.d.y.q.b1 p.d.y.q.t1 p.d.y.q.q1 r.d.y.q.b1 r.d.y.q.t1 r.d.y.q.q1 && vu p.d.y.q.b2 p.d.y.q.t2 p.d.y.q.q2 r.d.y.q.b2 r.d.y.q.t2 r.d.y.q.q2
theorem un {p r : Dt} (h : p.d.k ≠ r.d.k ∨ p.d.n ≠ r.d.n ∨ p.d.s ≠ r.d.s ∨ p.d.rl ≠ r.d.rl ∨ p.ts.length ≠ r.ts.length ∨ SQ2 p r = false) : yz p.tr r.tr = false := by
  rw [qvj]
  unfold SQ2 at h
  rcases h with h | h | h | h | h | h <;> simp [h]
theorem zke {p r : Dt} (h1 : p.d.k = r.d.k) (h2 : p.d.n = r.d.n) (h3 : p.d.s = r.d.s) (h4 : p.d.rl = r.d.rl) (h5 : p.ts.length = r.ts.length) (h6 : SQ2 p r = true) : yz p.tr r.tr = kq (p.ts.map Dt.tr) (r.ts.map Dt.tr) := by
  rw [qvj]
  unfold SQ2 at h6
  rw [decide_eq_true h1, decide_eq_true h2, decide_eq_true h3, decide_eq_true h4, decide_eq_true h5, h6]
  simp
theorem zga {a b : List UInt8} (hl : a.length = b.length) (h : ∀ j, j < a.length → a.getD j 0 = b.getD j 0) : a = b := by
  apply List.ext_getElem hl
  intro j h1 h2
  have := h j h1
  rwa [show a.getD j 0 = a[j] from by simp [List.getD, List.getElem?_eq_getElem h1], show b.getD j 0 = b[j] from by simp [List.getD, List.getElem?_eq_getElem h2]] at this
theorem zuf {a b : List UInt8} {i : Nat} (h : (((a.getD i 0).toNat : Nat) : Int) ≠ (((b.getD i 0).toNat : Nat) : Int)) : a ≠ b := fun e => h (by rw [e])
theorem zug {a b : UInt8} (h : ((a.toNat : Nat) : Int) = ((b.toNat : Nat) : Int)) : a = b := UInt8.toNat_inj.1 (by omega)
set_option maxRecDepth 100000
theorem TrU_is1_21 : Is1 Tryz.prog 21 := ⟨⟨_, Tryz.underlying21, rfl⟩, by kernel_rfl⟩
theorem TrU_is1_5 : Is1 Tryz.prog 5 := ⟨⟨_, Tryz.underlying5, rfl⟩, by kernel_rfl⟩
open Go.Lib
theorem qgh {f p : Nat} {l : List UInt8} (hl : l ≠ []) : vh (f + 1) p l = ((p : Int), uR (decodeL l).1 (decodeL l).2) :: vh f (p + (decodeL l).2) (l.drop (decodeL l).2) := by
 conv => lhs; unfold vh
 rw [if_neg hl]
theorem qhi {w : World} {so : Option Addr} {l : List UInt8} {i : Nat} (h : Rb w so l) (hi : i < l.length) : ∃ b off, so = some ⟨b, off, none⟩ ∧ b < w.heap.size ∧ ∀ j, j < l.length → w.cell? ⟨b, off + j, none⟩ = some (.int .u8 (((l.getD j 0).toNat : Nat) : Int)) :=
 h.pos (fun k => by rw [k] at hi; exact absurd hi (Nat.not_lt_zero _))
/-- Units as the document keeps them: a character, whether there is none, its place. -/
def jx (us : List (Int × Int)) : List Value := us.flatMap fun u => if u.2 = -1 then [.int .i32 0, .bool true, .int .i64 u.1] else [.int .i32 u.2, .bool false, .int .i64 u.1]
theorem qse {x : Int} (i : Nat) (m : Int) (hm : m = ((2 ^ i - 1 : Nat) : Int)) (hs : m ≤ 255) (h0 : 0 ≤ x) (h1 : x ≤ 255) : bits .and .u8 x m = x % ((2 ^ i : Nat) : Int) := by
 obtain ⟨n, rfl⟩ : ∃ n : Nat, x = (n : Int) := ⟨x.toNat, by omega⟩
 subst hm
 have h2 : n &&& (2 ^ i - 1) = n % 2 ^ i := Nat.and_two_pow_sub_one_eq_mod n i
 have e : (BitVec.ofInt IntKind.u8.bits (n : Int) &&& BitVec.ofInt IntKind.u8.bits (((2 ^ i - 1 : Nat)) : Int)).toNat = n % 2 ^ i := by
  rw [← h2, BitVec.ofInt_natCast, BitVec.ofInt_natCast, BitVec.toNat_and, BitVec.toNat_ofNat, BitVec.toNat_ofNat]
  show n % 256 &&& (2 ^ i - 1) % 256 = _
  rw [Nat.mod_eq_of_lt (by omega), Nat.mod_eq_of_lt (by omega)]
 show IntKind.u8.wrap ((BitVec.ofInt IntKind.u8.bits (n : Int) &&& BitVec.ofInt IntKind.u8.bits (((2 ^ i - 1 : Nat)) : Int)).toNat : Int) = _
 rw [e]
 have := Nat.mod_le n (2 ^ i)
 exact (in_u8 (by omega) (by omega)).trans (Int.natCast_emod n (2 ^ i))
theorem zsf {c x : Int} (h0 : 0 ≤ c) (h1 : c ≤ 33554431) (h2 : 0 ≤ x) (h3 : x ≤ 63) : bits .or .i32 (c * 64) x = c * 64 + x := by
 obtain ⟨a, rfl⟩ : ∃ a : Nat, c = (a : Int) := ⟨c.toNat, by omega⟩
 obtain ⟨n, rfl⟩ : ∃ n : Nat, x = (n : Int) := ⟨x.toNat, by omega⟩
 have := Nat.two_pow_add_eq_or_of_lt (i := 6) (b := n) (by omega) a
 rw [show (2 : Nat) ^ 6 = 64 from rfl] at this
 have e := zqg (64 * a) n (by omega) (by omega)
 rw [show (((64 * a : Nat)) : Int) = (a : Int) * 64 from by omega] at e
 rw [e, ← this]
 omega
/-- The units from a place on. -/
def qgi (l : List UInt8) (i : Nat) : List (Int × Int) := vh (l.length - i) i (l.drop i)
theorem qzh (l : List UInt8) : qgi l 0 = jv l := by unfold qgi jv; rw [List.drop_zero, Nat.sub_zero]
theorem qzi {l : List UInt8} {i : Nat} (h : ¬ i < l.length) : qgi l i = [] := by unfold qgi; rw [show l.length - i = 0 from by omega]; rfl
theorem qlf {l : List UInt8} {i r q : Nat} (h : i < l.length) (e : decodeN (l.length - i) (l.getD i 0).toNat (l.getD (i + 1) 0).toNat (l.getD (i + 2) 0).toNat (l.getD (i + 3) 0).toNat = (r, q)) : qgi l i = ((i : Int), uR r q) :: qgi l (i + q) := by
 have hne : l.drop i ≠ [] := fun k => by
  have := congrArg List.length k
  rw [List.length_drop, List.length_nil] at this
  omega
 have hd : decodeL (l.drop i) = (r, q) := by
  rw [decodeL_N, ud, ud, ud, ud, List.length_drop]
  exact e
 have hw := yi _ hne
 rw [hd, List.length_drop] at hw
 simp only at hw
 unfold qgi
 obtain ⟨m, hm⟩ : ∃ m, l.length - i = m + 1 := ⟨l.length - i - 1, by omega⟩
 rw [hm, qgh hne, hd, List.drop_drop]
 simp only
 rw [qgd m (l.length - (i + q)) _ _ (by rw [List.length_drop]; omega) (by rw [List.length_drop]; omega)]
/-- What the first byte of a character says. -/
def LeadU (x n : Nat) (r : Int) : Prop := (x < 128 ∧ n = 1 ∧ r = x) ∨ (192 ≤ x ∧ x < 224 ∧ n = 2 ∧ r = x % 32) ∨ (224 ≤ x ∧ x < 240 ∧ n = 3 ∧ r = x % 16) ∨ (240 ≤ x ∧ x < 248 ∧ n = 4 ∧ r = x % 8) ∨ ((128 ≤ x ∧ x < 192 ∨ 248 ≤ x) ∧ n = 0 ∧ r = 0)
/-- The bytes behind it, so far. -/
def ContU (len i n : Nat) (b1 b2 b3 : Nat) (r : Int) (k : Nat) (rk : Int) (ok : Bool) : Prop := (ok = true ∧ 0 < n ∧ i + n ≤ len ∧ k ≤ n ∧ ((k = 1 ∧ rk = r) ∨ (k = 2 ∧ b1 / 64 = 2 ∧ rk = r * 64 + ((b1 % 64 : Nat) : Int)) ∨ (k = 3 ∧ b1 / 64 = 2 ∧ b2 / 64 = 2 ∧ rk = (r * 64 + ((b1 % 64 : Nat) : Int)) * 64 + ((b2 % 64 : Nat) : Int)) ∨ (k = 4 ∧ b1 / 64 = 2 ∧ b2 / 64 = 2 ∧ b3 / 64 = 2 ∧ rk = ((r * 64 + ((b1 % 64 : Nat) : Int)) * 64 + ((b2 % 64 : Nat) : Int)) * 64 + ((b3 % 64 : Nat) : Int)))) ∨
 (ok = false ∧ (¬ (0 < n ∧ i + n ≤ len) ∨ (1 < n ∧ b1 / 64 ≠ 2) ∨ (2 < n ∧ b2 / 64 ≠ 2) ∨ (3 < n ∧ b3 / 64 ≠ 2)))
def qcg (n : Nat) : Int := if n = 2 then 128 else if n = 3 then 2048 else 65536
theorem zkf {n : Nat} (h0 : 2 ≤ n) (h1 : n ≤ 4) : ([.int .i32 0, .int .i32 0, .int .i32 128, .int .i32 2048, .int .i32 65536] : List Value)[n * 1]? = some (.int .i32 (qcg n)) := by
 have h : n = 2 ∨ n = 3 ∨ n = 4 := by omega
 rcases h with rfl | rfl | rfl <;> rfl
theorem zsg {x n : Nat} {r : Int} (h : LeadU x n r) : n ≤ 4 ∧ 0 ≤ r ∧ r ≤ 127 ∧ (1 < n → r ≤ 31) := by unfold LeadU at h; omega
theorem qzj {len i n b1 b2 b3 : Nat} {r : Int} {ok : Bool} (h : ok = decide (0 < n ∧ i + n ≤ len)) : ContU len i n b1 b2 b3 r 1 r ok := by
 unfold ContU
 by_cases k : 0 < n ∧ i + n ≤ len
 ·
  exact .inl ⟨by rw [h, decide_eq_true k], k.1, k.2, by omega, .inl ⟨rfl, rfl⟩⟩
 ·
  exact .inr ⟨by rw [h, decide_eq_false k], .inl k⟩
theorem zgb {l : List UInt8} {i n k : Nat} {r rk : Int} (hn : n ≤ 4) (h : ContU l.length i n (l.getD (i + 1) 0).toNat (l.getD (i + 2) 0).toNat (l.getD (i + 3) 0).toNat r k rk true) (hk : k < n) : ContU l.length i n (l.getD (i + 1) 0).toNat (l.getD (i + 2) 0).toNat (l.getD (i + 3) 0).toNat r (k + 1) (rk * 64 + (((l.getD (i + k) 0).toNat : Nat) : Int) % 64) ((((l.getD (i + k) 0).toNat : Nat) : Int) / 64 == 2) := by
 rcases h with ⟨_, h1, h2, h3, h4⟩ | ⟨h, _⟩
 ·
  unfold ContU
  have e : k = 1 ∨ k = 2 ∨ k = 3 := by omega
  rcases e with rfl | rfl | rfl
  ·
   by_cases hb : (((l.getD (i + 1) 0).toNat : Nat) : Int) / 64 = 2
   ·
    exact .inl ⟨beq_iff_eq.2 hb, h1, h2, by omega, by omega⟩
   ·
    exact .inr ⟨beq_eq_false_iff_ne.2 hb, by omega⟩
  ·
   by_cases hb : (((l.getD (i + 2) 0).toNat : Nat) : Int) / 64 = 2
   ·
    exact .inl ⟨beq_iff_eq.2 hb, h1, h2, by omega, by omega⟩
   ·
    exact .inr ⟨beq_eq_false_iff_ne.2 hb, by omega⟩
  ·
   by_cases hb : (((l.getD (i + 3) 0).toNat : Nat) : Int) / 64 = 2
   ·
    exact .inl ⟨beq_iff_eq.2 hb, h1, h2, by omega, by omega⟩
   ·
    exact .inr ⟨beq_eq_false_iff_ne.2 hb, by omega⟩
 ·
  cases h
theorem kw {len i n b1 b2 b3 k : Nat} {r rk : Int} (h : ContU len i n b1 b2 b3 r k rk true) : 0 < n ∧ i + n ≤ len ∧ k ≤ n ∧ 1 ≤ k ∧ (0 ≤ r → r ≤ 31 → k ≤ 3 → 0 ≤ rk ∧ rk ≤ 200000) ∧ (0 ≤ r → r ≤ 31 → 0 ≤ rk ∧ rk ≤ 40000000) ∧ (k = 1 → rk = r) := by
 rcases h with ⟨_, h1, h2, h3, h4⟩ | ⟨h, _⟩
 ·
  omega
 ·
  cases h
def EndU (len i n : Nat) (b0 b1 b2 b3 : Nat) (rk : Int) (ok : Bool) : Prop := (ok = true ∧ decodeN (len - i) b0 b1 b2 b3 = (rk.toNat, n) ∧ uR rk.toNat n = rk ∧ 0 ≤ rk ∧ 1 ≤ n ∧ i + n ≤ len) ∨ (ok = false ∧ decodeN (len - i) b0 b1 b2 b3 = (65533, 1))
set_option maxHeartbeats 1000000 in
theorem zaa {len i n b0 b1 b2 b3 : Nat} {r rk : Int} (hi : i < len) (h0 : b0 < 256) (hL : LeadU b0 n r) (hC : ContU len i n b1 b2 b3 r n rk true) (h : n = 1 ∨ (qcg n ≤ rk ∧ rk ≤ 1114111 ∧ (rk < 55296 ∨ 57343 < rk))) : EndU len i n b0 b1 b2 b3 rk true := by
 rcases hC with ⟨_, h1, h2, h3, h4⟩ | ⟨h, _⟩
 ·
  unfold LeadU at hL
  unfold qcg at h
  have hn : n = 1 ∨ n = 2 ∨ n = 3 ∨ n = 4 := by omega
  refine .inl ⟨rfl, ?_, ?_, by rcases hn with rfl | rfl | rfl | rfl <;> omega, h1, h2⟩
  ·
   unfold decodeN
   rcases hn with rfl | rfl | rfl | rfl
   ·
    rw [if_pos (by omega)]
    exact Prod.ext (by show b0 = rk.toNat; omega) rfl
   ·
    simp only [if_true] at h
    rw [if_neg (by omega), if_pos (by omega), if_pos (by omega)]
    exact Prod.ext (by show (_ : Nat) = rk.toNat; omega) rfl
   ·
    rw [if_neg (show ¬ 3 = 2 by decide), if_pos rfl] at h
    rw [if_neg (by omega), if_neg (by omega), if_pos (by omega), if_pos (by omega)]
    exact Prod.ext (by show (_ : Nat) = rk.toNat; omega) rfl
   ·
    rw [if_neg (show ¬ 4 = 2 by decide), if_neg (show ¬ 4 = 3 by decide)] at h
    rw [if_neg (by omega), if_neg (by omega), if_neg (by omega), if_pos (by omega), if_pos (by omega)]
    exact Prod.ext (by show (_ : Nat) = rk.toNat; omega) rfl
  ·
   unfold uR
   rw [if_neg (by rcases hn with rfl | rfl | rfl | rfl <;> omega)]
   rcases hn with rfl | rfl | rfl | rfl <;> omega
 ·
  cases h
set_option maxHeartbeats 1000000 in
theorem qsf {len i n b0 b1 b2 b3 k : Nat} {r rk : Int} {ok : Bool} (hi : i < len) (h0 : b0 < 256) (hL : LeadU b0 n r) (hC : ContU len i n b1 b2 b3 r k rk ok) (hk : ok = true → k = n) (h : ok = false ∨ (n ≠ 1 ∧ ¬ (qcg n ≤ rk ∧ rk ≤ 1114111 ∧ (rk < 55296 ∨ 57343 < rk)))) : EndU len i n b0 b1 b2 b3 rk false := by
 refine .inr ⟨rfl, ?_⟩
 unfold LeadU at hL
 unfold decodeN
 rcases hC with ⟨hb, h1, h2, h3, h4⟩ | ⟨hb, h4⟩
 ·
  have hkn := hk hb
  subst hkn
  rcases h with h | ⟨h5, h6⟩
  ·
   rw [hb] at h; cases h
  ·
   have hn : k = 2 ∨ k = 3 ∨ k = 4 := by omega
   unfold qcg at h6
   rcases hn with rfl | rfl | rfl
   ·
    simp only [if_true] at h6
    rw [if_neg (by omega), if_pos (by omega), if_neg (by omega)]
   ·
    rw [if_neg (show ¬ 3 = 2 by decide), if_pos rfl] at h6
    rw [if_neg (by omega), if_neg (by omega), if_pos (by omega), if_neg (by omega)]
   ·
    rw [if_neg (show ¬ 4 = 2 by decide), if_neg (show ¬ 4 = 3 by decide)] at h6
    rw [if_neg (by omega), if_neg (by omega), if_neg (by omega), if_pos (by omega), if_neg (by omega)]
 ·
  rw [if_neg (by omega), if_neg (by omega), if_neg (by omega), if_neg (by omega)]
set_option maxHeartbeats 4000000 in
theorem zgc {w : World} {so : Option Addr} {cap : Nat} {l : List UInt8} (hb : Rb w so l) (hlen : l.length ≤ 4000000) : Calls Tryz.prog 101 #[.slice so l.length cap] w fun e w' => ∃ v, e = .returned v ∧ Mg w w' [.row 134 3 v (jv l).length (jx (jv l))] := by
 have M : Mg w w ([]) := Mg.start w
 refine qx (l := [(0, .slice so l.length cap)]) Tryz.func101 rfl Tryz.ntmps101 rfl rfl ?_
 intro Q hret hnorm hP a A
 refine wsk fun K1 hK1 => wrl (sda A λa A↦?_)
 refine qa (hK1 _ _ (wsk fun K2 hK2 => wrl (jw (e := 134) (sz := 3) (m := 0) (vs := []) A M rfl rfl rfl (qs rfl (by kernel_rfl)) rfl rfl (.inl (by decide)) ?_)))
 intro g3 w4 M a A
 refine sda A λa A↦?_
 refine qa (hK2 _ _ (wsk fun K5 hK5 => wsk fun K6 hK6 => wrl (sda A λa A↦?_)))
 refine qa (hK6 _ _ (wp_block (zt (fun m_ a w1 => ∃ (i : Nat) (acc : List (Int × Int)) (vo : Value), m_ = l.length - i ∧ (acc ++ qgi l i = jv l ∧ i ≤ l.length ∧ acc.length ≤ i) ∧ Sl a 122 [(0, .slice so l.length cap), (2, .slice none 0 0), (3, vo), (4, .int .i64 (((i : Nat) : Int))), (12, .slice (some ⟨g3, 0, none⟩) 0 0)] ∧ Mg w w1 (.row 134 3 (vo) acc.length ((jx acc)) :: [])) _ ⟨0, [], .slice (some ⟨g3, 0, none⟩) 0 0, rfl, ⟨by rw [qzh]; rfl, Nat.zero_le _, Nat.le_refl _⟩, A.keep _ ⟨rfl, rfl, rfl, rfl, rfl, trivial⟩, M⟩ ?_)))
 clear M A
 rintro m_ a w7 ⟨i, acc, vo, rfl, hinv9, A, M⟩ K8 hK8
 obtain ⟨hrun, hi9, hacc⟩ := hinv9
 refine wsk fun K10 hK10 => wsk fun K11 hK11 => wrl ?_
 iterate 2 refine sdm A λa A↦?_
 refine sdo A (qp Tryz.underlying40 rfl) λa A↦?_
 rcases tf (decide (((i : Nat) : Int) < ((l.length : Nat) : Int))) with hb12 | hb12
 ·
  have hb12' := of_decide_eq_true hb12
  refine sdc A za hb12 λa A↦?_
  refine qa (hK11 _ _ (wp_cond_true (A.ev rfl) ?_))
  refine wp_skip (hK10 _ _ (wp_block (wsk fun K13 hK13 => wrl ?_)))
  iterate 2 refine sda A λa A↦?_
  refine qa (hK13 _ _ (wsk fun K14 hK14 => ?_))
  have hi8 : i < l.length := by omega
  refine wrl ?_
  iterate 2 refine sdm A λa A↦?_
  obtain ⟨bx, ox, hx1, hx2, hx3⟩ := qhi (i := i) hb (by omega)
  have hu9 := (l.getD (i) 0).toNat_lt
  refine sdo (v := .pointer (some ⟨bx, ox + (i), none⟩)) A (zp (k := i) Tryz.underlying40 (by kernel_rfl) rfl rfl rfl hx1 (by omega)) λa A↦?_
  refine sdo (v := .int .u8 ((((l.getD i 0).toNat : Nat) : Int))) A (qhc M hx2 (hx3 (i) (by omega)) TrU_is1_5 rfl) λa A↦?_
  refine sda A λa A↦?_
  refine qa (hK14 _ _ (wsk fun K15 hK15 => ?_))
  have hJ16 : ∀ a w1, (∃ (n : Nat) (r : Int), (LeadU (l.getD i 0).toNat n r) ∧ Sl a 122 [(0, .slice so l.length cap), (2, .slice none 0 0), (3, vo), (4, .int .i64 (((i : Nat) : Int))), (5, .int .i64 (((n : Nat) : Int))), (6, .int .i32 r), (12, .slice (some ⟨g3, 0, none⟩) 0 0), (13, .int .i64 (((i : Nat) : Int))), (14, .slice so l.length cap), (15, .int .i64 (((l.length : Nat) : Int))), (16, .bool true), (17, .slice so l.length cap), (18, .int .i64 (((i : Nat) : Int))), (19, .pointer (some ⟨bx, ox + (i), none⟩)), (20, .int .u8 ((((l.getD i 0).toNat : Nat) : Int)))] ∧ Mg w w1 (.row 134 3 (vo) acc.length ((jx acc)) :: [])) → K15 a w1 := by
   clear A M
   rintro a w17 ⟨n, r, hf18, A, M⟩
   have hL := hf18
   have hn4 := zsg hL
   refine hK15 _ _ (wsk fun K19 hK19 => ?_)
   have hJ20 : ∀ a w1, (∃ (ok : Bool), (ok = decide (0 < n ∧ i + n ≤ l.length)) ∧ Sl a 122 [(0, .slice so l.length cap), (2, .slice none 0 0), (3, vo), (4, .int .i64 (((i : Nat) : Int))), (5, .int .i64 (((n : Nat) : Int))), (6, .int .i32 r), (8, .bool ok), (12, .slice (some ⟨g3, 0, none⟩) 0 0), (13, .int .i64 (((i : Nat) : Int))), (14, .slice so l.length cap), (15, .int .i64 (((l.length : Nat) : Int))), (16, .bool true), (17, .slice so l.length cap), (18, .int .i64 (((i : Nat) : Int))), (19, .pointer (some ⟨bx, ox + (i), none⟩)), (20, .int .u8 ((((l.getD i 0).toNat : Nat) : Int)))] ∧ Mg w w1 (.row 134 3 (vo) acc.length ((jx acc)) :: [])) → K19 a w1 := by
    clear A M
    rintro a w21 ⟨ok, hf22, A, M⟩
    have hok := hf22
    refine hK19 _ _ (wsk fun K23 hK23 => ?_)
    have hJ24 : ∀ a w1, (∃ (k : Nat) (rk : Int) (ok3 : Bool), (ContU l.length i n (l.getD (i + 1) 0).toNat (l.getD (i + 2) 0).toNat (l.getD (i + 3) 0).toNat r k rk ok3 ∧ (ok3 = true → k = n)) ∧ Sl a 122 [(0, .slice so l.length cap), (2, .slice none 0 0), (3, vo), (4, .int .i64 (((i : Nat) : Int))), (5, .int .i64 (((n : Nat) : Int))), (6, .int .i32 rk), (8, .bool ok3), (12, .slice (some ⟨g3, 0, none⟩) 0 0), (13, .int .i64 (((i : Nat) : Int))), (14, .slice so l.length cap), (15, .int .i64 (((l.length : Nat) : Int))), (16, .bool true), (17, .slice so l.length cap), (18, .int .i64 (((i : Nat) : Int))), (19, .pointer (some ⟨bx, ox + (i), none⟩)), (20, .int .u8 ((((l.getD i 0).toNat : Nat) : Int)))] ∧ Mg w w1 (.row 134 3 (vo) acc.length ((jx acc)) :: [])) → K23 a w1 := by
     clear A M
     rintro a w25 ⟨k, rk, ok3, hf26, A, M⟩
     obtain ⟨hC, hkn⟩ := hf26
     refine hK23 _ _ (wsk fun K27 hK27 => ?_)
     have hJ28 : ∀ a w1, (∃ (ok4 : Bool), (EndU l.length i n (l.getD i 0).toNat (l.getD (i + 1) 0).toNat (l.getD (i + 2) 0).toNat (l.getD (i + 3) 0).toNat rk ok4) ∧ Sl a 122 [(0, .slice so l.length cap), (2, .slice none 0 0), (3, vo), (4, .int .i64 (((i : Nat) : Int))), (5, .int .i64 (((n : Nat) : Int))), (6, .int .i32 rk), (8, .bool ok4), (12, .slice (some ⟨g3, 0, none⟩) 0 0), (13, .int .i64 (((i : Nat) : Int))), (14, .slice so l.length cap), (15, .int .i64 (((l.length : Nat) : Int))), (16, .bool true), (17, .slice so l.length cap), (18, .int .i64 (((i : Nat) : Int))), (19, .pointer (some ⟨bx, ox + (i), none⟩)), (20, .int .u8 ((((l.getD i 0).toNat : Nat) : Int)))] ∧ Mg w w1 (.row 134 3 (vo) acc.length ((jx acc)) :: [])) → K27 a w1 := by
      clear A M
      rintro a w29 ⟨ok4, hf30, A, M⟩
      have hE := hf30
      refine hK27 _ _ (wsk fun K31 hK31 => wrl (sdm A λa A↦?_))
      refine qa (hK31 _ _ ?_)
      refine wp_cond_split (t := ok4) (A.ev rfl) (fun hc32 => ?_) (fun hc32 => ?_)
      ·
       refine wsk fun K33 hK33 => wrl ?_
       iterate 3 refine sdm A λa A↦?_
       refine sdo (v := .agg #[.int .i32 rk, .bool false, .int .i64 (((i : Nat) : Int))]) A (jd rfl (fun w => by kernel_rfl)) λa A↦?_
       refine jw (e := 134) (sz := 3) (m := 1) (vs := [.int .i32 rk, .bool false, .int .i64 (((i : Nat) : Int))]) A M rfl rfl rfl (qs rfl (by kernel_rfl)) rfl rfl (.inl (by decide)) ?_
       intro g34 w35 M a A
       refine jh (e := 134) (sz := 3) (k := 1) (q := acc.length) (m := 1) (xs := (jx acc)) (news := [.int .i32 rk, .bool false, .int .i64 (((i : Nat) : Int))]) (L' := fun v36 => (.row 134 3 (.slice (some ⟨g34, 0, none⟩) 1 1) 1 ([.int .i32 rk, .bool false, .int .i64 (((i : Nat) : Int))]) :: .row 134 3 (v36) (acc.length + 1) ((jx acc) ++ [.int .i32 rk, .bool false, .int .i64 (((i : Nat) : Int))]) :: [])) A rfl rfl rfl (qnh (z := .agg #[.int .i32 0, .bool false, .int .i64 0]) (sz := 3) (by_ := 16) Tryz.underlying131 (by kernel_rfl) rfl rfl rfl M 1 rfl rfl 0 rfl rfl rfl rfl (by omega)) (fun _ => rfl) ?_
       intro v36 w37 M a A
       refine sda A λa A↦?_
       refine qa (hK33 _ _ (wrl ?_))
       iterate 2 refine sdm A λa A↦?_
       refine sdo (v := .int .i64 (((i + n : Nat) : Int))) A (qi rfl rfl (ar_add ((in_i64 (by omega) (by omega)).trans (by omega)))) λa A↦?_
       refine sda A λa A↦?_
       refine qa ?_
       obtain ⟨hd, hr9, hrk, hn1, hn2⟩ : decodeN (l.length - i) (l.getD i 0).toNat (l.getD (i + 1) 0).toNat (l.getD (i + 2) 0).toNat (l.getD (i + 3) 0).toNat = (rk.toNat, n) ∧ uR rk.toNat n = rk ∧ 0 ≤ rk ∧ 1 ≤ n ∧ i + n ≤ l.length := by
        rcases hE with ⟨_, h⟩ | ⟨h, _⟩
        ·
         exact h
        ·
         rw [hc32] at h; cases h
       have hs9 := qlf hi8 hd
       rw [hr9] at hs9
       replace M : Mg w w37 [.row 134 3 v36 (acc ++ [((i : Int), rk)]).length (jx (acc ++ [((i : Int), rk)]))] := by
        have h9 := M.sub (cn (cc (.refl _)))
        have e9 : jx (acc ++ [((i : Int), rk)]) = jx acc ++ [.int .i32 rk, .bool false, .int .i64 (((i : Nat) : Int))] := by
         unfold jx
         rw [List.flatMap_append, List.flatMap_singleton]
         rw [if_neg (show ¬ _ = (-1 : Int) by simp only; omega)]
        rw [e9, List.length_append]
        exact h9
       refine hK8 _ _ _ (by omega) ⟨i + n, acc ++ [((i : Int), rk)], v36, rfl, ⟨by rw [← hrun, hs9, List.append_assoc]; rfl, by omega, by rw [List.length_append]; simp only [List.length_cons, List.length_nil]; omega⟩, A.keep _ ⟨rfl, rfl, rfl, rfl, rfl, trivial⟩, M⟩
      ·
       refine wsk fun K38 hK38 => wrl ?_
       iterate 2 refine sdm A λa A↦?_
       refine sdo (v := .agg #[.int .i32 0, .bool true, .int .i64 (((i : Nat) : Int))]) A (jd rfl (fun w => by kernel_rfl)) λa A↦?_
       refine jw (e := 134) (sz := 3) (m := 1) (vs := [.int .i32 0, .bool true, .int .i64 (((i : Nat) : Int))]) A M rfl rfl rfl (qs rfl (by kernel_rfl)) rfl rfl (.inl (by decide)) ?_
       intro g39 w40 M a A
       refine jh (e := 134) (sz := 3) (k := 1) (q := acc.length) (m := 1) (xs := (jx acc)) (news := [.int .i32 0, .bool true, .int .i64 (((i : Nat) : Int))]) (L' := fun v41 => (.row 134 3 (.slice (some ⟨g39, 0, none⟩) 1 1) 1 ([.int .i32 0, .bool true, .int .i64 (((i : Nat) : Int))]) :: .row 134 3 (v41) (acc.length + 1) ((jx acc) ++ [.int .i32 0, .bool true, .int .i64 (((i : Nat) : Int))]) :: [])) A rfl rfl rfl (qnh (z := .agg #[.int .i32 0, .bool false, .int .i64 0]) (sz := 3) (by_ := 16) Tryz.underlying131 (by kernel_rfl) rfl rfl rfl M 1 rfl rfl 0 rfl rfl rfl rfl (by omega)) (fun _ => rfl) ?_
       intro v41 w42 M a A
       refine sda A λa A↦?_
       refine qa (hK38 _ _ (wrl (sdm A λa A↦?_)))
       refine sdo (v := .int .i64 (((i + 1 : Nat) : Int))) A (qi rfl rfl (ar_add ((in_i64 (by omega) (by omega)).trans (by omega)))) λa A↦?_
       refine sda A λa A↦?_
       refine qa ?_
       have hd : decodeN (l.length - i) (l.getD i 0).toNat (l.getD (i + 1) 0).toNat (l.getD (i + 2) 0).toNat (l.getD (i + 3) 0).toNat = (65533, 1) := by
        rcases hE with ⟨h, _⟩ | ⟨_, h⟩
        ·
         rw [hc32] at h; cases h
        ·
         exact h
       have hr9 : uR 65533 1 = -1 := by unfold uR; rw [if_pos ⟨rfl, by decide⟩]
       have hs9 := qlf hi8 hd
       rw [hr9] at hs9
       replace M : Mg w w42 [.row 134 3 v41 (acc ++ [((i : Int), (-1))]).length (jx (acc ++ [((i : Int), (-1))]))] := by
        have h9 := M.sub (cn (cc (.refl _)))
        have e9 : jx (acc ++ [((i : Int), (-1))]) = jx acc ++ [.int .i32 0, .bool true, .int .i64 (((i : Nat) : Int))] := by
         unfold jx
         rw [List.flatMap_append, List.flatMap_singleton]
         rw [if_pos rfl]
        rw [e9, List.length_append]
        exact h9
       refine hK8 _ _ _ (by omega) ⟨i + 1, acc ++ [((i : Int), (-1))], v41, rfl, ⟨by rw [← hrun, hs9, List.append_assoc]; rfl, by omega, by rw [List.length_append]; simp only [List.length_cons, List.length_nil]; omega⟩, A.keep _ ⟨rfl, rfl, rfl, rfl, rfl, trivial⟩, M⟩
     refine wsk fun K43 hK43 => wrl ?_
     iterate 2 refine sdm A λa A↦?_
     rcases ok3 with _ | _
     ·
      iterate 2 refine qk A rfl rfl rfl λa A↦?_
      refine sdk (v := .bool false) A λa A↦?_
      refine qa (hK43 _ _ (wp_cond_false (A.ev rfl) ?_))
      refine wp_skip ?_
      replace M : Mg w w25 (.row 134 3 (vo) acc.length ((jx acc)) :: []) := by
       have h9 := M.sub (cc (.refl _))
       exact h9
      exact hJ28 _ _ ⟨false, qsf hi8 ((l.getD i 0).toNat_lt) hL hC hkn (.inl rfl), A.keep _ (by repeat' constructor), M⟩
     ·
      refine sdm A λa A↦?_
      rcases tf (decide (1 < ((n : Nat) : Int))) with hb44 | hb44
      ·
       have hb44' := of_decide_eq_true hb44
       refine sdc A jj hb44 λa A↦?_
       refine sdk (v := .bool true) A λa A↦?_
       refine qa (hK43 _ _ (wp_cond_true (A.ev rfl) ?_))
       refine wsk fun K45 hK45 => wrl (jw (e := 21) (sz := 1) (m := 5) (vs := [.int .i32 0, .int .i32 0, .int .i32 128, .int .i32 2048, .int .i32 65536]) A M rfl rfl rfl (qs rfl (by kernel_rfl)) rfl rfl (.inl (by decide)) ?_)
       intro g46 w47 M a A
       refine sda A λa A↦?_
       refine qa (hK45 _ _ ?_)
       have hc9 := kw hC
       refine wrl ?_
       iterate 3 refine sdm A λa A↦?_
       refine sdo (v := .pointer (some ⟨g46, n * 1, none⟩)) A (xp (k := n) Tryz.underlying152 (by kernel_rfl) rfl rfl rfl (by omega)) λa A↦?_
       refine sdo (v := .int .i32 (qcg n)) A (qpe M 0 rfl (zkf (by omega) (by omega)) TrU_is1_21 rfl) λa A↦?_
       rcases tf (decide (qcg n ≤ rk)) with hb48 | hb48
       ·
        have hb48' := of_decide_eq_true hb48
        refine sdc A zk hb48 λa A↦?_
        iterate 2 refine sdm A λa A↦?_
        rcases tf (decide (rk ≤ 1114111)) with hb49 | hb49
        ·
         have hb49' := of_decide_eq_true hb49
         refine sdc A vp hb49 λa A↦?_
         refine sdk (v := .bool true) A λa A↦?_
         iterate 2 refine sdm A λa A↦?_
         rcases tf (decide (rk < 55296)) with hb50 | hb50
         ·
          have hb50' := of_decide_eq_true hb50
          refine sdc A za hb50 λa A↦?_
          refine sdm A λa A↦?_
          iterate 2 refine qk A rfl rfl rfl λa A↦?_
          iterate 2 refine sdk (v := .bool true) A λa A↦?_
          refine sda A λa A↦?_
          refine qa ?_
          replace M : Mg w w47 (.row 134 3 (vo) acc.length ((jx acc)) :: []) := by
           have h9 := M.sub (cn (cc (.refl _)))
           exact h9
          have hc8 := kw hC
          exact hJ28 _ _ ⟨true, zaa hi8 ((l.getD i 0).toNat_lt) hL (hkn rfl ▸ hC) (by omega), A.keep _ (by repeat' constructor), M⟩
         ·
          have hb50' := of_decide_eq_false hb50
          refine sdc A za hb50 λa A↦?_
          iterate 2 refine sdm A λa A↦?_
          rcases tf (decide (57343 < rk)) with hb51 | hb51
          ·
           have hb51' := of_decide_eq_true hb51
           refine sdc A jj hb51 λa A↦?_
           iterate 2 refine sdk (v := .bool true) A λa A↦?_
           refine sda A λa A↦?_
           refine qa ?_
           replace M : Mg w w47 (.row 134 3 (vo) acc.length ((jx acc)) :: []) := by
            have h9 := M.sub (cn (cc (.refl _)))
            exact h9
           have hc8 := kw hC
           exact hJ28 _ _ ⟨true, zaa hi8 ((l.getD i 0).toNat_lt) hL (hkn rfl ▸ hC) (by omega), A.keep _ (by repeat' constructor), M⟩
          ·
           have hb51' := of_decide_eq_false hb51
           refine sdc A jj hb51 λa A↦?_
           iterate 2 refine sdk (v := .bool false) A λa A↦?_
           refine sda A λa A↦?_
           refine qa ?_
           replace M : Mg w w47 (.row 134 3 (vo) acc.length ((jx acc)) :: []) := by
            have h9 := M.sub (cn (cc (.refl _)))
            exact h9
           have hc8 := kw hC
           exact hJ28 _ _ ⟨false, qsf hi8 ((l.getD i 0).toNat_lt) hL hC hkn (.inr ⟨by omega, by omega⟩), A.keep _ (by repeat' constructor), M⟩
        ·
         have hb49' := of_decide_eq_false hb49
         refine sdc A vp hb49 λa A↦?_
         refine sdk (v := .bool false) A λa A↦?_
         refine sdm A λa A↦?_
         iterate 3 refine qk A rfl rfl rfl λa A↦?_
         iterate 2 refine kg A rfl rfl rfl λa A↦?_
         refine qk A rfl rfl rfl λa A↦?_
         refine sdk (v := .bool false) A λa A↦?_
         refine sda A λa A↦?_
         refine qa ?_
         replace M : Mg w w47 (.row 134 3 (vo) acc.length ((jx acc)) :: []) := by
          have h9 := M.sub (cn (cc (.refl _)))
          exact h9
         have hc8 := kw hC
         exact hJ28 _ _ ⟨false, qsf hi8 ((l.getD i 0).toNat_lt) hL hC hkn (.inr ⟨by omega, by omega⟩), A.keep _ (by repeat' constructor), M⟩
       ·
        have hb48' := of_decide_eq_false hb48
        refine sdc A zk hb48 λa A↦?_
        refine sdm A λa A↦?_
        iterate 2 refine qk A rfl rfl rfl λa A↦?_
        refine sdk (v := .bool false) A λa A↦?_
        refine sdm A λa A↦?_
        iterate 3 refine qk A rfl rfl rfl λa A↦?_
        iterate 2 refine kg A rfl rfl rfl λa A↦?_
        refine qk A rfl rfl rfl λa A↦?_
        refine sdk (v := .bool false) A λa A↦?_
        refine sda A λa A↦?_
        refine qa ?_
        replace M : Mg w w47 (.row 134 3 (vo) acc.length ((jx acc)) :: []) := by
         have h9 := M.sub (cn (cc (.refl _)))
         exact h9
        have hc8 := kw hC
        exact hJ28 _ _ ⟨false, qsf hi8 ((l.getD i 0).toNat_lt) hL hC hkn (.inr ⟨by omega, by omega⟩), A.keep _ (by repeat' constructor), M⟩
      ·
       have hb44' := of_decide_eq_false hb44
       refine sdc A jj hb44 λa A↦?_
       refine sdk (v := .bool false) A λa A↦?_
       refine qa (hK43 _ _ (wp_cond_false (A.ev rfl) ?_))
       refine wp_skip ?_
       replace M : Mg w w25 (.row 134 3 (vo) acc.length ((jx acc)) :: []) := by
        have h9 := M.sub (cc (.refl _))
        exact h9
       have hc8 := kw hC
       exact hJ28 _ _ ⟨true, zaa hi8 ((l.getD i 0).toNat_lt) hL (hkn rfl ▸ hC) (by omega), A.keep _ (by repeat' constructor), M⟩
    refine wsk fun K52 hK52 => wrl (sda A λa A↦?_)
    refine qa (hK52 _ _ (wp_block (zt (fun m_ a w1 => ∃ (k : Nat) (rk : Int) (ok2 : Bool), m_ = 5 - k ∧ (ContU l.length i n (l.getD (i + 1) 0).toNat (l.getD (i + 2) 0).toNat (l.getD (i + 3) 0).toNat r k rk ok2) ∧ Sl a 122 [(0, .slice so l.length cap), (2, .slice none 0 0), (3, vo), (4, .int .i64 (((i : Nat) : Int))), (5, .int .i64 (((n : Nat) : Int))), (6, .int .i32 rk), (8, .bool ok2), (9, .int .i64 (((k : Nat) : Int))), (12, .slice (some ⟨g3, 0, none⟩) 0 0), (13, .int .i64 (((i : Nat) : Int))), (14, .slice so l.length cap), (15, .int .i64 (((l.length : Nat) : Int))), (16, .bool true), (17, .slice so l.length cap), (18, .int .i64 (((i : Nat) : Int))), (19, .pointer (some ⟨bx, ox + (i), none⟩)), (20, .int .u8 ((((l.getD i 0).toNat : Nat) : Int)))] ∧ Mg w w1 (.row 134 3 (vo) acc.length ((jx acc)) :: [])) _ ⟨1, r, ok, rfl, qzj hok, A.keep _ (by repeat' constructor), M⟩ ?_)))
    clear M A
    rintro m_ a w53 ⟨k, rk, ok2, rfl, hinv55, A, M⟩ K54 hK54
    have hC := hinv55
    refine wsk fun K56 hK56 => wsk fun K57 hK57 => wrl ?_
    iterate 2 refine sdm A λa A↦?_
    rcases ok2 with _ | _
    ·
     iterate 3 refine qk A rfl rfl rfl λa A↦?_
     refine sdk (v := .bool false) A λa A↦?_
     refine qa (hK57 _ _ (wp_cond_false (A.ev rfl) ?_))
     refine wp_exit ?_
     exact hJ24 _ _ ⟨k, rk, false, ⟨hC, fun h => by cases h⟩, A.keep _ (by repeat' constructor), M⟩
    ·
     iterate 2 refine sdm A λa A↦?_
     rcases tf (decide (((k : Nat) : Int) < ((n : Nat) : Int))) with hb58 | hb58
     ·
      have hb58' := of_decide_eq_true hb58
      refine sdc A za hb58 λa A↦?_
      refine sdk (v := .bool true) A λa A↦?_
      refine qa (hK57 _ _ (wp_cond_true (A.ev rfl) ?_))
      refine wp_skip (hK56 _ _ (wsk fun K59 hK59 => wp_block (wsk fun K60 hK60 => ?_)))
      have hc9 := kw hC
      refine wrl ?_
      iterate 3 refine sdm A λa A↦?_
      refine sdo (v := .int .i64 (((i + k : Nat) : Int))) A (qi rfl rfl (ar_add ((in_i64 (by omega) (by omega)).trans (by omega)))) λa A↦?_
      obtain ⟨bx, ox, hx1, hx2, hx3⟩ := qhi (i := i + k) hb (by omega)
      have hu9 := (l.getD (i + k) 0).toNat_lt
      refine sdo (v := .pointer (some ⟨bx, ox + (i + k), none⟩)) A (zp (k := i + k) Tryz.underlying40 (by kernel_rfl) rfl rfl rfl hx1 (by omega)) λa A↦?_
      refine sdo (v := .int .u8 ((((l.getD (i + k) 0).toNat : Nat) : Int))) A (qhc M hx2 (hx3 (i + k) (by omega)) TrU_is1_5 rfl) λa A↦?_
      refine sda A λa A↦?_
      refine qa (hK60 _ _ (wsk fun K61 hK61 => wrl (sdm A λa A↦?_)))
      refine sdo (v := .int .u8 (((((l.getD (i + k) 0).toNat : Nat) : Int)) / 64)) A (qi rfl rfl (ar_shr (n := 6) rfl rfl rfl)) λa A↦?_
      refine sdo (v := .bool ((((((l.getD (i + k) 0).toNat : Nat) : Int)) / 64 == 2))) A (qi rfl rfl qt) λa A↦?_
      refine sda A λa A↦?_
      refine qa (hK61 _ _ (wrl (sdm A λa A↦?_)))
      refine sdo (v := .int .i32 (rk * 64)) A (qi rfl rfl (ar_shl (n := 6) rfl rfl (in_i32 (by omega) (by omega)))) λa A↦?_
      refine sdm A λa A↦?_
      refine sdo (v := .int .u8 (((((l.getD (i + k) 0).toNat : Nat) : Int)) % 64)) A (qi rfl rfl (ar_and (qse 6 63 rfl (by decide) (by omega) (by omega)))) λa A↦?_
      refine sdo (v := .int .i32 (((((l.getD (i + k) 0).toNat : Nat) : Int)) % 64)) A (xq rfl (ar_conv Tryz.underlying5 Tryz.underlying21 (in_i32 (by omega) (by omega)))) λa A↦?_
      refine sdo (v := .int .i32 (rk * 64 + (((((l.getD (i + k) 0).toNat : Nat) : Int)) % 64))) A (qi rfl rfl (ar_or (zsf (by omega) (by omega) (by omega) (by omega)))) λa A↦?_
      refine sda A λa A↦?_
      refine qa (hK59 _ _ (wrl (sdm A λa A↦?_)))
      refine sdo (v := .int .i64 (((k + 1 : Nat) : Int))) A (qi rfl rfl (ar_add ((in_i64 (by omega) (by omega)).trans (by omega)))) λa A↦?_
      refine sda A λa A↦?_
      refine qa ?_
      refine hK54 _ _ _ (by omega) ⟨k + 1, rk * 64 + (((((l.getD (i + k) 0).toNat : Nat) : Int)) % 64), (((((l.getD (i + k) 0).toNat : Nat) : Int)) / 64 == 2), rfl, zgb (by omega) hC (by omega), A.keep _ (by repeat' constructor), M⟩
     ·
      have hb58' := of_decide_eq_false hb58
      refine sdc A za hb58 λa A↦?_
      refine sdk (v := .bool false) A λa A↦?_
      refine qa (hK57 _ _ (wp_cond_false (A.ev rfl) ?_))
      refine wp_exit ?_
      exact hJ24 _ _ ⟨k, rk, true, ⟨hC, fun _ => by have := kw hC; omega⟩, A.keep _ (by repeat' constructor), M⟩
   refine wrl (sdm A λa A↦?_)
   rcases tf (decide (0 < ((n : Nat) : Int))) with hb62 | hb62
   ·
    have hb62' := of_decide_eq_true hb62
    refine sdc A jj hb62 λa A↦?_
    iterate 3 refine sdm A λa A↦?_
    refine sdo (v := .int .i64 (((i + n : Nat) : Int))) A (qi rfl rfl (ar_add ((in_i64 (by omega) (by omega)).trans (by omega)))) λa A↦?_
    refine sdm A λa A↦?_
    refine sdo A (qp Tryz.underlying40 rfl) λa A↦?_
    rcases tf (decide (((i + n : Nat) : Int) ≤ ((l.length : Nat) : Int))) with hb63 | hb63
    ·
     have hb63' := of_decide_eq_true hb63
     refine sdc A vp hb63 λa A↦?_
     refine sdk (v := .bool true) A λa A↦?_
     refine sda A λa A↦?_
     refine qa ?_
     exact hJ20 _ _ ⟨true, (decide_eq_true (by omega)).symm, A.keep _ (by repeat' constructor), M⟩
    ·
     have hb63' := of_decide_eq_false hb63
     refine sdc A vp hb63 λa A↦?_
     refine sdk (v := .bool false) A λa A↦?_
     refine sda A λa A↦?_
     refine qa ?_
     exact hJ20 _ _ ⟨false, (decide_eq_false (by omega)).symm, A.keep _ (by repeat' constructor), M⟩
   ·
    have hb62' := of_decide_eq_false hb62
    refine sdc A jj hb62 λa A↦?_
    refine sdm A λa A↦?_
    iterate 6 refine qk A rfl rfl rfl λa A↦?_
    refine sdk (v := .bool false) A λa A↦?_
    refine sda A λa A↦?_
    refine qa ?_
    exact hJ20 _ _ ⟨false, (decide_eq_false (by omega)).symm, A.keep _ (by repeat' constructor), M⟩
  refine wp_block (wsk fun K64 hK64 => wrl (sdm A λa A↦?_))
  rcases tf (decide ((((l.getD i 0).toNat : Nat) : Int) < 128)) with hb65 | hb65
  ·
   have hb65' := of_decide_eq_true hb65
   refine sdc A za hb65 λa A↦?_
   refine sda A λa A↦?_
   refine qa (hK64 _ _ (wp_cond_true (A.ev rfl) ?_))
   refine wrl (sdm A λa A↦?_)
   refine sdo (v := .int .i32 ((((l.getD i 0).toNat : Nat) : Int))) A (xq rfl (ar_conv Tryz.underlying5 Tryz.underlying21 (in_i32 (by omega) (by omega)))) λa A↦?_
   iterate 2 refine sda A λa A↦?_
   refine qa ?_
   exact hJ16 _ _ ⟨1, (((l.getD i 0).toNat : Nat) : Int), (by unfold LeadU; omega), A.keep _ (by repeat' constructor), M⟩
  ·
   have hb65' := of_decide_eq_false hb65
   refine sdc A za hb65 λa A↦?_
   refine sda A λa A↦?_
   refine qa (hK64 _ _ (wp_cond_false (A.ev rfl) ?_))
   refine wsk fun K66 hK66 => wrl (sdm A λa A↦?_)
   refine sdo (v := .int .u8 (((((l.getD i 0).toNat : Nat) : Int)) / 32)) A (qi rfl rfl (ar_shr (n := 5) rfl rfl rfl)) λa A↦?_
   rcases tf ((((((l.getD i 0).toNat : Nat) : Int)) / 32 == 6)) with hb67 | hb67
   ·
    have hb67' := eq_of_beq hb67
    refine sdc A qt hb67 λa A↦?_
    refine sda A λa A↦?_
    refine qa (hK66 _ _ (wp_cond_true (A.ev rfl) ?_))
    refine wrl (sdm A λa A↦?_)
    refine sdo (v := .int .u8 (((((l.getD i 0).toNat : Nat) : Int)) % 32)) A (qi rfl rfl (ar_and (qse 5 31 rfl (by decide) (by omega) (by omega)))) λa A↦?_
    refine sdo (v := .int .i32 (((((l.getD i 0).toNat : Nat) : Int)) % 32)) A (xq rfl (ar_conv Tryz.underlying5 Tryz.underlying21 (in_i32 (by omega) (by omega)))) λa A↦?_
    iterate 2 refine sda A λa A↦?_
    refine qa ?_
    exact hJ16 _ _ ⟨2, ((((l.getD i 0).toNat : Nat) : Int)) % 32, (by unfold LeadU; omega), A.keep _ (by repeat' constructor), M⟩
   ·
    have hb67' := ne_of_beq_false hb67
    refine sdc A qt hb67 λa A↦?_
    refine sda A λa A↦?_
    refine qa (hK66 _ _ (wp_cond_false (A.ev rfl) ?_))
    refine wsk fun K68 hK68 => wrl (sdm A λa A↦?_)
    refine sdo (v := .int .u8 (((((l.getD i 0).toNat : Nat) : Int)) / 16)) A (qi rfl rfl (ar_shr (n := 4) rfl rfl rfl)) λa A↦?_
    rcases tf ((((((l.getD i 0).toNat : Nat) : Int)) / 16 == 14)) with hb69 | hb69
    ·
     have hb69' := eq_of_beq hb69
     refine sdc A qt hb69 λa A↦?_
     refine sda A λa A↦?_
     refine qa (hK68 _ _ (wp_cond_true (A.ev rfl) ?_))
     refine wrl (sdm A λa A↦?_)
     refine sdo (v := .int .u8 (((((l.getD i 0).toNat : Nat) : Int)) % 16)) A (qi rfl rfl (ar_and (qse 4 15 rfl (by decide) (by omega) (by omega)))) λa A↦?_
     refine sdo (v := .int .i32 (((((l.getD i 0).toNat : Nat) : Int)) % 16)) A (xq rfl (ar_conv Tryz.underlying5 Tryz.underlying21 (in_i32 (by omega) (by omega)))) λa A↦?_
     iterate 2 refine sda A λa A↦?_
     refine qa ?_
     exact hJ16 _ _ ⟨3, ((((l.getD i 0).toNat : Nat) : Int)) % 16, (by unfold LeadU; omega), A.keep _ (by repeat' constructor), M⟩
    ·
     have hb69' := ne_of_beq_false hb69
     refine sdc A qt hb69 λa A↦?_
     refine sda A λa A↦?_
     refine qa (hK68 _ _ (wp_cond_false (A.ev rfl) ?_))
     refine wsk fun K70 hK70 => wrl (sdm A λa A↦?_)
     refine sdo (v := .int .u8 (((((l.getD i 0).toNat : Nat) : Int)) / 8)) A (qi rfl rfl (ar_shr (n := 3) rfl rfl rfl)) λa A↦?_
     rcases tf ((((((l.getD i 0).toNat : Nat) : Int)) / 8 == 30)) with hb71 | hb71
     ·
      have hb71' := eq_of_beq hb71
      refine sdc A qt hb71 λa A↦?_
      refine sda A λa A↦?_
      refine qa (hK70 _ _ (wp_cond_true (A.ev rfl) ?_))
      refine wrl (sdm A λa A↦?_)
      refine sdo (v := .int .u8 (((((l.getD i 0).toNat : Nat) : Int)) % 8)) A (qi rfl rfl (ar_and (qse 3 7 rfl (by decide) (by omega) (by omega)))) λa A↦?_
      refine sdo (v := .int .i32 (((((l.getD i 0).toNat : Nat) : Int)) % 8)) A (xq rfl (ar_conv Tryz.underlying5 Tryz.underlying21 (in_i32 (by omega) (by omega)))) λa A↦?_
      iterate 2 refine sda A λa A↦?_
      refine qa ?_
      exact hJ16 _ _ ⟨4, ((((l.getD i 0).toNat : Nat) : Int)) % 8, (by unfold LeadU; omega), A.keep _ (by repeat' constructor), M⟩
     ·
      have hb71' := ne_of_beq_false hb71
      refine sdc A qt hb71 λa A↦?_
      refine sda A λa A↦?_
      refine qa (hK70 _ _ (wp_cond_false (A.ev rfl) ?_))
      refine wp_skip ?_
      exact hJ16 _ _ ⟨0, 0, (by unfold LeadU; omega), A.keep _ (by repeat' constructor), M⟩
 ·
  have hb12' := of_decide_eq_false hb12
  refine sdc A za hb12 λa A↦?_
  refine qa (hK11 _ _ (wp_cond_false (A.ev rfl) ?_))
  refine wp_exit (hK5 _ _ (wsk fun K72 hK72 => wrl (sdm A λa A↦?_)))
  refine sda A λa A↦?_
  refine qa (hK72 _ _ (wp_ret (hret _ _ (en1 A rfl (qf rfl) ?_))))
  rw [qzi (by omega), List.append_nil] at hrun
  subst hrun
  exact ⟨_, rfl, M⟩
open Go.RowKit Go.Lib
theorem qwa {w : World} {B : Nat} {e : TypeId} {sz : Nat} {v : Value} {n : Nat} {xs : List Value} (h : w.ownsRow B e sz v n xs) : ∃ so cap, v = .slice so n cap := by
  rcases h.2 with ⟨rfl, rfl⟩ | ⟨g, cap, cur, rfl, _⟩
  · exact ⟨none, 0, rfl⟩
  · exact ⟨_, cap, rfl⟩
section
variable {P : Program} {w0 w : World} {L : List Ck} {l : List (Nat × Value)} {dst : Option Tmp} {ty : TypeId} {pos : String} {after : Array Edge} {guard : Option (Nat × Bool)} {v : Value}
theorem zab {w' : World} {s d : TypeId} {x : Operand} {u : Value} (hx : ev l x = some u) (hr : (convert s d u).run P w = .ok v w') : Does P l ⟨dst, .convert s d x, ty, pos, after, guard⟩ w v w' := fun ρ h => by
  simp only [execOp, h x _ hx, Sem.run_bind, hr, Result.andThen_ok, Sem.run_pure]
theorem zkg (hM : Mg w0 w L) (k : Nat) {e : TypeId} {sz n cap : Nat} {so : Option Addr} {xs : List Value} (hk : L[k]? = some (.row e sz (.slice so n cap) n xs)) (hn : 0 < n) : ∃ g, so = some ⟨g, 0, none⟩ := by
  rcases (hM.has k hk).2 with ⟨_, h0⟩ | ⟨g, cap', cur, he, _⟩
  · omega
  · cases he; exact ⟨g, rfl⟩
theorem qwb {t e : TypeId} {sz : Nat} (hu : P.underlying t = some (.slice e)) (he : (P.info? e).map (·.size) = some sz) {x i : Operand} {so : Option Addr} {g n c k : Nat} {z : Int} (hx : ev l x = some (.slice so n c)) (hi : ev l i = some (.int .i64 z)) (hz : z = (k : Nat)) (hso : so = some ⟨g, 0, none⟩) (hk : k < n) :
    Does P l ⟨dst, .indexAddr t x i, ty, pos, after, guard⟩ w (.pointer (some ⟨g, k * sz, none⟩)) w := by
  subst hso
  exact xp hu he hx hi hz hk
theorem m_loadX (hM : Mg w0 w L) (k : Nat) {e : TypeId} {sz g n c j : Nat} {so : Option Addr} {xs : List Value} (hk : L[k]? = some (.row e sz (.slice so n c) n xs)) (hso : so = some ⟨g, 0, none⟩) (hj : xs[j]? = some v) {t : TypeId} (ht : Is1 P t) {x : Operand} (hx : ev l x = some (.pointer (some ⟨g, j, none⟩))) : Does P l ⟨dst, .load t x, ty, pos, after, guard⟩ w v w := by
  subst hso
  exact qpe hM k hk hj ht hx
end
section
variable {P : Program} {w0 w : World} {L : List Ck} {l : List (Nat × Value)} {ops : List Oper} {Q : Exit → Act → World → Prop} {a : Act} {n : Nat} {rest : List Oper} {d : Nat} {dst : Option Tmp} {ty : TypeId} {pos : String} {after : Array Edge} {guard : Option (Nat × Bool)}
/-- A text as bytes. -/
theorem zpc (hA : Sl a n l) (hM : Mg w0 w L) {t t' : TypeId} {x : Operand} {s : ByteArray} {o : Oper} (ho : o = ⟨dst, .convert t t' x, ty, pos, after, guard⟩) (ht : P.underlying t = some .string) (hd : P.underlying t' = some (.slice BY)) (he : P.underlying BY = some (.int .u8)) (hx : ev l x = some (.string s)) (hg : zu l ops o = true) (hdst : o.dst = some d) (hdn : Nat.blt d n = true)
    (hk : ∀ so cap w', Rb w' so s.data.toList → Mg w0 w' L → ∀ a', Sl a' n ((d, .slice so s.data.toList.length cap) :: l) → wpList P ops.toArray Q rest a' w') : wpList P ops.toArray Q (o :: rest) a w := by
  subst ho
  have hr := Go.Lib.run_convert_string_bytes (P := P) w t t' BY s ht hd he
  have hb : Below w.heap.size w (bytesWorld w BY s) := ⟨rfl, rfl, rfl, by rw [bytesWorld_size]; omega, fun j hj => bytesWorld_at_old w BY s j hj⟩
  refine vl hA hg hdst hdn (v := .slice (some ⟨w.heap.size, 0, none⟩) s.data.toList.length (grownCap w s.size 0 BY)) (w' := bytesWorld w BY s) (zab hx (by rw [yj]; exact hr)) (hk _ _ _ ⟨fun _ => ⟨w.heap.size, 0, rfl, by rw [bytesWorld_size]; omega, fun j hj => ?_⟩⟩ (hM.call hb))
  rw [yj] at hj
  rw [Nat.zero_add]
  exact bytesWorld_cell w BY s j hj
end
theorem qlg (u : Int × Int) (us : List (Int × Int)) : jx (u :: us) = (if u.2 = -1 then [.int .i32 0, .bool true, .int .i64 u.1] else [.int .i32 u.2, .bool false, .int .i64 u.1]) ++ jx us := rfl
theorem qlh : ∀ (us : List (Int × Int)) (i f : Nat) (u : Int × Int), us[i]? = some u → f < 3 → (jx us)[i * 3 + f]? = (if u.2 = -1 then [Value.int .i32 0, .bool true, .int .i64 u.1] else [.int .i32 u.2, .bool false, .int .i64 u.1])[f]?
  | [], i, f, u, h, hf => by simp at h
  | v :: us, 0, f, u, h, hf => by
    simp only [List.getElem?_cons_zero, Option.some.injEq] at h
    subst h
    rw [qlg, Nat.zero_mul, Nat.zero_add, List.getElem?_append_left]
    split <;> exact hf
  | v :: us, i + 1, f, u, h, hf => by
    rw [List.getElem?_cons_succ] at h
    rw [qlg, List.getElem?_append_right (by split <;> (simp only [List.length_cons, List.length_nil]; omega))]
    have e : (i + 1) * 3 + f - (if v.2 = -1 then [Value.int .i32 0, .bool true, .int .i64 v.1] else [.int .i32 v.2, .bool false, .int .i64 v.1]).length = i * 3 + f := by
      split <;> (simp only [List.length_cons, List.length_nil]; omega)
    rw [e]
    exact qlh us i f u h hf
theorem zkh {us : List (Int × Int)} {i : Nat} (h : i < us.length) : ∃ ua ur, us[i]? = some (ua, ur) := ⟨_, _, List.getElem?_eq_getElem h⟩
/-! ### Encode -/
theorem qli : ∀ (f p : Nat) (l : List UInt8), (vh f p l).length ≤ l.length
  | 0, _, _ => Nat.zero_le _
  | f + 1, p, l => by
    by_cases hl : l = []
    · subst hl; simp [vh]
    · rw [qgh hl, List.length_cons]
      have h1 := qli f (p + (decodeL l).2) (l.drop (decodeL l).2)
      have h2 := yi l hl
      rw [List.length_drop] at h1
      omega
theorem zki (l : List UInt8) (h : (decodeL l).1 = 65533) : (decodeL l).2 = 1 ∨ (decodeL l).2 = 3 ∨ (decodeL l).2 = 0 := by
  rw [decodeL_N] at h ⊢
  generalize (l.getD 0 0).toNat = b0 at h ⊢
  generalize (l.getD 1 0).toNat = b1 at h ⊢
  generalize (l.getD 2 0).toNat = b2 at h ⊢
  generalize (l.getD 3 0).toNat = b3 at h ⊢
  unfold decodeN at h ⊢
  repeat' split
  all_goals (simp_all)
  all_goals omega
theorem qbj : ∀ (f p : Nat) (l : List UInt8), validGoD f l = (vh f p l).all (fun u => !decide (u.2 = -1))
  | 0, p, l => rfl
  | f + 1, p, l => by
    unfold validGoD vh
    by_cases hl : l = []
    · rw [if_pos hl, if_pos hl]; rfl
    · rw [if_neg hl, if_neg hl, List.all_cons]
      have hw := yi l hl
      have h3 := zki l
      by_cases hb : (decodeL l).1 = 65533 ∧ (decodeL l).2 = 1
      · rw [if_pos hb]
        have : uR (decodeL l).1 (decodeL l).2 = -1 := by unfold uR; rw [if_pos ⟨hb.1, by omega⟩]
        rw [this]; rfl
      · rw [if_neg hb]
        have : ¬ uR (decodeL l).1 (decodeL l).2 = -1 := by
          unfold uR
          by_cases h9 : (decodeL l).1 = 65533
          · rw [if_neg (by have := h3 h9; omega)]; omega
          · rw [if_neg (fun e => h9 e.1)]; omega
        rw [decide_eq_false this, qbj f (p + (decodeL l).2)]
        simp
theorem qoh (s : ByteArray) : okS s = (jv s.data.toList).all (fun u => !decide (u.2 = -1)) := qbj _ 0 _
theorem zpd {s : ByteArray} {i : Nat} {ua ur : Int} (h : (jv s.data.toList)[i]? = some (ua, ur)) (hr : ur = -1) : okS s = false := by
  rw [qoh]
  apply Bool.eq_false_iff.2
  intro k
  have := List.all_eq_true.1 k _ (List.mem_of_getElem? h)
  simp [hr] at this
theorem zkj {s : ByteArray} (h : ∀ (i : Nat) (ua ur : Int), (jv s.data.toList)[i]? = some (ua, ur) → ur ≠ -1) : okS s = true := by
  rw [qoh, List.all_eq_true]
  intro u hu
  obtain ⟨i, hi⟩ := List.mem_iff_getElem?.1 hu
  simp [h i u.1 u.2 hi]
theorem TrV_is1_3 : Is1 Tryz.prog 3 := ⟨⟨_, Tryz.underlying3, rfl⟩, by kernel_rfl⟩
theorem TrV_is1_34 : Is1 Tryz.prog 34 := ⟨⟨_, Tryz.underlying34, rfl⟩, by kernel_rfl⟩
theorem TrV_is1_4 : Is1 Tryz.prog 4 := ⟨⟨_, Tryz.underlying4, rfl⟩, by kernel_rfl⟩
theorem TrV_is1_40 : Is1 Tryz.prog 40 := ⟨⟨_, Tryz.underlying40, rfl⟩, by kernel_rfl⟩
theorem TrV_is1_9 : Is1 Tryz.prog 9 := ⟨⟨_, Tryz.underlying9, rfl⟩, by kernel_rfl⟩
theorem TrV_fld_134_1 : FieldAt Tryz.prog 134 1 1 := ⟨_, _, Tryz.underlying134, rfl, rfl, by kernel_rfl⟩
theorem TrV_fld_39_0 : FieldAt Tryz.prog 39 0 0 := ⟨_, _, Tryz.underlying39, rfl, rfl, by kernel_rfl⟩
theorem TrV_fld_39_1 : FieldAt Tryz.prog 39 1 3 := ⟨_, _, Tryz.underlying39, rfl, rfl, by kernel_rfl⟩
theorem TrV_fld_42_0 : FieldAt Tryz.prog 42 0 0 := ⟨_, _, Tryz.underlying42, rfl, rfl, by kernel_rfl⟩
theorem TrV_fld_42_1 : FieldAt Tryz.prog 42 1 1 := ⟨_, _, Tryz.underlying42, rfl, rfl, by kernel_rfl⟩
theorem TrV_fld_42_2 : FieldAt Tryz.prog 42 2 2 := ⟨_, _, Tryz.underlying42, rfl, rfl, by kernel_rfl⟩
theorem TrV_fld_42_3 : FieldAt Tryz.prog 42 3 8 := ⟨_, _, Tryz.underlying42, rfl, rfl, by kernel_rfl⟩
theorem TrV_fld_42_4 : FieldAt Tryz.prog 42 4 9 := ⟨_, _, Tryz.underlying42, rfl, rfl, by kernel_rfl⟩
theorem TrV_fld_42_5 : FieldAt Tryz.prog 42 5 10 := ⟨_, _, Tryz.underlying42, rfl, rfl, by kernel_rfl⟩
theorem TrV_isS_37 : IsS Tryz.prog 37 3 := ⟨⟨_, Tryz.underlying37⟩, by kernel_rfl⟩
theorem TrV_isS_39 : IsS Tryz.prog 39 6 := ⟨⟨_, Tryz.underlying39⟩, by kernel_rfl⟩
theorem qwc {w : World} {so : Option Addr} {cap : Nat} {l : List UInt8} (hb : Rb w so l) (hlen : l.length ≤ 4000000) : Calls Tryz.prog 92 #[.int .i64 1, .slice so l.length cap] w fun e w' => ∃ v, e = .returned v ∧ Mg w w' [.row 134 3 v (jv l).length (jx (jv l))] := by
 have M : Mg w w ([]) := Mg.start w
 refine qx (l := [(0, .int .i64 1), (1, .slice so l.length cap)]) Tryz.func92 rfl Tryz.ntmps92 rfl rfl ?_
 intro Q hret hnorm hP a A
 refine wsk fun K1 hK1 => wrl (sda A λa A↦?_)
 refine qa (hK1 _ _ (wsk fun K2 hK2 => wsk fun K3 hK3 => wrl (sdm A λa A↦?_)))
 refine sdo (v := .bool true) A (qi rfl rfl (fun w => by kernel_rfl)) λa A↦?_
 refine qa (hK3 _ _ (wp_cond_true (A.ev rfl) ?_))
 refine wsk fun K4 hK4 => wrl (sdm A λa A↦?_)
 refine sct A (ef rfl rfl) (zgc (hb.below M.bel) hlen) ?_
 rintro _ w5 ⟨v9, rfl, hM9⟩
 replace M : Mg w w5 (.row 134 3 (v9) ((jv l).length) ((jx (jv l))) :: []) := (M.both hM9 (ql qn) (qg (by simp) (ql qn)))
 refine ⟨_, rfl, ?_⟩
 intro a A
 refine sda A λa A↦?_
 refine qa (hK4 _ _ (wp_ret (hret _ _ (en1 A rfl (qf rfl) ?_))))
 exact ⟨_, rfl, M⟩
theorem qlj {w : World} {s : ByteArray} (hs : s.size ≤ 4000000) {r : Bool} (hr : okS s = r) : Calls Tryz.prog 81 #[.string s] w fun e w' => e = .returned (.bool r) ∧ Below w.heap.size w w' := by
 have hul : (jv s.data.toList).length ≤ s.data.toList.length := qli _ _ _
 have hsl : s.data.toList.length ≤ 4000000 := by rw [yj]; exact hs
 have M : Mg w w ([]) := Mg.start w
 refine qx (l := [(0, .string s)]) Tryz.func81 rfl Tryz.ntmps81 rfl rfl ?_
 intro Q hret hnorm hP a A
 refine wsk fun K1 hK1 => wrl (sda A λa A↦?_)
 refine qa (hK1 _ _ (wsk fun K2 hK2 => wrl (sdm A λa A↦?_)))
 refine zpc A M rfl Tryz.underlying9 Tryz.underlying40 Tryz.underlying5 rfl rfl rfl rfl ?_
 intro so3 ca4 w5 hrb6 M a A
 refine sct A (ef rfl rfl) (qwc hrb6 (by rw [yj]; exact hs)) ?_
 rintro _ w10 ⟨v9, rfl, hM7⟩
 obtain ⟨so8, ca9, rfl⟩ := qwa (hM7.has 0 rfl)
 replace M : Mg w w10 (.row 134 3 (.slice so8 ((jv s.data.toList).length) ca9) ((jv s.data.toList).length) ((jx (jv s.data.toList))) :: []) := (M.both hM7 (ql qn) (qg (by simp) (ql qn)))
 refine ⟨_, rfl, ?_⟩
 intro a A
 refine sda A λa A↦?_
 refine qa (hK2 _ _ (wsk fun K11 hK11 => wsk fun K12 hK12 => wrl (sda A λa A↦?_)))
 refine qa (hK12 _ _ (wp_block (zt (fun m_ a w1 => ∃ (i : Nat), m_ = 1 + ((jv s.data.toList).length - i) ∧ (i ≤ (jv s.data.toList).length ∧ ∀ j ua ur, j < i → (jv s.data.toList)[j]? = some (ua, ur) → ur ≠ -1) ∧ Sl a 19 [(0, .string s), (3, .slice so8 ((jv s.data.toList).length) ca9), (4, .int .i64 (((i : Nat) : Int))), (5, .string s), (6, .slice so3 s.data.toList.length ca4), (7, .slice so8 ((jv s.data.toList).length) ca9)] ∧ Mg w w1 (.row 134 3 (.slice so8 ((jv s.data.toList).length) ca9) ((jv s.data.toList).length) ((jx (jv s.data.toList))) :: [])) _ ⟨0, rfl, ⟨Nat.zero_le _, fun j ua ur hj => absurd hj (Nat.not_lt_zero _)⟩, A.keep _ (by repeat' constructor), M⟩ ?_)))
 clear M A
 rintro m_ a w13 ⟨i, rfl, hinv15, A, M⟩ K14 hK14
 obtain ⟨hi0, hin9⟩ := hinv15
 refine wsk fun K16 hK16 => wsk fun K17 hK17 => wrl ?_
 iterate 2 refine sdm A λa A↦?_
 refine sdo A (qp Tryz.underlying131 rfl) λa A↦?_
 rcases tf (decide (((i : Nat) : Int) < (((jv s.data.toList).length : Nat) : Int))) with hb18 | hb18
 ·
  have hb18' := of_decide_eq_true hb18
  refine sdc A za hb18 λa A↦?_
  refine qa (hK17 _ _ (wp_cond_true (A.ev rfl) ?_))
  refine wp_skip (hK16 _ _ (wsk fun K19 hK19 => wp_block (wsk fun K20 hK20 => wrl ?_)))
  iterate 2 refine sdm A λa A↦?_
  obtain ⟨gu, hgu⟩ := zkg M 0 rfl (by omega)
  obtain ⟨ua, ur, hu⟩ := zkh (us := jv s.data.toList) (i := i) (by omega)
  refine sdo (v := .pointer (some ⟨gu, i * 3, none⟩)) A (qwb Tryz.underlying131 (by kernel_rfl) rfl rfl rfl hgu (show i < (jv s.data.toList).length by omega)) λa A↦?_
  refine sdo (v := .pointer (some ⟨gu, i * 3 + 1, none⟩)) A (qb TrV_fld_134_1 rfl rfl) λa A↦?_
  by_cases hf : ur = -1
  ·
   refine sdo (v := .bool true) A (m_loadX M 0 rfl hgu ((qlh _ i 1 _ hu (by decide)).trans (by rw [if_pos hf]; rfl)) TrV_is1_4 rfl) λa A↦?_
   refine qa (hK20 _ _ (wp_cond_true (A.ev rfl) ?_))
   refine wsk fun K21 hK21 => wrl (sda A λa A↦?_)
   refine qa (hK21 _ _ (wp_ret (hret _ _ (en1 A rfl (qf rfl) ?_))))
   subst hr
   exact ⟨by rw [zpd hu hf], M.bel⟩
  ·
   refine sdo (v := .bool false) A (m_loadX M 0 rfl hgu ((qlh _ i 1 _ hu (by decide)).trans (by rw [if_neg hf]; rfl)) TrV_is1_4 rfl) λa A↦?_
   refine qa (hK20 _ _ (wp_cond_false (A.ev rfl) ?_))
   refine wp_skip (hK19 _ _ (wrl (sdm A λa A↦?_)))
   refine sdo (v := .int .i64 (((i + 1 : Nat) : Int))) A (qi rfl rfl (fun w => (jc (jg (by omega) (by omega)) w).trans (by rw [show (((i : Nat) : Int) + 1 : Int) = ((i + 1 : Nat) : Int) from by omega]))) λa A↦?_
   refine sda A λa A↦?_
   refine qa ?_
   refine hK14 _ _ _ (by omega) ⟨i + 1, rfl, ⟨by omega, fun j va vr hj hv => if h9 : j < i then hin9 j va vr h9 hv else by have h8 : j = i := (by omega); subst h8; rw [hu] at hv; injection hv with h7; injection h7 with _ h6; rw [← h6]; exact hf⟩, A.keep _ (by repeat' constructor), M⟩
 ·
  have hb18' := of_decide_eq_false hb18
  refine sdc A za hb18 λa A↦?_
  refine qa (hK17 _ _ (wp_cond_false (A.ev rfl) ?_))
  refine wp_exit (hK11 _ _ (wsk fun K22 hK22 => wrl (sda A λa A↦?_)))
  refine qa (hK22 _ _ (wp_ret (hret _ _ (en1 A rfl (qf rfl) ?_))))
  subst hr
  exact ⟨by rw [zkj (fun j ua ur hj => hin9 j ua ur (by have := (List.getElem?_eq_some_iff.1 hj).1; omega) hj)], M.bel⟩
theorem qoi {w : World} {n : Int} {r : Bool} (hr : kn n = r) : Calls Tryz.prog 84 #[.int .i64 n] w fun e w' => e = .returned (.bool r) ∧ Below w.heap.size w w' := by
 have M : Mg w w ([]) := Mg.start w
 refine qx (l := [(0, .int .i64 n)]) Tryz.func84 rfl Tryz.ntmps84 rfl rfl ?_
 intro Q hret hnorm hP a A
 refine wsk fun K1 hK1 => wrl (sda A λa A↦?_)
 refine qa (hK1 _ _ (wsk fun K2 hK2 => wrl (sdm A λa A↦?_)))
 rcases tf (decide (0 ≤ n)) with hb3 | hb3
 ·
  have hb3' := of_decide_eq_true hb3
  refine sdc A zk hb3 λa A↦?_
  iterate 2 refine sdm A λa A↦?_
  rcases tf (decide (n ≤ 1114111)) with hb4 | hb4
  ·
   have hb4' := of_decide_eq_true hb4
   refine sdc A vp hb4 λa A↦?_
   refine sdk (v := .bool true) A λa A↦?_
   iterate 2 refine sdm A λa A↦?_
   rcases tf (decide (n < 55296)) with hb5 | hb5
   ·
    have hb5' := of_decide_eq_true hb5
    refine sdc A za hb5 λa A↦?_
    refine sdm A λa A↦?_
    iterate 2 refine qk A rfl rfl rfl λa A↦?_
    iterate 2 refine sdk (v := .bool true) A λa A↦?_
    refine sda A λa A↦?_
    refine qa (hK2 _ _ (wp_ret (hret _ _ (en1 A rfl (qf rfl) ?_))))
    subst hr
    exact ⟨by rw [show kn n = true from by unfold kn; apply decide_eq_true; omega], M.bel⟩
   ·
    have hb5' := of_decide_eq_false hb5
    refine sdc A za hb5 λa A↦?_
    iterate 2 refine sdm A λa A↦?_
    rcases tf (decide (57343 < n)) with hb6 | hb6
    ·
     have hb6' := of_decide_eq_true hb6
     refine sdc A jj hb6 λa A↦?_
     iterate 2 refine sdk (v := .bool true) A λa A↦?_
     refine sda A λa A↦?_
     refine qa (hK2 _ _ (wp_ret (hret _ _ (en1 A rfl (qf rfl) ?_))))
     subst hr
     exact ⟨by rw [show kn n = true from by unfold kn; apply decide_eq_true; omega], M.bel⟩
    ·
     have hb6' := of_decide_eq_false hb6
     refine sdc A jj hb6 λa A↦?_
     iterate 2 refine sdk (v := .bool false) A λa A↦?_
     refine sda A λa A↦?_
     refine qa (hK2 _ _ (wp_ret (hret _ _ (en1 A rfl (qf rfl) ?_))))
     subst hr
     exact ⟨by rw [show kn n = false from by unfold kn; apply decide_eq_false; omega], M.bel⟩
  ·
   have hb4' := of_decide_eq_false hb4
   refine sdc A vp hb4 λa A↦?_
   refine sdk (v := .bool false) A λa A↦?_
   refine sdm A λa A↦?_
   iterate 3 refine qk A rfl rfl rfl λa A↦?_
   iterate 2 refine kg A rfl rfl rfl λa A↦?_
   refine qk A rfl rfl rfl λa A↦?_
   refine sdk (v := .bool false) A λa A↦?_
   refine sda A λa A↦?_
   refine qa (hK2 _ _ (wp_ret (hret _ _ (en1 A rfl (qf rfl) ?_))))
   subst hr
   exact ⟨by rw [show kn n = false from by unfold kn; apply decide_eq_false; omega], M.bel⟩
 ·
  have hb3' := of_decide_eq_false hb3
  refine sdc A zk hb3 λa A↦?_
  refine sdm A λa A↦?_
  iterate 2 refine qk A rfl rfl rfl λa A↦?_
  refine sdk (v := .bool false) A λa A↦?_
  refine sdm A λa A↦?_
  iterate 3 refine qk A rfl rfl rfl λa A↦?_
  iterate 2 refine kg A rfl rfl rfl λa A↦?_
  refine qk A rfl rfl rfl λa A↦?_
  refine sdk (v := .bool false) A λa A↦?_
  refine sda A λa A↦?_
  refine qa (hK2 _ _ (wp_ret (hret _ _ (en1 A rfl (qf rfl) ?_))))
  subst hr
  exact ⟨by rw [show kn n = false from by unfold kn; apply decide_eq_false; omega], M.bel⟩
/-- Sound by its kind, asked in the document's order. -/
def vd (k n : Int) (q : Q6) (s : ByteArray) (mr ml : Nat) : Bool :=
 if k < 1 ∨ 11 < k ∨ okS s = false then false
 else if k = 3 ∧ vq q = false then false
 else if k ≠ 3 ∧ (km q.b1 q.t1.length q.q1.length = false ∨ km q.b2 q.t2.length q.q2.length = false) then false
 else if s ≠ ⟨#[]⟩ ∧ k ≠ 5 ∧ k ≠ 6 ∧ k ≠ 11 then false
 else if 0 < mr ∧ k ≠ 7 then false
 else if k = 2 ∧ n ≠ 0 ∧ n ≠ 1 then false
 else if k = 4 ∧ kn n = false then false
 else if k ≠ 2 ∧ k ≠ 4 ∧ n ≠ 0 then false
 else if k = 8 then decide (ml = 2)
 else decide (k = 9 ∨ ml = 0)
theorem zpe : okS ⟨#[]⟩ = true := by unfold okS; rfl
theorem jq (k n : Int) (q : Q6) (s : ByteArray) (mr ml : Nat) : jt k n q s mr ml = vd k n q s mr ml := by
 have hv : s = ⟨#[]⟩ → okS s = true := by rintro rfl; exact zpe
 have hn0 : km false 0 0 = true := rfl
 unfold jt vd
 by_cases hk : k < 1 ∨ 11 < k
 ·
  rw [if_pos (show k < 1 ∨ 11 < k ∨ okS s = false by omega)]
  repeat (rw [if_neg (by omega)])
 ·
  have h11 : k = 1 ∨ k = 2 ∨ k = 3 ∨ k = 4 ∨ k = 5 ∨ k = 6 ∨ k = 7 ∨ k = 8 ∨ k = 9 ∨ k = 10 ∨ k = 11 := by omega
  simp only [vt, hn0]
  generalize km q.b1 q.t1.length q.q1.length = B1
  generalize km q.b2 q.t2.length q.q2.length = B2
  generalize vq q = S1
  generalize kn n = S2
  by_cases hs : s = ⟨#[]⟩
  ·
   rw [hv hs]
   have hs2 : ¬ s ≠ ⟨#[]⟩ := fun h => h hs
   rcases h11 with h | h | h | h | h | h | h | h | h | h | h <;> subst h <;> cases B1 <;> cases B2 <;> cases S1 <;> cases S2 <;> simp [hs] <;> by_cases hm : mr = 0 <;> simp [hm] <;> by_cases hn : n = 0 <;> simp [hn] <;> first | omega | (by_cases hn1 : n = 1 <;> simp [hn1]) | skip
  ·
   cases hV : okS s <;> rcases h11 with h | h | h | h | h | h | h | h | h | h | h <;> subst h <;> cases B1 <;> cases B2 <;> cases S1 <;> cases S2 <;> simp [hs] <;> by_cases hm : mr = 0 <;> simp [hm] <;> by_cases hn : n = 0 <;> simp [hn] <;> first | omega | skip
section
variable {k n : Int} {q : Q6} {s : ByteArray} {mr ml : Nat}
def ShA (k : Int) (s : ByteArray) : Prop := 1 ≤ k ∧ k ≤ 11 ∧ okS s = true
def ShB (k : Int) (q : Q6) : Prop := (k = 3 → vq q = true) ∧ (k ≠ 3 → km q.b1 q.t1.length q.q1.length = true ∧ km q.b2 q.t2.length q.q2.length = true)
def ShC (k : Int) (s : ByteArray) : Prop := s = ⟨#[]⟩ ∨ k = 5 ∨ k = 6 ∨ k = 11
def ShD (k : Int) (mr : Nat) : Prop := mr = 0 ∨ k = 7
def ShE (k n : Int) : Prop := (k = 2 → n = 0 ∨ n = 1) ∧ (k = 4 → kn n = true) ∧ (k ≠ 2 → k ≠ 4 → n = 0)
theorem sh1 (h : k < 1 ∨ 11 < k ∨ okS s = false) : vd k n q s mr ml = false := by unfold vd; rw [if_pos h]
theorem shA (a : ShA k s) : ¬ (k < 1 ∨ 11 < k ∨ okS s = false) := fun e => by
 rcases e with e | e | e
 ·
  have := a.1; omega
 ·
  have := a.2.1; omega
 ·
  rw [a.2.2] at e; cases e
theorem sh2 (a : ShA k s) (h : k = 3) (S : vq q = false) : vd k n q s mr ml = false := by unfold vd; rw [if_neg (shA a), if_pos ⟨h, S⟩]
theorem sh3 (a : ShA k s) (h : k ≠ 3) (S : km q.b1 q.t1.length q.q1.length = false ∨ km q.b2 q.t2.length q.q2.length = false) : vd k n q s mr ml = false := by unfold vd; rw [if_neg (shA a), if_neg (fun e => h e.1), if_pos ⟨h, S⟩]
theorem zpf (b : ShB k q) : ¬ (k = 3 ∧ vq q = false) := fun e => by have := b.1 e.1; rw [e.2] at this; cases this
theorem zpg (b : ShB k q) : ¬ (k ≠ 3 ∧ (km q.b1 q.t1.length q.q1.length = false ∨ km q.b2 q.t2.length q.q2.length = false)) := fun e => by
 have := b.2 e.1
 rcases e.2 with h | h
 ·
  rw [this.1] at h; cases h
 ·
  rw [this.2] at h; cases h
theorem sh4 (a : ShA k s) (b : ShB k q) (h : s ≠ ⟨#[]⟩ ∧ k ≠ 5 ∧ k ≠ 6 ∧ k ≠ 11) : vd k n q s mr ml = false := by unfold vd; rw [if_neg (shA a), if_neg (zpf b), if_neg (zpg b), if_pos h]
theorem shC (c : ShC k s) : ¬ (s ≠ ⟨#[]⟩ ∧ k ≠ 5 ∧ k ≠ 6 ∧ k ≠ 11) := fun e => by rcases c with h | h | h | h <;> first | exact e.1 h | exact e.2.1 h | exact e.2.2.1 h | exact e.2.2.2 h
theorem sh5 (a : ShA k s) (b : ShB k q) (c : ShC k s) (h : 0 < mr ∧ k ≠ 7) : vd k n q s mr ml = false := by unfold vd; rw [if_neg (shA a), if_neg (zpf b), if_neg (zpg b), if_neg (shC c), if_pos h]
theorem shD (d : ShD k mr) : ¬ (0 < mr ∧ k ≠ 7) := fun e => by rcases d with h | h <;> omega
theorem sh6 (a : ShA k s) (b : ShB k q) (c : ShC k s) (d : ShD k mr) (h : (k = 2 ∧ n ≠ 0 ∧ n ≠ 1) ∨ (k = 4 ∧ kn n = false) ∨ (k ≠ 2 ∧ k ≠ 4 ∧ n ≠ 0)) : vd k n q s mr ml = false := by
 unfold vd
 rw [if_neg (shA a), if_neg (zpf b), if_neg (zpg b), if_neg (shC c), if_neg (shD d)]
 rcases h with h | h | h
 ·
  rw [if_pos h]
 ·
  rw [if_neg (by omega), if_pos h]
 ·
  rw [if_neg (by omega), if_neg (fun e => h.2.1 e.1), if_pos h]
theorem sh9 (a : ShA k s) (b : ShB k q) (c : ShC k s) (d : ShD k mr) (e : ShE k n) : vd k n q s mr ml = if k = 8 then decide (ml = 2) else decide (k = 9 ∨ ml = 0) := by
 unfold vd
 have e1 := e.1
 have e3 := e.2.2
 rw [if_neg (shA a), if_neg (zpf b), if_neg (zpg b), if_neg (shC c), if_neg (shD d), if_neg (fun h => by have := e1 h.1; omega), if_neg (fun h => by have := e.2.1 h.1; rw [h.2] at this; cases this), if_neg (fun h => by have := e3 h.1 h.2.1; omega)]
end
theorem qma {w : World} {d : Nd} {ts : List Dt} (hok : NdOk w d) (hs2 : d.s.size ≤ 4000000) (hlen : ts.length ≤ 9223372036854775807) {r : Bool} (hr : jt d.k d.n d.y.q d.s d.rl.length ts.length = r) : Calls Tryz.prog 72 #[.agg (d.cells ts.length).toArray] w fun e w' => e = .returned (.bool r) ∧ Below w.heap.size w w' := by
 have hrl : d.rl.length ≤ 9223372036854775807 := Nat.le_trans hok.rcap hok.rmax
 have M : Mg w w ([]) := Mg.start w
 refine qx (l := [(0, .agg (d.cells ts.length).toArray)]) Tryz.func72 rfl Tryz.ntmps72 rfl rfl ?_
 intro Q hret hnorm hP a A
 refine wsk fun K1 hK1 => wrl (jb (vs := [.int .i64 d.k, .int .i64 d.n, .bool d.y.q.b1, .slice d.y.o1 d.y.q.t1.length d.y.c1, .slice d.y.o2 d.y.q.q1.length d.y.c2, .bool d.y.q.b2, .slice d.y.o3 d.y.q.t2.length d.y.c3, .slice d.y.o4 d.y.q.q2.length d.y.c4, .string d.s, .slice d.ro d.rl.length d.rc, .slice d.lo ts.length d.lc]) (t := 42) A M rfl rfl rfl pg (zh rfl rfl) (by decide) ?_)
 intro g2 w3 M a A
 refine sda A λa A↦?_
 refine qa (hK1 _ _ (wsk fun K4 hK4 => ?_))
 have hJ5 : ∀ a w1, ((ShA d.k d.s) ∧ Sl a 100 [(0, .agg (d.cells ts.length).toArray), (1, .pointer (some ⟨g2, 0, none⟩))] ∧ Mg w w1 (.obj g2 (.cells (d.cells ts.length).toArray 42) :: [])) → K4 a w1 := by
  clear A M
  rintro a w6 ⟨hf7, A, M⟩
  have hSA := hf7
  refine hK4 _ _ (wsk fun K8 hK8 => ?_)
  have hJ9 : ∀ a w1, ((ShB d.k d.y.q) ∧ Sl a 100 [(0, .agg (d.cells ts.length).toArray), (1, .pointer (some ⟨g2, 0, none⟩))] ∧ Mg w w1 (.obj g2 (.cells (d.cells ts.length).toArray 42) :: [])) → K8 a w1 := by
   clear A M
   rintro a w10 ⟨hf11, A, M⟩
   have hSB := hf11
   refine hK8 _ _ (wsk fun K12 hK12 => ?_)
   have hJ13 : ∀ a w1, ((ShC d.k d.s) ∧ Sl a 100 [(0, .agg (d.cells ts.length).toArray), (1, .pointer (some ⟨g2, 0, none⟩))] ∧ Mg w w1 (.obj g2 (.cells (d.cells ts.length).toArray 42) :: [])) → K12 a w1 := by
    clear A M
    rintro a w14 ⟨hf15, A, M⟩
    have hSC := hf15
    refine hK12 _ _ (wsk fun K16 hK16 => ?_)
    have hJ17 : ∀ a w1, ((ShD d.k d.rl.length) ∧ Sl a 100 [(0, .agg (d.cells ts.length).toArray), (1, .pointer (some ⟨g2, 0, none⟩))] ∧ Mg w w1 (.obj g2 (.cells (d.cells ts.length).toArray 42) :: [])) → K16 a w1 := by
     clear A M
     rintro a w18 ⟨hf19, A, M⟩
     have hSD := hf19
     refine hK16 _ _ (wsk fun K20 hK20 => ?_)
     have hJ21 : ∀ a w1, ((ShE d.k d.n) ∧ Sl a 100 [(0, .agg (d.cells ts.length).toArray), (1, .pointer (some ⟨g2, 0, none⟩))] ∧ Mg w w1 (.obj g2 (.cells (d.cells ts.length).toArray 42) :: [])) → K20 a w1 := by
      clear A M
      rintro a w22 ⟨hf23, A, M⟩
      have hSE := hf23
      refine hK20 _ _ (wsk fun K24 hK24 => wsk fun K25 hK25 => wrl (sdo (v := .pointer (some ⟨g2, 0, none⟩)) A (qb TrV_fld_42_0 rfl rfl) λa A↦?_))
      refine sdo A (qh M TrV_is1_3 rfl 0 rfl rfl) λa A↦?_
      rcases tf ((d.k == 8)) with hb26 | hb26
      ·
       have hb26' := eq_of_beq hb26
       refine sdc A qt hb26 λa A↦?_
       refine qa (hK25 _ _ (wp_cond_true (A.ev rfl) ?_))
       refine wsk fun K27 hK27 => wrl (sdo (v := .pointer (some ⟨g2, 10, none⟩)) A (qb TrV_fld_42_5 rfl rfl) λa A↦?_)
       refine sdo A (qh M TrV_is1_34 rfl 0 rfl rfl) λa A↦?_
       refine sdo A (qp Tryz.underlying34 rfl) λa A↦?_
       rcases tf ((((ts.length : Nat) : Int) == 2)) with hb28 | hb28
       ·
        have hb28' := eq_of_beq hb28
        refine sdc A qt hb28 λa A↦?_
        refine sda A λa A↦?_
        refine qa (hK27 _ _ (wp_ret (hret _ _ (en1 A rfl (qf rfl) ?_))))
        exact ⟨by rw [← hr, jq, sh9 hSA hSB hSC hSD hSE, if_pos (by omega), decide_eq_true (show (ts.length = 2) by omega)], M.bel⟩
       ·
        have hb28' := ne_of_beq_false hb28
        refine sdc A qt hb28 λa A↦?_
        refine sda A λa A↦?_
        refine qa (hK27 _ _ (wp_ret (hret _ _ (en1 A rfl (qf rfl) ?_))))
        exact ⟨by rw [← hr, jq, sh9 hSA hSB hSC hSD hSE, if_pos (by omega), decide_eq_false (show ¬ (ts.length = 2) by omega)], M.bel⟩
      ·
       have hb26' := ne_of_beq_false hb26
       refine sdc A qt hb26 λa A↦?_
       refine qa (hK25 _ _ (wp_cond_false (A.ev rfl) ?_))
       refine wp_skip (hK24 _ _ (wsk fun K29 hK29 => wrl (sdo (v := .pointer (some ⟨g2, 0, none⟩)) A (qb TrV_fld_42_0 rfl rfl) λa A↦?_)))
       refine sdo A (qh M TrV_is1_3 rfl 0 rfl rfl) λa A↦?_
       rcases tf ((d.k == 9)) with hb30 | hb30
       ·
        have hb30' := eq_of_beq hb30
        refine sdc A qt hb30 λa A↦?_
        refine sdm A λa A↦?_
        iterate 4 refine qk A rfl rfl rfl λa A↦?_
        refine sdk (v := .bool true) A λa A↦?_
        refine sda A λa A↦?_
        refine qa (hK29 _ _ (wp_ret (hret _ _ (en1 A rfl (qf rfl) ?_))))
        exact ⟨by rw [← hr, jq, sh9 hSA hSB hSC hSD hSE, if_neg (by omega), decide_eq_true (show (d.k = 9 ∨ ts.length = 0) by omega)], M.bel⟩
       ·
        have hb30' := ne_of_beq_false hb30
        refine sdc A qt hb30 λa A↦?_
        refine sdm A λa A↦?_
        refine sdo (v := .pointer (some ⟨g2, 10, none⟩)) A (qb TrV_fld_42_5 rfl rfl) λa A↦?_
        refine sdo A (qh M TrV_is1_34 rfl 0 rfl rfl) λa A↦?_
        refine sdo A (qp Tryz.underlying34 rfl) λa A↦?_
        rcases tf ((((ts.length : Nat) : Int) == 0)) with hb31 | hb31
        ·
         have hb31' := eq_of_beq hb31
         refine sdc A qt hb31 λa A↦?_
         refine sdk (v := .bool true) A λa A↦?_
         refine sda A λa A↦?_
         refine qa (hK29 _ _ (wp_ret (hret _ _ (en1 A rfl (qf rfl) ?_))))
         exact ⟨by rw [← hr, jq, sh9 hSA hSB hSC hSD hSE, if_neg (by omega), decide_eq_true (show (d.k = 9 ∨ ts.length = 0) by omega)], M.bel⟩
        ·
         have hb31' := ne_of_beq_false hb31
         refine sdc A qt hb31 λa A↦?_
         refine sdk (v := .bool false) A λa A↦?_
         refine sda A λa A↦?_
         refine qa (hK29 _ _ (wp_ret (hret _ _ (en1 A rfl (qf rfl) ?_))))
         exact ⟨by rw [← hr, jq, sh9 hSA hSB hSC hSD hSE, if_neg (by omega), decide_eq_false (show ¬ (d.k = 9 ∨ ts.length = 0) by omega)], M.bel⟩
     refine wsk fun K32 hK32 => wrl (sdo (v := .pointer (some ⟨g2, 0, none⟩)) A (qb TrV_fld_42_0 rfl rfl) λa A↦?_)
     refine sdo A (qh M TrV_is1_3 rfl 0 rfl rfl) λa A↦?_
     refine qa (hK32 _ _ (wp_block (wsk fun K33 hK33 => wrl ?_)))
     rcases tf ((d.k == 2)) with hb34 | hb34
     ·
      have hb34' := eq_of_beq hb34
      refine sdc A qt hb34 λa A↦?_
      refine sda A λa A↦?_
      refine qa (hK33 _ _ (wp_cond_true (A.ev rfl) ?_))
      refine wsk fun K35 hK35 => wrl (sdo (v := .pointer (some ⟨g2, 1, none⟩)) A (qb TrV_fld_42_1 rfl rfl) λa A↦?_)
      refine sdo A (qh M TrV_is1_3 rfl 0 rfl rfl) λa A↦?_
      rcases tf ((d.n != 0)) with hb36 | hb36
      ·
       have hb36' := bne_iff_ne.1 hb36
       refine sdc A zi hb36 λa A↦?_
       refine sdm A λa A↦?_
       refine sdo (v := .pointer (some ⟨g2, 1, none⟩)) A (qb TrV_fld_42_1 rfl rfl) λa A↦?_
       refine sdo A (qh M TrV_is1_3 rfl 0 rfl rfl) λa A↦?_
       rcases tf ((d.n != 1)) with hb37 | hb37
       ·
        have hb37' := bne_iff_ne.1 hb37
        refine sdc A zi hb37 λa A↦?_
        refine sdk (v := .bool true) A λa A↦?_
        refine qa (hK35 _ _ (wp_cond_true (A.ev rfl) ?_))
        refine wsk fun K38 hK38 => wrl (sda A λa A↦?_)
        refine qa (hK38 _ _ (wp_ret (hret _ _ (en1 A rfl (qf rfl) ?_))))
        exact ⟨by rw [← hr, jq, sh6 hSA hSB hSC hSD (.inl ⟨by omega, by omega, by omega⟩)], M.bel⟩
       ·
        have hb37' := bne_eq_false_iff_eq.1 hb37
        refine sdc A zi hb37 λa A↦?_
        refine sdk (v := .bool false) A λa A↦?_
        refine qa (hK35 _ _ (wp_cond_false (A.ev rfl) ?_))
        refine wp_skip ?_
        exact hJ21 _ _ ⟨⟨fun h => by omega, fun h => absurd h (by omega), fun h h2 => by omega⟩, A.keep _ ⟨rfl, rfl, trivial⟩, M⟩
      ·
       have hb36' := bne_eq_false_iff_eq.1 hb36
       refine sdc A zi hb36 λa A↦?_
       refine sdm A λa A↦?_
       iterate 3 refine qk A rfl rfl rfl λa A↦?_
       refine sdk (v := .bool false) A λa A↦?_
       refine qa (hK35 _ _ (wp_cond_false (A.ev rfl) ?_))
       refine wp_skip ?_
       exact hJ21 _ _ ⟨⟨fun h => by omega, fun h => absurd h (by omega), fun h h2 => by omega⟩, A.keep _ ⟨rfl, rfl, trivial⟩, M⟩
     ·
      have hb34' := ne_of_beq_false hb34
      refine sdc A qt hb34 λa A↦?_
      refine sda A λa A↦?_
      refine qa (hK33 _ _ (wp_cond_false (A.ev rfl) ?_))
      refine wsk fun K39 hK39 => wrl ?_
      rcases tf ((d.k == 4)) with hb40 | hb40
      ·
       have hb40' := eq_of_beq hb40
       refine sdc A qt hb40 λa A↦?_
       refine sda A λa A↦?_
       refine qa (hK39 _ _ (wp_cond_true (A.ev rfl) ?_))
       refine wsk fun K41 hK41 => wrl (sdo (v := .pointer (some ⟨g2, 1, none⟩)) A (qb TrV_fld_42_1 rfl rfl) λa A↦?_)
       refine sdo A (qh M TrV_is1_3 rfl 0 rfl rfl) λa A↦?_
       rcases tf (kn d.n) with hb42 | hb42
       ·
        refine gcl A M (ef rfl rfl) (qoi hb42) fun w44 hb43 M a A => ?_
        refine sdo (v := .bool false) A (zj rfl zq) λa A↦?_
        refine qa (hK41 _ _ (wp_cond_false (A.ev rfl) ?_))
        refine wp_skip ?_
        exact hJ21 _ _ ⟨⟨fun h => by omega, fun h => hb42, fun h h2 => by omega⟩, A.keep _ ⟨rfl, rfl, trivial⟩, M⟩
       ·
        refine gcl A M (ef rfl rfl) (qoi hb42) fun w46 hb45 M a A => ?_
        refine sdo (v := .bool true) A (zj rfl zq) λa A↦?_
        refine qa (hK41 _ _ (wp_cond_true (A.ev rfl) ?_))
        refine wsk fun K47 hK47 => wrl (sda A λa A↦?_)
        refine qa (hK47 _ _ (wp_ret (hret _ _ (en1 A rfl (qf rfl) ?_))))
        exact ⟨by rw [← hr, jq, sh6 hSA hSB hSC hSD (.inr (.inl ⟨by omega, hb42⟩))], M.bel⟩
      ·
       have hb40' := ne_of_beq_false hb40
       refine sdc A qt hb40 λa A↦?_
       refine sda A λa A↦?_
       refine qa (hK39 _ _ (wp_cond_false (A.ev rfl) ?_))
       refine wsk fun K48 hK48 => wrl (sdo (v := .pointer (some ⟨g2, 1, none⟩)) A (qb TrV_fld_42_1 rfl rfl) λa A↦?_)
       refine sdo A (qh M TrV_is1_3 rfl 0 rfl rfl) λa A↦?_
       rcases tf ((d.n != 0)) with hb49 | hb49
       ·
        have hb49' := bne_iff_ne.1 hb49
        refine sdc A zi hb49 λa A↦?_
        refine qa (hK48 _ _ (wp_cond_true (A.ev rfl) ?_))
        refine wsk fun K50 hK50 => wrl (sda A λa A↦?_)
        refine qa (hK50 _ _ (wp_ret (hret _ _ (en1 A rfl (qf rfl) ?_))))
        exact ⟨by rw [← hr, jq, sh6 hSA hSB hSC hSD (.inr (.inr ⟨by omega, by omega, by omega⟩))], M.bel⟩
       ·
        have hb49' := bne_eq_false_iff_eq.1 hb49
        refine sdc A zi hb49 λa A↦?_
        refine qa (hK48 _ _ (wp_cond_false (A.ev rfl) ?_))
        refine wp_skip ?_
        exact hJ21 _ _ ⟨⟨fun h => by omega, fun h => absurd h (by omega), fun h h2 => by omega⟩, A.keep _ ⟨rfl, rfl, trivial⟩, M⟩
    refine wsk fun K51 hK51 => wrl (sdo (v := .pointer (some ⟨g2, 9, none⟩)) A (qb TrV_fld_42_4 rfl rfl) λa A↦?_)
    refine sdo A (qh M TrV_is1_40 rfl 0 rfl rfl) λa A↦?_
    refine sdo A (qp Tryz.underlying40 rfl) λa A↦?_
    rcases tf (decide (0 < ((d.rl.length : Nat) : Int))) with hb52 | hb52
    ·
     have hb52' := of_decide_eq_true hb52
     refine sdc A jj hb52 λa A↦?_
     refine sdm A λa A↦?_
     refine sdo (v := .pointer (some ⟨g2, 0, none⟩)) A (qb TrV_fld_42_0 rfl rfl) λa A↦?_
     refine sdo A (qh M TrV_is1_3 rfl 0 rfl rfl) λa A↦?_
     rcases tf ((d.k != 7)) with hb53 | hb53
     ·
      have hb53' := bne_iff_ne.1 hb53
      refine sdc A zi hb53 λa A↦?_
      refine sdk (v := .bool true) A λa A↦?_
      refine qa (hK51 _ _ (wp_cond_true (A.ev rfl) ?_))
      refine wsk fun K54 hK54 => wrl (sda A λa A↦?_)
      refine qa (hK54 _ _ (wp_ret (hret _ _ (en1 A rfl (qf rfl) ?_))))
      exact ⟨by rw [← hr, jq, sh5 hSA hSB hSC ⟨by omega, by omega⟩], M.bel⟩
     ·
      have hb53' := bne_eq_false_iff_eq.1 hb53
      refine sdc A zi hb53 λa A↦?_
      refine sdk (v := .bool false) A λa A↦?_
      refine qa (hK51 _ _ (wp_cond_false (A.ev rfl) ?_))
      refine wp_skip ?_
      exact hJ17 _ _ ⟨.inr (by omega), A.keep _ ⟨rfl, rfl, trivial⟩, M⟩
    ·
     have hb52' := of_decide_eq_false hb52
     refine sdc A jj hb52 λa A↦?_
     refine sdm A λa A↦?_
     iterate 3 refine qk A rfl rfl rfl λa A↦?_
     refine sdk (v := .bool false) A λa A↦?_
     refine qa (hK51 _ _ (wp_cond_false (A.ev rfl) ?_))
     refine wp_skip ?_
     exact hJ17 _ _ ⟨.inl (by omega), A.keep _ ⟨rfl, rfl, trivial⟩, M⟩
   refine wsk fun K55 hK55 => wrl (sdo (v := .pointer (some ⟨g2, 8, none⟩)) A (qb TrV_fld_42_3 rfl rfl) λa A↦?_)
   refine sdo A (qh M TrV_is1_9 rfl 0 rfl rfl) λa A↦?_
   rcases tf (decide (d.s = ⟨#[]⟩)) with hb56 | hb56
   ·
    have hb56' := of_decide_eq_true hb56
    refine sdo (v := .bool false) A (qi rfl rfl (fun w => (xd Tryz.underlying9 w).trans (by rw [hb56] <;> rfl))) λa A↦?_
    refine sdm A λa A↦?_
    iterate 3 refine qk A rfl rfl rfl λa A↦?_
    refine sdk (v := .bool false) A λa A↦?_
    refine sdm A λa A↦?_
    iterate 3 refine qk A rfl rfl rfl λa A↦?_
    refine sdk (v := .bool false) A λa A↦?_
    refine sdm A λa A↦?_
    iterate 3 refine qk A rfl rfl rfl λa A↦?_
    refine sdk (v := .bool false) A λa A↦?_
    refine qa (hK55 _ _ (wp_cond_false (A.ev rfl) ?_))
    refine wp_skip ?_
    exact hJ13 _ _ ⟨.inl hb56', A.keep _ ⟨rfl, rfl, trivial⟩, M⟩
   ·
    have hb56' := of_decide_eq_false hb56
    refine sdo (v := .bool true) A (qi rfl rfl (fun w => (xd Tryz.underlying9 w).trans (by rw [hb56] <;> rfl))) λa A↦?_
    refine sdm A λa A↦?_
    refine sdo (v := .pointer (some ⟨g2, 0, none⟩)) A (qb TrV_fld_42_0 rfl rfl) λa A↦?_
    refine sdo A (qh M TrV_is1_3 rfl 0 rfl rfl) λa A↦?_
    rcases tf ((d.k != 5)) with hb57 | hb57
    ·
     have hb57' := bne_iff_ne.1 hb57
     refine sdc A zi hb57 λa A↦?_
     refine sdk (v := .bool true) A λa A↦?_
     refine sdm A λa A↦?_
     refine sdo (v := .pointer (some ⟨g2, 0, none⟩)) A (qb TrV_fld_42_0 rfl rfl) λa A↦?_
     refine sdo A (qh M TrV_is1_3 rfl 0 rfl rfl) λa A↦?_
     rcases tf ((d.k != 6)) with hb58 | hb58
     ·
      have hb58' := bne_iff_ne.1 hb58
      refine sdc A zi hb58 λa A↦?_
      refine sdk (v := .bool true) A λa A↦?_
      refine sdm A λa A↦?_
      refine sdo (v := .pointer (some ⟨g2, 0, none⟩)) A (qb TrV_fld_42_0 rfl rfl) λa A↦?_
      refine sdo A (qh M TrV_is1_3 rfl 0 rfl rfl) λa A↦?_
      rcases tf ((d.k != 11)) with hb59 | hb59
      ·
       have hb59' := bne_iff_ne.1 hb59
       refine sdc A zi hb59 λa A↦?_
       refine sdk (v := .bool true) A λa A↦?_
       refine qa (hK55 _ _ (wp_cond_true (A.ev rfl) ?_))
       refine wsk fun K60 hK60 => wrl (sda A λa A↦?_)
       refine qa (hK60 _ _ (wp_ret (hret _ _ (en1 A rfl (qf rfl) ?_))))
       exact ⟨by rw [← hr, jq, sh4 hSA hSB ⟨hb56', by omega, by omega, by omega⟩], M.bel⟩
      ·
       have hb59' := bne_eq_false_iff_eq.1 hb59
       refine sdc A zi hb59 λa A↦?_
       refine sdk (v := .bool false) A λa A↦?_
       refine qa (hK55 _ _ (wp_cond_false (A.ev rfl) ?_))
       refine wp_skip ?_
       exact hJ13 _ _ ⟨.inr (by omega), A.keep _ ⟨rfl, rfl, trivial⟩, M⟩
     ·
      have hb58' := bne_eq_false_iff_eq.1 hb58
      refine sdc A zi hb58 λa A↦?_
      refine sdk (v := .bool false) A λa A↦?_
      refine sdm A λa A↦?_
      iterate 3 refine qk A rfl rfl rfl λa A↦?_
      refine sdk (v := .bool false) A λa A↦?_
      refine qa (hK55 _ _ (wp_cond_false (A.ev rfl) ?_))
      refine wp_skip ?_
      exact hJ13 _ _ ⟨.inr (by omega), A.keep _ ⟨rfl, rfl, trivial⟩, M⟩
    ·
     have hb57' := bne_eq_false_iff_eq.1 hb57
     refine sdc A zi hb57 λa A↦?_
     refine sdk (v := .bool false) A λa A↦?_
     refine sdm A λa A↦?_
     iterate 3 refine qk A rfl rfl rfl λa A↦?_
     refine sdk (v := .bool false) A λa A↦?_
     refine sdm A λa A↦?_
     iterate 3 refine qk A rfl rfl rfl λa A↦?_
     refine sdk (v := .bool false) A λa A↦?_
     refine qa (hK55 _ _ (wp_cond_false (A.ev rfl) ?_))
     refine wp_skip ?_
     exact hJ13 _ _ ⟨.inr (by omega), A.keep _ ⟨rfl, rfl, trivial⟩, M⟩
  refine wsk fun K61 hK61 => wrl (sdo (v := .pointer (some ⟨g2, 0, none⟩)) A (qb TrV_fld_42_0 rfl rfl) λa A↦?_)
  refine sdo A (qh M TrV_is1_3 rfl 0 rfl rfl) λa A↦?_
  rcases tf ((d.k == 3)) with hb62 | hb62
  ·
   have hb62' := eq_of_beq hb62
   refine sdc A qt hb62 λa A↦?_
   refine qa (hK61 _ _ (wp_cond_true (A.ev rfl) ?_))
   refine wsk fun K63 hK63 => wrl (sdo (v := .pointer (some ⟨g2, 2, none⟩)) A (qb TrV_fld_42_2 rfl rfl) λa A↦?_)
   refine sdo A (qy M TrV_isS_39 rfl 0 rfl (cs := [.bool d.y.q.b1, .slice d.y.o1 d.y.q.t1.length d.y.c1, .slice d.y.o2 d.y.q.q1.length d.y.c2, .bool d.y.q.b2, .slice d.y.o3 d.y.q.t2.length d.y.c3, .slice d.y.o4 d.y.q.q2.length d.y.c4]) rfl rfl) λa A↦?_
   rcases tf (vq d.y.q) with hb64 | hb64
   ·
    refine gcl A M (ef rfl rfl) (qgg (Nu.below hok.num M.bel) hok.len hb64) fun w66 hb65 M a A => ?_
    refine sdo (v := .bool false) A (zj rfl zq) λa A↦?_
    refine qa (hK63 _ _ (wp_cond_false (A.ev rfl) ?_))
    refine wp_skip ?_
    exact hJ9 _ _ ⟨⟨fun _ => hb64, fun h => absurd (show d.k = 3 by omega) h⟩, A.keep _ ⟨rfl, rfl, trivial⟩, M⟩
   ·
    refine gcl A M (ef rfl rfl) (qgg (Nu.below hok.num M.bel) hok.len hb64) fun w68 hb67 M a A => ?_
    refine sdo (v := .bool true) A (zj rfl zq) λa A↦?_
    refine qa (hK63 _ _ (wp_cond_true (A.ev rfl) ?_))
    refine wsk fun K69 hK69 => wrl (sda A λa A↦?_)
    refine qa (hK69 _ _ (wp_ret (hret _ _ (en1 A rfl (qf rfl) ?_))))
    exact ⟨by rw [← hr, jq, sh2 hSA (by omega) hb64], M.bel⟩
  ·
   have hb62' := ne_of_beq_false hb62
   refine sdc A qt hb62 λa A↦?_
   refine qa (hK61 _ _ (wp_cond_false (A.ev rfl) ?_))
   refine wsk fun K70 hK70 => wrl (sdo (v := .pointer (some ⟨g2, 2, none⟩)) A (qb TrV_fld_42_2 rfl rfl) λa A↦?_)
   refine sdo (v := .pointer (some ⟨g2, 2, none⟩)) A (qb TrV_fld_39_0 rfl rfl) λa A↦?_
   refine sdo A (qy M TrV_isS_37 rfl 0 rfl (cs := [.bool d.y.q.b1, .slice d.y.o1 d.y.q.t1.length d.y.c1, .slice d.y.o2 d.y.q.q1.length d.y.c2]) rfl rfl) λa A↦?_
   rcases tf (km d.y.q.b1 d.y.q.t1.length d.y.q.q1.length) with hb71 | hb71
   ·
    refine gcl A M (ef rfl rfl) (qba hok.len.l1 hok.len.l2 hb71) fun w73 hb72 M a A => ?_
    refine sdo (v := .bool false) A (zj rfl zq) λa A↦?_
    refine sdm A λa A↦?_
    refine sdo (v := .pointer (some ⟨g2, 2, none⟩)) A (qb TrV_fld_42_2 rfl rfl) λa A↦?_
    refine sdo (v := .pointer (some ⟨g2, 5, none⟩)) A (qb TrV_fld_39_1 rfl rfl) λa A↦?_
    refine sdo A (qy M TrV_isS_37 rfl 0 rfl (cs := [.bool d.y.q.b2, .slice d.y.o3 d.y.q.t2.length d.y.c3, .slice d.y.o4 d.y.q.q2.length d.y.c4]) rfl rfl) λa A↦?_
    rcases tf (km d.y.q.b2 d.y.q.t2.length d.y.q.q2.length) with hb74 | hb74
    ·
     refine gcl A M (ef rfl rfl) (qba hok.len.l3 hok.len.l4 hb74) fun w76 hb75 M a A => ?_
     refine sdo (v := .bool false) A (zj rfl zq) λa A↦?_
     refine sdk (v := .bool false) A λa A↦?_
     refine qa (hK70 _ _ (wp_cond_false (A.ev rfl) ?_))
     refine wp_skip ?_
     exact hJ9 _ _ ⟨⟨fun h => absurd h (by omega), fun _ => ⟨hb71, hb74⟩⟩, A.keep _ ⟨rfl, rfl, trivial⟩, M⟩
    ·
     refine gcl A M (ef rfl rfl) (qba hok.len.l3 hok.len.l4 hb74) fun w78 hb77 M a A => ?_
     refine sdo (v := .bool true) A (zj rfl zq) λa A↦?_
     refine sdk (v := .bool true) A λa A↦?_
     refine qa (hK70 _ _ (wp_cond_true (A.ev rfl) ?_))
     refine wsk fun K79 hK79 => wrl (sda A λa A↦?_)
     refine qa (hK79 _ _ (wp_ret (hret _ _ (en1 A rfl (qf rfl) ?_))))
     exact ⟨by rw [← hr, jq, sh3 hSA (by omega) (.inr hb74)], M.bel⟩
   ·
    refine gcl A M (ef rfl rfl) (qba hok.len.l1 hok.len.l2 hb71) fun w81 hb80 M a A => ?_
    refine sdo (v := .bool true) A (zj rfl zq) λa A↦?_
    refine sdm A λa A↦?_
    iterate 5 refine qk A rfl rfl rfl λa A↦?_
    refine sdk (v := .bool true) A λa A↦?_
    refine qa (hK70 _ _ (wp_cond_true (A.ev rfl) ?_))
    refine wsk fun K82 hK82 => wrl (sda A λa A↦?_)
    refine qa (hK82 _ _ (wp_ret (hret _ _ (en1 A rfl (qf rfl) ?_))))
    exact ⟨by rw [← hr, jq, sh3 hSA (by omega) (.inl hb71)], M.bel⟩
 refine wsk fun K83 hK83 => wrl (sdo (v := .pointer (some ⟨g2, 0, none⟩)) A (qb TrV_fld_42_0 rfl rfl) λa A↦?_)
 refine sdo A (qh M TrV_is1_3 rfl 0 rfl rfl) λa A↦?_
 rcases tf (decide (d.k < 1)) with hb84 | hb84
 ·
  have hb84' := of_decide_eq_true hb84
  refine sdc A za hb84 λa A↦?_
  refine sdm A λa A↦?_
  iterate 3 refine qk A rfl rfl rfl λa A↦?_
  refine sdk (v := .bool true) A λa A↦?_
  refine sdm A λa A↦?_
  iterate 4 refine qk A rfl rfl rfl λa A↦?_
  refine sdk (v := .bool true) A λa A↦?_
  refine qa (hK83 _ _ (wp_cond_true (A.ev rfl) ?_))
  refine wsk fun K85 hK85 => wrl (sda A λa A↦?_)
  refine qa (hK85 _ _ (wp_ret (hret _ _ (en1 A rfl (qf rfl) ?_))))
  exact ⟨by rw [← hr, jq, sh1 (by omega)], M.bel⟩
 ·
  have hb84' := of_decide_eq_false hb84
  refine sdc A za hb84 λa A↦?_
  refine sdm A λa A↦?_
  refine sdo (v := .pointer (some ⟨g2, 0, none⟩)) A (qb TrV_fld_42_0 rfl rfl) λa A↦?_
  refine sdo A (qh M TrV_is1_3 rfl 0 rfl rfl) λa A↦?_
  rcases tf (decide (11 < d.k)) with hb86 | hb86
  ·
   have hb86' := of_decide_eq_true hb86
   refine sdc A jj hb86 λa A↦?_
   refine sdk (v := .bool true) A λa A↦?_
   refine sdm A λa A↦?_
   iterate 4 refine qk A rfl rfl rfl λa A↦?_
   refine sdk (v := .bool true) A λa A↦?_
   refine qa (hK83 _ _ (wp_cond_true (A.ev rfl) ?_))
   refine wsk fun K87 hK87 => wrl (sda A λa A↦?_)
   refine qa (hK87 _ _ (wp_ret (hret _ _ (en1 A rfl (qf rfl) ?_))))
   exact ⟨by rw [← hr, jq, sh1 (by omega)], M.bel⟩
  ·
   have hb86' := of_decide_eq_false hb86
   refine sdc A jj hb86 λa A↦?_
   refine sdk (v := .bool false) A λa A↦?_
   refine sdm A λa A↦?_
   refine sdo (v := .pointer (some ⟨g2, 8, none⟩)) A (qb TrV_fld_42_3 rfl rfl) λa A↦?_
   refine sdo A (qh M TrV_is1_9 rfl 0 rfl rfl) λa A↦?_
   rcases tf (okS d.s) with hb88 | hb88
   ·
    refine gcl A M (ef rfl rfl) (qlj hs2 hb88) fun w90 hb89 M a A => ?_
    refine sdo (v := .bool false) A (zj rfl zq) λa A↦?_
    refine sdk (v := .bool false) A λa A↦?_
    refine qa (hK83 _ _ (wp_cond_false (A.ev rfl) ?_))
    refine wp_skip ?_
    exact hJ5 _ _ ⟨⟨by omega, by omega, hb88⟩, A.keep _ ⟨rfl, rfl, trivial⟩, M⟩
   ·
    refine gcl A M (ef rfl rfl) (qlj hs2 hb88) fun w92 hb91 M a A => ?_
    refine sdo (v := .bool true) A (zj rfl zq) λa A↦?_
    refine sdk (v := .bool true) A λa A↦?_
    refine qa (hK83 _ _ (wp_cond_true (A.ev rfl) ?_))
    refine wsk fun K93 hK93 => wrl (sda A λa A↦?_)
    refine qa (hK93 _ _ (wp_ret (hret _ _ (en1 A rfl (qf rfl) ?_))))
    exact ⟨by rw [← hr, jq, sh1 (.inr (.inr hb88))], M.bel⟩
theorem TrW_is1_3 : Is1 Tryz.prog 3 := ⟨⟨_, Tryz.underlying3, rfl⟩, by kernel_rfl⟩
theorem TrW_is1_34 : Is1 Tryz.prog 34 := ⟨⟨_, Tryz.underlying34, rfl⟩, by kernel_rfl⟩
theorem TrW_fld_42_0 : FieldAt Tryz.prog 42 0 0 := ⟨_, _, Tryz.underlying42, rfl, rfl, by kernel_rfl⟩
theorem TrW_fld_42_5 : FieldAt Tryz.prog 42 5 10 := ⟨_, _, Tryz.underlying42, rfl, rfl, by kernel_rfl⟩
theorem TrW_isS_42 : IsS Tryz.prog 42 11 := ⟨⟨_, Tryz.underlying42⟩, by kernel_rfl⟩
def Counts (t : Dt) : Prop := ∀ {w : World} {dp left : Int}, t.rd w → t.tr.bulk ≤ 4000000 → 0 ≤ left → left ≤ 20000 → 0 ≤ dp → dp ≤ 201 → Calls Tryz.prog 58 #[.agg t.cells.toArray, .int .i64 dp, .int .i64 left] w fun e w' => e = .returned (.int .i64 (qbc ja dp left t.tr)) ∧ Below w.heap.size w w'
theorem zgd : ∀ t : Dt, Counts t := Dt.indT fun d ts ih => by
 intro w dp left hrd hbk hl0 hl1 hd0 hd1
 have hok := (Dt.rd_iff.1 hrd)
 have hlen : ts.length ≤ 9223372036854775807 := Nat.le_trans hok.2.1 hok.2.2.1
 have M : Mg w w ([]) := Mg.start w
 refine qx (l := [(0, .agg (d.cells ts.length).toArray), (1, .int .i64 dp), (2, .int .i64 left)]) Tryz.func58 rfl Tryz.ntmps58 rfl rfl ?_
 intro Q hret hnorm hP a A
 refine wsk fun K1 hK1 => wrl (jb (vs := [.int .i64 d.k, .int .i64 d.n, .bool d.y.q.b1, .slice d.y.o1 d.y.q.t1.length d.y.c1, .slice d.y.o2 d.y.q.q1.length d.y.c2, .bool d.y.q.b2, .slice d.y.o3 d.y.q.t2.length d.y.c3, .slice d.y.o4 d.y.q.q2.length d.y.c4, .string d.s, .slice d.ro d.rl.length d.rc, .slice d.lo ts.length d.lc]) (t := 42) A M rfl rfl rfl pg (zh rfl rfl) (by decide) ?_)
 intro g2 w3 M a A
 refine sda A λa A↦?_
 refine qa (hK1 _ _ (wsk fun K4 hK4 => wsk fun K5 hK5 => wrl (sdm A λa A↦?_)))
 rcases tf (decide (200 < dp)) with hb6 | hb6
 ·
  have hb6' := of_decide_eq_true hb6
  refine sdc A jj hb6 λa A↦?_
  refine sdm A λa A↦?_
  iterate 2 refine qk A rfl rfl rfl λa A↦?_
  refine sdk (v := .bool true) A λa A↦?_
  refine sdm A λa A↦?_
  iterate 3 refine qk A rfl rfl rfl λa A↦?_
  refine sdk (v := .bool true) A λa A↦?_
  refine qa (hK5 _ _ (wp_cond_true (A.ev rfl) ?_))
  refine wsk fun K7 hK7 => wrl (sda A λa A↦?_)
  refine qa (hK7 _ _ (wp_ret (hret _ _ (en1 A rfl (qf rfl) ?_))))
  rw [qpj (by omega)]
  exact ⟨rfl, M.bel⟩
 ·
  have hb6' := of_decide_eq_false hb6
  refine sdc A jj hb6 λa A↦?_
  iterate 2 refine sdm A λa A↦?_
  rcases tf (decide (left ≤ 0)) with hb8 | hb8
  ·
   have hb8' := of_decide_eq_true hb8
   refine sdc A vp hb8 λa A↦?_
   refine sdk (v := .bool true) A λa A↦?_
   refine sdm A λa A↦?_
   iterate 3 refine qk A rfl rfl rfl λa A↦?_
   refine sdk (v := .bool true) A λa A↦?_
   refine qa (hK5 _ _ (wp_cond_true (A.ev rfl) ?_))
   refine wsk fun K9 hK9 => wrl (sda A λa A↦?_)
   refine qa (hK9 _ _ (wp_ret (hret _ _ (en1 A rfl (qf rfl) ?_))))
   rw [qpj (by omega)]
   exact ⟨rfl, M.bel⟩
  ·
   have hb8' := of_decide_eq_false hb8
   refine sdc A vp hb8 λa A↦?_
   refine sdk (v := .bool false) A λa A↦?_
   refine sdm A λa A↦?_
   refine sdo A (qy M TrW_isS_42 rfl 0 rfl (cs := [.int .i64 d.k, .int .i64 d.n, .bool d.y.q.b1, .slice d.y.o1 d.y.q.t1.length d.y.c1, .slice d.y.o2 d.y.q.q1.length d.y.c2, .bool d.y.q.b2, .slice d.y.o3 d.y.q.t2.length d.y.c3, .slice d.y.o4 d.y.q.q2.length d.y.c4, .string d.s, .slice d.ro d.rl.length d.rc, .slice d.lo ts.length d.lc]) rfl rfl) λa A↦?_
   rcases tf (jt d.k d.n d.y.q d.s d.rl.length ts.length) with hb10 | hb10
   ·
    refine gcl A M (ef rfl rfl) (qma (hok.1.below M.bel) (Nat.le_trans qni hbk) hlen hb10) fun w12 hb11 M a A => ?_
    refine sdo (v := .bool false) A (zj rfl zq) λa A↦?_
    refine sdk (v := .bool false) A λa A↦?_
    refine qa (hK5 _ _ (wp_cond_false (A.ev rfl) ?_))
    refine wp_skip (hK4 _ _ (wsk fun K13 hK13 => wrl (sdm A λa A↦?_)))
    refine sdo (v := .int .i64 (left - 1)) A (qi rfl rfl (xb (jg (by omega) (by omega)))) λa A↦?_
    refine sda A λa A↦?_
    refine qa (hK13 _ _ (wsk fun K14 hK14 => wsk fun K15 hK15 => wrl (sda A λa A↦?_)))
    refine qa (hK15 _ _ (wp_block (zt (fun m_ a w1 => ∃ (i : Nat) (m : Int), m_ = 1 + (ts.length - i) ∧ (i ≤ ts.length ∧ qdc ja dp (decide (d.k = 8)) 0 (left - 1) ((ts.map Dt.tr).drop 0) = qdc ja dp (decide (d.k = 8)) i m ((ts.map Dt.tr).drop i) ∧ -1 ≤ m ∧ m ≤ 20000) ∧ Sl a 52 [(0, .agg (d.cells ts.length).toArray), (1, .int .i64 dp), (2, .int .i64 m), (3, .pointer (some ⟨g2, 0, none⟩)), (6, .int .i64 0), (7, .int .i64 (((i : Nat) : Int))), (9, .int .i64 dp), (10, .bool false), (11, .bool false), (12, .int .i64 left), (13, .bool false), (14, .bool false), (15, .bool false), (16, .agg (d.cells ts.length).toArray), (17, .bool true), (18, .bool false), (19, .bool false), (20, .int .i64 left), (21, .int .i64 (left - 1))] ∧ Mg w w1 (.obj g2 (.cells (d.cells ts.length).toArray 42) :: [])) _ ⟨0, left - 1, rfl, ⟨Nat.zero_le _, rfl, by omega, by omega⟩, A.keep _ (by repeat' constructor), M⟩ ?_)))
    clear M A
    rintro m_ a w16 ⟨i, m, rfl, hinv18, A, M⟩ K17 hK17
    obtain ⟨hi0, hin9, hm0, hm1_⟩ := hinv18
    refine wsk fun K19 hK19 => wsk fun K20 hK20 => wrl (sdm A λa A↦?_)
    refine sdo (v := .pointer (some ⟨g2, 10, none⟩)) A (qb TrW_fld_42_5 rfl rfl) λa A↦?_
    refine sdo A (qh M TrW_is1_34 rfl 0 rfl rfl) λa A↦?_
    refine sdo A (qp Tryz.underlying34 rfl) λa A↦?_
    rcases tf (decide (((i : Nat) : Int) < ((ts.length : Nat) : Int))) with hb21 | hb21
    ·
     have hb21' := of_decide_eq_true hb21
     refine sdc A za hb21 λa A↦?_
     iterate 2 refine sdm A λa A↦?_
     rcases tf (decide (0 ≤ m)) with hb22 | hb22
     ·
      have hb22' := of_decide_eq_true hb22
      refine sdc A zk hb22 λa A↦?_
      refine sdk (v := .bool true) A λa A↦?_
      refine qa (hK20 _ _ (wp_cond_true (A.ev rfl) ?_))
      refine wp_skip (hK19 _ _ (wsk fun K23 hK23 => wp_block (wsk fun K24 hK24 => wrl (sdm A λa A↦?_))))
      refine sdo (v := .int .i64 (dp + 1)) A (qi rfl rfl (jc (jg (by omega) (by omega)))) λa A↦?_
      refine sda A λa A↦?_
      refine qa (hK24 _ _ (wsk fun K25 hK25 => wsk fun K26 hK26 => wrl (sdo (v := .pointer (some ⟨g2, 0, none⟩)) A (qb TrW_fld_42_0 rfl rfl) λa A↦?_)))
      refine sdo A (qh M TrW_is1_3 rfl 0 rfl rfl) λa A↦?_
      rcases tf ((d.k == 8)) with hb27 | hb27
      ·
       have hb27' := eq_of_beq hb27
       refine sdc A qt hb27 λa A↦?_
       iterate 2 refine sdm A λa A↦?_
       rcases tf ((((i : Nat) : Int) == 1)) with hb28 | hb28
       ·
        have hb28' := eq_of_beq hb28
        refine sdc A qt hb28 λa A↦?_
        refine sdk (v := .bool true) A λa A↦?_
        refine qa (hK26 _ _ (wp_cond_true (A.ev rfl) ?_))
        refine wrl (sdm A λa A↦?_)
        refine sda A λa A↦?_
        refine qa (hK25 _ _ ?_)
        obtain ⟨t1, b1, o1, hi1, hm1, hr1, hl1, hH1⟩ := kid hrd (i := i) (by omega)
        have hD : (if decide (d.k = 8) = true ∧ i = 1 then dp else dp + 1) = dp := if_pos ⟨decide_eq_true hb27', by omega⟩
        refine wrl (sdo (v := .pointer (some ⟨g2, 10, none⟩)) A (qb TrW_fld_42_5 rfl rfl) λa A↦?_)
        refine sdo A (qh M TrW_is1_34 rfl 0 rfl rfl) λa A↦?_
        refine sdm A λa A↦?_
        refine sdo (v := .pointer (some ⟨b1, o1 + i * 11, none⟩)) A (zb (k := i) Tryz.underlying34 (by kernel_rfl) rfl rfl rfl hl1 (by omega)) λa A↦?_
        refine sdo A (xa M hH1 TrW_isS_42 rfl rfl) λa A↦?_
        iterate 2 refine sdm A λa A↦?_
        refine gcl A M (ef rfl rfl) (ih t1 hm1 (Dt.keep M.bel _ hr1) (by have := qde (d := d) hm1; omega) (by omega) (by omega) (by omega) (by omega)) fun w30 hb29 M a A => ?_
        refine sda A λa A↦?_
        refine qa (hK23 _ _ (wrl (sdm A λa A↦?_)))
        refine sdo (v := .int .i64 (((i + 1 : Nat) : Int))) A (qi rfl rfl (fun w => (jc (jg (by omega) (by omega)) w).trans (by rw [show (((i : Nat) : Int) + 1 : Int) = ((i + 1 : Nat) : Int) from by omega]))) λa A↦?_
        refine sda A λa A↦?_
        refine qa ?_
        have hc9 := qxb ja t1.tr (dp) m (by omega)
        refine hK17 _ _ _ (by omega) ⟨i + 1, qbc ja (dp) m t1.tr, rfl, ⟨by omega, by rw [hin9, qqa hi1 (by omega) hD], by omega, by omega⟩, A.keep _ (by repeat' constructor), M⟩
       ·
        have hb28' := ne_of_beq_false hb28
        refine sdc A qt hb28 λa A↦?_
        refine sdk (v := .bool false) A λa A↦?_
        refine qa (hK26 _ _ (wp_cond_false (A.ev rfl) ?_))
        refine wp_skip (hK25 _ _ ?_)
        obtain ⟨t1, b1, o1, hi1, hm1, hr1, hl1, hH1⟩ := kid hrd (i := i) (by omega)
        have hD : (if decide (d.k = 8) = true ∧ i = 1 then dp else dp + 1) = dp + 1 := if_neg (fun e => by omega)
        refine wrl (sdo (v := .pointer (some ⟨g2, 10, none⟩)) A (qb TrW_fld_42_5 rfl rfl) λa A↦?_)
        refine sdo A (qh M TrW_is1_34 rfl 0 rfl rfl) λa A↦?_
        refine sdm A λa A↦?_
        refine sdo (v := .pointer (some ⟨b1, o1 + i * 11, none⟩)) A (zb (k := i) Tryz.underlying34 (by kernel_rfl) rfl rfl rfl hl1 (by omega)) λa A↦?_
        refine sdo A (xa M hH1 TrW_isS_42 rfl rfl) λa A↦?_
        iterate 2 refine sdm A λa A↦?_
        refine gcl A M (ef rfl rfl) (ih t1 hm1 (Dt.keep M.bel _ hr1) (by have := qde (d := d) hm1; omega) (by omega) (by omega) (by omega) (by omega)) fun w32 hb31 M a A => ?_
        refine sda A λa A↦?_
        refine qa (hK23 _ _ (wrl (sdm A λa A↦?_)))
        refine sdo (v := .int .i64 (((i + 1 : Nat) : Int))) A (qi rfl rfl (fun w => (jc (jg (by omega) (by omega)) w).trans (by rw [show (((i : Nat) : Int) + 1 : Int) = ((i + 1 : Nat) : Int) from by omega]))) λa A↦?_
        refine sda A λa A↦?_
        refine qa ?_
        have hc9 := qxb ja t1.tr (dp + 1) m (by omega)
        refine hK17 _ _ _ (by omega) ⟨i + 1, qbc ja (dp + 1) m t1.tr, rfl, ⟨by omega, by rw [hin9, qqa hi1 (by omega) hD], by omega, by omega⟩, A.keep _ (by repeat' constructor), M⟩
      ·
       have hb27' := ne_of_beq_false hb27
       refine sdc A qt hb27 λa A↦?_
       refine sdm A λa A↦?_
       iterate 2 refine qk A rfl rfl rfl λa A↦?_
       refine sdk (v := .bool false) A λa A↦?_
       refine qa (hK26 _ _ (wp_cond_false (A.ev rfl) ?_))
       refine wp_skip (hK25 _ _ ?_)
       obtain ⟨t1, b1, o1, hi1, hm1, hr1, hl1, hH1⟩ := kid hrd (i := i) (by omega)
       have hD : (if decide (d.k = 8) = true ∧ i = 1 then dp else dp + 1) = dp + 1 := if_neg (fun e => hb27' (of_decide_eq_true e.1))
       refine wrl (sdo (v := .pointer (some ⟨g2, 10, none⟩)) A (qb TrW_fld_42_5 rfl rfl) λa A↦?_)
       refine sdo A (qh M TrW_is1_34 rfl 0 rfl rfl) λa A↦?_
       refine sdm A λa A↦?_
       refine sdo (v := .pointer (some ⟨b1, o1 + i * 11, none⟩)) A (zb (k := i) Tryz.underlying34 (by kernel_rfl) rfl rfl rfl hl1 (by omega)) λa A↦?_
       refine sdo A (xa M hH1 TrW_isS_42 rfl rfl) λa A↦?_
       iterate 2 refine sdm A λa A↦?_
       refine gcl A M (ef rfl rfl) (ih t1 hm1 (Dt.keep M.bel _ hr1) (by have := qde (d := d) hm1; omega) (by omega) (by omega) (by omega) (by omega)) fun w34 hb33 M a A => ?_
       refine sda A λa A↦?_
       refine qa (hK23 _ _ (wrl (sdm A λa A↦?_)))
       refine sdo (v := .int .i64 (((i + 1 : Nat) : Int))) A (qi rfl rfl (fun w => (jc (jg (by omega) (by omega)) w).trans (by rw [show (((i : Nat) : Int) + 1 : Int) = ((i + 1 : Nat) : Int) from by omega]))) λa A↦?_
       refine sda A λa A↦?_
       refine qa ?_
       have hc9 := qxb ja t1.tr (dp + 1) m (by omega)
       refine hK17 _ _ _ (by omega) ⟨i + 1, qbc ja (dp + 1) m t1.tr, rfl, ⟨by omega, by rw [hin9, qqa hi1 (by omega) hD], by omega, by omega⟩, A.keep _ (by repeat' constructor), M⟩
     ·
      have hb22' := of_decide_eq_false hb22
      refine sdc A zk hb22 λa A↦?_
      refine sdk (v := .bool false) A λa A↦?_
      refine qa (hK20 _ _ (wp_cond_false (A.ev rfl) ?_))
      refine wp_exit (hK14 _ _ (wsk fun K35 hK35 => wrl (sdm A λa A↦?_)))
      refine sda A λa A↦?_
      refine qa (hK35 _ _ (wp_ret (hret _ _ (en1 A rfl (qf rfl) ?_))))
      rw [zaj (by omega) (by omega) (by rw [kx]; exact hb10), hin9, qig (by omega)]
      exact ⟨rfl, M.bel⟩
    ·
     have hb21' := of_decide_eq_false hb21
     refine sdc A za hb21 λa A↦?_
     refine sdm A λa A↦?_
     iterate 2 refine qk A rfl rfl rfl λa A↦?_
     refine sdk (v := .bool false) A λa A↦?_
     refine qa (hK20 _ _ (wp_cond_false (A.ev rfl) ?_))
     refine wp_exit (hK14 _ _ (wsk fun K36 hK36 => wrl (sdm A λa A↦?_)))
     refine sda A λa A↦?_
     refine qa (hK36 _ _ (wp_ret (hret _ _ (en1 A rfl (qf rfl) ?_))))
     rw [zaj (by omega) (by omega) (by rw [kx]; exact hb10), hin9, qaf (by omega), qdc]
     exact ⟨rfl, M.bel⟩
   ·
    refine gcl A M (ef rfl rfl) (qma (hok.1.below M.bel) (Nat.le_trans qni hbk) hlen hb10) fun w38 hb37 M a A => ?_
    refine sdo (v := .bool true) A (zj rfl zq) λa A↦?_
    refine sdk (v := .bool true) A λa A↦?_
    refine qa (hK5 _ _ (wp_cond_true (A.ev rfl) ?_))
    refine wsk fun K39 hK39 => wrl (sda A λa A↦?_)
    refine qa (hK39 _ _ (wp_ret (hret _ _ (en1 A rfl (qf rfl) ?_))))
    rw [qpj (.inr (.inr (by rw [kx]; exact hb10)))]
    exact ⟨rfl, M.bel⟩
theorem zge {w : World} {d : Nd} {ts : List Dt} (hrd : (Dt.mk d ts).rd w) (hbk : (Dt.mk d ts).tr.bulk ≤ 4000000) : Calls Tryz.prog 36 #[.agg (d.cells ts.length).toArray] w fun e w' => e = .returned (.bool (jn ja (Dt.mk d ts).tr)) ∧ Below w.heap.size w w' := by
 have M : Mg w w ([]) := Mg.start w
 refine qx (l := [(0, .agg (d.cells ts.length).toArray)]) Tryz.func36 rfl Tryz.ntmps36 rfl rfl ?_
 intro Q hret hnorm hP a A
 refine wsk fun K1 hK1 => wrl (jb (vs := [.int .i64 d.k, .int .i64 d.n, .bool d.y.q.b1, .slice d.y.o1 d.y.q.t1.length d.y.c1, .slice d.y.o2 d.y.q.q1.length d.y.c2, .bool d.y.q.b2, .slice d.y.o3 d.y.q.t2.length d.y.c3, .slice d.y.o4 d.y.q.q2.length d.y.c4, .string d.s, .slice d.ro d.rl.length d.rc, .slice d.lo ts.length d.lc]) (t := 42) A M rfl rfl rfl pg (zh rfl rfl) (by decide) ?_)
 intro g2 w3 M a A
 refine sda A λa A↦?_
 refine qa (hK1 _ _ (wsk fun K4 hK4 => wrl (sdo A (qy M TrW_isS_42 rfl 0 rfl (cs := [.int .i64 d.k, .int .i64 d.n, .bool d.y.q.b1, .slice d.y.o1 d.y.q.t1.length d.y.c1, .slice d.y.o2 d.y.q.q1.length d.y.c2, .bool d.y.q.b2, .slice d.y.o3 d.y.q.t2.length d.y.c3, .slice d.y.o4 d.y.q.q2.length d.y.c4, .string d.s, .slice d.ro d.rl.length d.rc, .slice d.lo ts.length d.lc]) rfl rfl) λa A↦?_)))
 refine gcl A M (ef rfl rfl) (zgd (Dt.mk d ts) (Dt.keep M.bel _ hrd) hbk (by omega) (by omega) (by omega) (by omega)) fun w5 hb9 M a A => ?_
 refine sdo (v := .bool (decide (0 ≤ qbc ja 1 20000 (Dt.mk d ts).tr))) A (qi rfl rfl zk) λa A↦?_
 refine sda A λa A↦?_
 refine qa (hK4 _ _ (wp_ret (hret _ _ (en1 A rfl (qf rfl) ?_))))
 exact ⟨by rw [← qsi], M.bel⟩
theorem rsound_any {w : World} {t : Dt} (hrd : t.rd w) (hbk : t.tr.bulk ≤ 4000000) : Calls Tryz.prog 36 #[.agg t.cells.toArray] w fun e w' => e = .returned (.bool (jn ja t.tr)) ∧ Below w.heap.size w w' := by
 obtain ⟨d, ts⟩ := t
 exact zge hrd hbk
theorem LiS_is1_3 : Is1 Tryz.prog 3 := ⟨⟨_, Tryz.underlying3, rfl⟩, by kernel_rfl⟩
theorem LiS_is1_34 : Is1 Tryz.prog 34 := ⟨⟨_, Tryz.underlying34, rfl⟩, by kernel_rfl⟩
theorem LiS_is1_40 : Is1 Tryz.prog 40 := ⟨⟨_, Tryz.underlying40, rfl⟩, by kernel_rfl⟩
theorem LiS_is1_5 : Is1 Tryz.prog 5 := ⟨⟨_, Tryz.underlying5, rfl⟩, by kernel_rfl⟩
theorem LiS_is1_9 : Is1 Tryz.prog 9 := ⟨⟨_, Tryz.underlying9, rfl⟩, by kernel_rfl⟩
theorem LiS_fld_42_0 : FieldAt Tryz.prog 42 0 0 := ⟨_, _, Tryz.underlying42, rfl, rfl, by kernel_rfl⟩
theorem LiS_fld_42_1 : FieldAt Tryz.prog 42 1 1 := ⟨_, _, Tryz.underlying42, rfl, rfl, by kernel_rfl⟩
theorem LiS_fld_42_2 : FieldAt Tryz.prog 42 2 2 := ⟨_, _, Tryz.underlying42, rfl, rfl, by kernel_rfl⟩
theorem LiS_fld_42_3 : FieldAt Tryz.prog 42 3 8 := ⟨_, _, Tryz.underlying42, rfl, rfl, by kernel_rfl⟩
theorem LiS_fld_42_4 : FieldAt Tryz.prog 42 4 9 := ⟨_, _, Tryz.underlying42, rfl, rfl, by kernel_rfl⟩
theorem LiS_fld_42_5 : FieldAt Tryz.prog 42 5 10 := ⟨_, _, Tryz.underlying42, rfl, rfl, by kernel_rfl⟩
theorem LiS_isS_39 : IsS Tryz.prog 39 6 := ⟨⟨_, Tryz.underlying39⟩, by kernel_rfl⟩
theorem LiS_isS_42 : IsS Tryz.prog 42 11 := ⟨⟨_, Tryz.underlying42⟩, by kernel_rfl⟩
theorem qmb {w : World} {t u : Dt} (ht : t.rd w) (hu : u.rd w) {b : Bool} (h : SQ2 t u = b) : Calls Tryz.prog 40 #[t.d.y.val, u.d.y.val] w fun e w' => e = .returned (.bool b) ∧ Below w.heap.size w w' := qzg (Dt.okT ht).1.num (Dt.okT ht).1.len (Dt.okT hu).1.num (Dt.okT hu).1.len h
def RSames (n : Nat) : Prop := ∀ {w : World} {t u : Dt}, t.tr.bulk < n → t.rd w → u.rd w → Calls Tryz.prog 15 #[.agg (t.d.cells t.ts.length).toArray, .agg (u.d.cells u.ts.length).toArray] w fun e w' => e = .returned (.bool (yz t.tr u.tr)) ∧ Below w.heap.size w w'
set_option maxHeartbeats 1000000 in
theorem qwd {n : Nat} (ih : RSames n) : RSames (n + 1) := by
 intro w t u hn ht hu
 have hlt := (Dt.okT ht).2
 have hrt : t.d.rl.length ≤ 9223372036854775807 := Nat.le_trans (Dt.okT ht).1.rcap (Dt.okT ht).1.rmax
 have M : Mg w w ([]) := Mg.start w
 refine qx (l := [(0, .agg (t.d.cells t.ts.length).toArray), (1, .agg (u.d.cells u.ts.length).toArray)]) Tryz.func15 rfl Tryz.ntmps15 rfl rfl ?_
 intro Q hret hnorm hP a A
 refine wsk fun K1 hK1 => wrl (jb (vs := (t.d.cells t.ts.length)) (t := 42) A M rfl rfl rfl pg (zh rfl rfl) (by decide) ?_)
 intro g2 w3 M a A
 refine jb (vs := (u.d.cells u.ts.length)) (t := 42) A M rfl rfl rfl pg (zh rfl rfl) (by decide) ?_
 intro g4 w5 M a A
 refine sda A λa A↦?_
 refine qa (hK1 _ _ (wsk fun K6 hK6 => wsk fun K7 hK7 => wrl (sdo (v := .pointer (some ⟨g2, 0, none⟩)) A (qb LiS_fld_42_0 rfl rfl) λa A↦?_)))
 refine sdo A (qh M LiS_is1_3 rfl 1 rfl rfl) λa A↦?_
 refine sdo (v := .pointer (some ⟨g4, 0, none⟩)) A (qb LiS_fld_42_0 rfl rfl) λa A↦?_
 refine sdo A (qh M LiS_is1_3 rfl 0 rfl rfl) λa A↦?_
 rcases tf ((t.d.k != u.d.k)) with hb8 | hb8
 ·
  have hb8' := bne_iff_ne.1 hb8
  refine sdc A zi hb8 λa A↦?_
  refine sdm A λa A↦?_
  iterate 5 refine qk A rfl rfl rfl λa A↦?_
  refine sdk (v := .bool true) A λa A↦?_
  refine sdm A λa A↦?_
  iterate 5 refine qk A rfl rfl rfl λa A↦?_
  refine sdk (v := .bool true) A λa A↦?_
  refine sdm A λa A↦?_
  iterate 7 refine qk A rfl rfl rfl λa A↦?_
  refine sdk (v := .bool true) A λa A↦?_
  refine sdm A λa A↦?_
  iterate 7 refine qk A rfl rfl rfl λa A↦?_
  refine sdk (v := .bool true) A λa A↦?_
  refine sdm A λa A↦?_
  iterate 6 refine qk A rfl rfl rfl λa A↦?_
  refine sdk (v := .bool true) A λa A↦?_
  refine qa (hK7 _ _ (wp_cond_true (A.ev rfl) ?_))
  refine wsk fun K9 hK9 => wrl (sda A λa A↦?_)
  refine qa (hK9 _ _ (wp_ret (hret _ _ (en1 A rfl (qf rfl) ?_))))
  exact ⟨by rw [un (.inl hb8')], M.bel⟩
 ·
  have hb8' := bne_eq_false_iff_eq.1 hb8
  refine sdc A zi hb8 λa A↦?_
  refine sdm A λa A↦?_
  refine sdo (v := .pointer (some ⟨g2, 1, none⟩)) A (qb LiS_fld_42_1 rfl rfl) λa A↦?_
  refine sdo A (qh M LiS_is1_3 rfl 1 rfl rfl) λa A↦?_
  refine sdo (v := .pointer (some ⟨g4, 1, none⟩)) A (qb LiS_fld_42_1 rfl rfl) λa A↦?_
  refine sdo A (qh M LiS_is1_3 rfl 0 rfl rfl) λa A↦?_
  rcases tf ((t.d.n != u.d.n)) with hb10 | hb10
  ·
   have hb10' := bne_iff_ne.1 hb10
   refine sdc A zi hb10 λa A↦?_
   refine sdk (v := .bool true) A λa A↦?_
   refine sdm A λa A↦?_
   iterate 5 refine qk A rfl rfl rfl λa A↦?_
   refine sdk (v := .bool true) A λa A↦?_
   refine sdm A λa A↦?_
   iterate 7 refine qk A rfl rfl rfl λa A↦?_
   refine sdk (v := .bool true) A λa A↦?_
   refine sdm A λa A↦?_
   iterate 7 refine qk A rfl rfl rfl λa A↦?_
   refine sdk (v := .bool true) A λa A↦?_
   refine sdm A λa A↦?_
   iterate 6 refine qk A rfl rfl rfl λa A↦?_
   refine sdk (v := .bool true) A λa A↦?_
   refine qa (hK7 _ _ (wp_cond_true (A.ev rfl) ?_))
   refine wsk fun K11 hK11 => wrl (sda A λa A↦?_)
   refine qa (hK11 _ _ (wp_ret (hret _ _ (en1 A rfl (qf rfl) ?_))))
   exact ⟨by rw [un (.inr (.inl hb10'))], M.bel⟩
  ·
   have hb10' := bne_eq_false_iff_eq.1 hb10
   refine sdc A zi hb10 λa A↦?_
   refine sdk (v := .bool false) A λa A↦?_
   refine sdm A λa A↦?_
   refine sdo (v := .pointer (some ⟨g2, 8, none⟩)) A (qb LiS_fld_42_3 rfl rfl) λa A↦?_
   refine sdo A (qh M LiS_is1_9 rfl 1 rfl rfl) λa A↦?_
   refine sdo (v := .pointer (some ⟨g4, 8, none⟩)) A (qb LiS_fld_42_3 rfl rfl) λa A↦?_
   refine sdo A (qh M LiS_is1_9 rfl 0 rfl rfl) λa A↦?_
   rcases tf (decide (t.d.s = u.d.s)) with hb12 | hb12
   ·
    have hb12' := of_decide_eq_true hb12
    refine sdo (v := .bool false) A (qi rfl rfl (fun w => (xd Tryz.underlying9 w).trans (by rw [hb12] <;> rfl))) λa A↦?_
    refine sdk (v := .bool false) A λa A↦?_
    refine sdm A λa A↦?_
    refine sdo (v := .pointer (some ⟨g2, 9, none⟩)) A (qb LiS_fld_42_4 rfl rfl) λa A↦?_
    refine sdo A (qh M LiS_is1_40 rfl 1 rfl rfl) λa A↦?_
    refine sdo A (qp Tryz.underlying40 rfl) λa A↦?_
    refine sdo (v := .pointer (some ⟨g4, 9, none⟩)) A (qb LiS_fld_42_4 rfl rfl) λa A↦?_
    refine sdo A (qh M LiS_is1_40 rfl 0 rfl rfl) λa A↦?_
    refine sdo A (qp Tryz.underlying40 rfl) λa A↦?_
    rcases tf ((((t.d.rl.length : Nat) : Int) != ((u.d.rl.length : Nat) : Int))) with hb13 | hb13
    ·
     have hb13' := bne_iff_ne.1 hb13
     refine sdc A zi hb13 λa A↦?_
     refine sdk (v := .bool true) A λa A↦?_
     refine sdm A λa A↦?_
     iterate 7 refine qk A rfl rfl rfl λa A↦?_
     refine sdk (v := .bool true) A λa A↦?_
     refine sdm A λa A↦?_
     iterate 6 refine qk A rfl rfl rfl λa A↦?_
     refine sdk (v := .bool true) A λa A↦?_
     refine qa (hK7 _ _ (wp_cond_true (A.ev rfl) ?_))
     refine wsk fun K14 hK14 => wrl (sda A λa A↦?_)
     refine qa (hK14 _ _ (wp_ret (hret _ _ (en1 A rfl (qf rfl) ?_))))
     exact ⟨by rw [un (.inr (.inr (.inr (.inl (fun e => hb13' (by rw [e]))))))], M.bel⟩
    ·
     have hb13' := bne_eq_false_iff_eq.1 hb13
     refine sdc A zi hb13 λa A↦?_
     refine sdk (v := .bool false) A λa A↦?_
     refine sdm A λa A↦?_
     refine sdo (v := .pointer (some ⟨g2, 10, none⟩)) A (qb LiS_fld_42_5 rfl rfl) λa A↦?_
     refine sdo A (qh M LiS_is1_34 rfl 1 rfl rfl) λa A↦?_
     refine sdo A (qp Tryz.underlying34 rfl) λa A↦?_
     refine sdo (v := .pointer (some ⟨g4, 10, none⟩)) A (qb LiS_fld_42_5 rfl rfl) λa A↦?_
     refine sdo A (qh M LiS_is1_34 rfl 0 rfl rfl) λa A↦?_
     refine sdo A (qp Tryz.underlying34 rfl) λa A↦?_
     rcases tf ((((t.ts.length : Nat) : Int) != ((u.ts.length : Nat) : Int))) with hb15 | hb15
     ·
      have hb15' := bne_iff_ne.1 hb15
      refine sdc A zi hb15 λa A↦?_
      refine sdk (v := .bool true) A λa A↦?_
      refine sdm A λa A↦?_
      iterate 6 refine qk A rfl rfl rfl λa A↦?_
      refine sdk (v := .bool true) A λa A↦?_
      refine qa (hK7 _ _ (wp_cond_true (A.ev rfl) ?_))
      refine wsk fun K16 hK16 => wrl (sda A λa A↦?_)
      refine qa (hK16 _ _ (wp_ret (hret _ _ (en1 A rfl (qf rfl) ?_))))
      exact ⟨by rw [un (.inr (.inr (.inr (.inr (.inl (fun e => hb15' (by rw [e])))))))], M.bel⟩
     ·
      have hb15' := bne_eq_false_iff_eq.1 hb15
      refine sdc A zi hb15 λa A↦?_
      refine sdk (v := .bool false) A λa A↦?_
      refine sdm A λa A↦?_
      refine sdo (v := .pointer (some ⟨g2, 2, none⟩)) A (qb LiS_fld_42_2 rfl rfl) λa A↦?_
      refine sdo A (qy M LiS_isS_39 rfl 1 rfl (cs := [.bool t.d.y.q.b1, .slice t.d.y.o1 t.d.y.q.t1.length t.d.y.c1, .slice t.d.y.o2 t.d.y.q.q1.length t.d.y.c2, .bool t.d.y.q.b2, .slice t.d.y.o3 t.d.y.q.t2.length t.d.y.c3, .slice t.d.y.o4 t.d.y.q.q2.length t.d.y.c4]) rfl rfl) λa A↦?_
      refine sdo (v := .pointer (some ⟨g4, 2, none⟩)) A (qb LiS_fld_42_2 rfl rfl) λa A↦?_
      refine sdo A (qy M LiS_isS_39 rfl 0 rfl (cs := [.bool u.d.y.q.b1, .slice u.d.y.o1 u.d.y.q.t1.length u.d.y.c1, .slice u.d.y.o2 u.d.y.q.q1.length u.d.y.c2, .bool u.d.y.q.b2, .slice u.d.y.o3 u.d.y.q.t2.length u.d.y.c3, .slice u.d.y.o4 u.d.y.q.q2.length u.d.y.c4]) rfl rfl) λa A↦?_
      rcases tf (SQ2 t u) with hb17 | hb17
      ·
       refine gcl A M (ef rfl rfl) (qmb (Dt.keep M.bel _ ht) (Dt.keep M.bel _ hu) hb17) fun w19 hb18 M a A => ?_
       refine sdo (v := .bool false) A (zj rfl zq) λa A↦?_
       refine sdk (v := .bool false) A λa A↦?_
       refine qa (hK7 _ _ (wp_cond_false (A.ev rfl) ?_))
       refine wp_skip (hK6 _ _ (wsk fun K20 hK20 => wsk fun K21 hK21 => wrl (sda A λa A↦?_)))
       refine qa (hK21 _ _ (wp_block (zt (fun m_ a w1 => ∃ (i : Nat), m_ = 1 + (t.d.rl.length - i) ∧ (i ≤ t.d.rl.length ∧ ∀ j, j < i → t.d.rl.getD j 0 = u.d.rl.getD j 0) ∧ Sl a 89 [(0, .agg (t.d.cells t.ts.length).toArray), (1, .agg (u.d.cells u.ts.length).toArray), (2, .pointer (some ⟨g2, 0, none⟩)), (3, .pointer (some ⟨g4, 0, none⟩)), (5, .int .i64 (((i : Nat) : Int))), (7, .pointer (some ⟨g2, 0, none⟩)), (8, .int .i64 t.d.k), (9, .pointer (some ⟨g4, 0, none⟩)), (10, .int .i64 u.d.k), (11, .bool false), (12, .bool false), (13, .pointer (some ⟨g2, 1, none⟩)), (14, .int .i64 t.d.n), (15, .pointer (some ⟨g4, 1, none⟩)), (16, .int .i64 u.d.n), (17, .bool false), (18, .bool false), (19, .bool false), (20, .pointer (some ⟨g2, 8, none⟩)), (21, .string t.d.s), (22, .pointer (some ⟨g4, 8, none⟩)), (23, .string u.d.s), (24, .bool false), (25, .bool false), (26, .bool false), (27, .pointer (some ⟨g2, 9, none⟩)), (28, .slice t.d.ro t.d.rl.length t.d.rc), (29, .int .i64 (((t.d.rl.length : Nat) : Int))), (30, .pointer (some ⟨g4, 9, none⟩)), (31, .slice u.d.ro u.d.rl.length u.d.rc), (32, .int .i64 (((u.d.rl.length : Nat) : Int))), (33, .bool false), (34, .bool false), (35, .bool false), (36, .pointer (some ⟨g2, 10, none⟩)), (37, .slice t.d.lo t.ts.length t.d.lc), (38, .int .i64 (((t.ts.length : Nat) : Int))), (39, .pointer (some ⟨g4, 10, none⟩)), (40, .slice u.d.lo u.ts.length u.d.lc), (41, .int .i64 (((u.ts.length : Nat) : Int))), (42, .bool false), (43, .bool false), (44, .bool false), (45, .pointer (some ⟨g2, 2, none⟩)), (46, .agg #[.bool t.d.y.q.b1, .slice t.d.y.o1 t.d.y.q.t1.length t.d.y.c1, .slice t.d.y.o2 t.d.y.q.q1.length t.d.y.c2, .bool t.d.y.q.b2, .slice t.d.y.o3 t.d.y.q.t2.length t.d.y.c3, .slice t.d.y.o4 t.d.y.q.q2.length t.d.y.c4]), (47, .pointer (some ⟨g4, 2, none⟩)), (48, .agg #[.bool u.d.y.q.b1, .slice u.d.y.o1 u.d.y.q.t1.length u.d.y.c1, .slice u.d.y.o2 u.d.y.q.q1.length u.d.y.c2, .bool u.d.y.q.b2, .slice u.d.y.o3 u.d.y.q.t2.length u.d.y.c3, .slice u.d.y.o4 u.d.y.q.q2.length u.d.y.c4]), (49, .bool true), (50, .bool false), (51, .bool false)] ∧ Mg w w1 (.obj g4 (.cells (u.d.cells u.ts.length).toArray 42) :: .obj g2 (.cells (t.d.cells t.ts.length).toArray 42) :: [])) _ ⟨0, rfl, ⟨Nat.zero_le _, fun j hj => absurd hj (Nat.not_lt_zero _)⟩, A.keep _ (by repeat' constructor), M⟩ ?_)))
       clear M A
       rintro m_ a w22 ⟨i, rfl, hinv24, A, M⟩ K23 hK23
       obtain ⟨hi0, hin8⟩ := hinv24
       refine wsk fun K25 hK25 => wsk fun K26 hK26 => wrl (sdm A λa A↦?_)
       refine sdo (v := .pointer (some ⟨g2, 9, none⟩)) A (qb LiS_fld_42_4 rfl rfl) λa A↦?_
       refine sdo A (qh M LiS_is1_40 rfl 1 rfl rfl) λa A↦?_
       refine sdo A (qp Tryz.underlying40 rfl) λa A↦?_
       rcases tf (decide (((i : Nat) : Int) < ((t.d.rl.length : Nat) : Int))) with hb27 | hb27
       ·
        have hb27' := of_decide_eq_true hb27
        refine sdc A za hb27 λa A↦?_
        refine qa (hK26 _ _ (wp_cond_true (A.ev rfl) ?_))
        refine wp_skip (hK25 _ _ (wsk fun K28 hK28 => wp_block (wsk fun K29 hK29 => zn (S := fun w1 => Mg w w1 (.obj g4 (.cells (u.d.cells u.ts.length).toArray 42) :: .obj g2 (.cells (t.d.cells t.ts.length).toArray 42) :: [])) (by kernel_rfl) ?_)))
        replace M := M.drew
        refine qe (v := .pointer (some ⟨g2, 9, none⟩)) A 0 rfl rfl rfl rfl hP (M.sub (cc (cc (List.nil_sublist _)))) (fun w1 M => qb LiS_fld_42_4 rfl rfl) λa A↦?_
        refine qe A 1 rfl rfl rfl rfl hP (M.sub (cc (cc (List.nil_sublist _)))) (fun w1 M => qh M LiS_is1_40 rfl 1 rfl rfl) λa A↦?_
        refine qe A 2 rfl rfl rfl rfl hP (M.sub (cc (cc (List.nil_sublist _)))) (fun w1 M => qr rfl) λa A↦?_
        obtain ⟨bt, ot, ht1, ht2, ht3⟩ := qhi (i := i) (Dt.okT ht).1.raw (by omega)
        refine qe (v := .pointer (some ⟨bt, ot + i, none⟩)) A 3 rfl rfl rfl rfl hP (M.sub (cc (cc (List.nil_sublist _)))) (fun w1 M => zp (k := i) Tryz.underlying40 (by kernel_rfl) rfl rfl rfl ht1 (by omega)) λa A↦?_
        refine qe A 4 rfl rfl rfl rfl hP (M.sub (cc (cc (List.nil_sublist _)))) (fun w1 M => qhc M ht2 (ht3 i (by omega)) LiS_is1_5 rfl) λa A↦?_
        refine qe (v := .pointer (some ⟨g4, 9, none⟩)) A 5 rfl rfl rfl rfl hP (M.sub (cc (cc (List.nil_sublist _)))) (fun w1 M => qb LiS_fld_42_4 rfl rfl) λa A↦?_
        refine qe A 6 rfl rfl rfl rfl hP (M.sub (cc (cc (List.nil_sublist _)))) (fun w1 M => qh M LiS_is1_40 rfl 0 rfl rfl) λa A↦?_
        refine qe A 7 rfl rfl rfl rfl hP (M.sub (cc (cc (List.nil_sublist _)))) (fun w1 M => qr rfl) λa A↦?_
        obtain ⟨bu, ou, hu1, hu2, hu3⟩ := qhi (i := i) (Dt.okT hu).1.raw (by omega)
        refine qe (v := .pointer (some ⟨bu, ou + i, none⟩)) A 8 rfl rfl rfl rfl hP (M.sub (cc (cc (List.nil_sublist _)))) (fun w1 M => zp (k := i) Tryz.underlying40 (by kernel_rfl) rfl rfl rfl hu1 (by omega)) λa A↦?_
        refine qe A 9 rfl rfl rfl rfl hP (M.sub (cc (cc (List.nil_sublist _)))) (fun w1 M => qhc M hu2 (hu3 i (by omega)) LiS_is1_5 rfl) λa A↦?_
        rcases tf (((((t.d.rl.getD i 0).toNat : Nat) : Int) != (((u.d.rl.getD i 0).toNat : Nat) : Int))) with hb30 | hb30
        ·
         have hb30' := bne_iff_ne.1 hb30
         refine qe (v := .bool true) A 10 rfl rfl rfl rfl hP (M.sub (cc (cc (List.nil_sublist _)))) (fun w1 M => qi rfl rfl (fun w => (zi w).trans (by rw [hb30]))) λa A↦?_
         refine zd (by kernel_rfl) ?_
         refine hK29 _ _ (wp_cond_true (A.ev rfl) ?_)
         refine wsk fun K31 hK31 => wrl (sda A λa A↦?_)
         refine qa (hK31 _ _ (wp_ret (hret _ _ (en1 A rfl (qf rfl) ?_))))
         exact ⟨by rw [un (.inr (.inr (.inr (.inl (zuf hb30')))))], M.bel⟩
        ·
         have hb30' := bne_eq_false_iff_eq.1 hb30
         refine qe (v := .bool false) A 10 rfl rfl rfl rfl hP (M.sub (cc (cc (List.nil_sublist _)))) (fun w1 M => qi rfl rfl (fun w => (zi w).trans (by rw [hb30]))) λa A↦?_
         refine zd (by kernel_rfl) ?_
         refine hK29 _ _ (wp_cond_false (A.ev rfl) ?_)
         refine wp_skip (hK28 _ _ (wrl (sdm A λa A↦?_)))
         refine sdo (v := .int .i64 (((i + 1 : Nat) : Int))) A (qi rfl rfl (fun w => (jc (jg (by omega) (by omega)) w).trans (by rw [show (((i : Nat) : Int) + 1 : Int) = ((i + 1 : Nat) : Int) from by omega]))) λa A↦?_
         refine sda A λa A↦?_
         refine qa ?_
         refine hK23 _ _ _ (by omega) ⟨i + 1, rfl, ⟨by omega, fun j hj => if h9 : j < i then hin8 j h9 else by have h8 : j = i := (by omega); subst h8; exact zug hb30'⟩, A.keep _ (by repeat' constructor), M⟩
       ·
        have hb27' := of_decide_eq_false hb27
        refine sdc A za hb27 λa A↦?_
        refine qa (hK26 _ _ (wp_cond_false (A.ev rfl) ?_))
        refine wp_exit (hK20 _ _ (wsk fun K32 hK32 => wsk fun K33 hK33 => wrl (sda A λa A↦?_)))
        refine qa (hK33 _ _ (wp_block ?_))
        have hrl : t.d.rl = u.d.rl := zga (by omega) (fun j hj => hin8 j (by omega))
        have hsy := zke hb8' hb10' hb12' hrl (by omega) hb17
        refine zt (fun m_ a w1 => ∃ (j : Nat), m_ = 1 + (t.ts.length - j) ∧ (j ≤ t.ts.length ∧ kq (t.ts.map Dt.tr) (u.ts.map Dt.tr) = kq ((t.ts.map Dt.tr).drop j) ((u.ts.map Dt.tr).drop j)) ∧ Sl a 89 [(0, .agg (t.d.cells t.ts.length).toArray), (1, .agg (u.d.cells u.ts.length).toArray), (2, .pointer (some ⟨g2, 0, none⟩)), (3, .pointer (some ⟨g4, 0, none⟩)), (5, .int .i64 (((i : Nat) : Int))), (6, .int .i64 (((j : Nat) : Int))), (7, .pointer (some ⟨g2, 0, none⟩)), (8, .int .i64 t.d.k), (9, .pointer (some ⟨g4, 0, none⟩)), (10, .int .i64 u.d.k), (11, .bool false), (12, .bool false), (13, .pointer (some ⟨g2, 1, none⟩)), (14, .int .i64 t.d.n), (15, .pointer (some ⟨g4, 1, none⟩)), (16, .int .i64 u.d.n), (17, .bool false), (18, .bool false), (19, .bool false), (20, .pointer (some ⟨g2, 8, none⟩)), (21, .string t.d.s), (22, .pointer (some ⟨g4, 8, none⟩)), (23, .string u.d.s), (24, .bool false), (25, .bool false), (26, .bool false), (27, .pointer (some ⟨g2, 9, none⟩)), (28, .slice t.d.ro t.d.rl.length t.d.rc), (29, .int .i64 (((t.d.rl.length : Nat) : Int))), (30, .pointer (some ⟨g4, 9, none⟩)), (31, .slice u.d.ro u.d.rl.length u.d.rc), (32, .int .i64 (((u.d.rl.length : Nat) : Int))), (33, .bool false), (34, .bool false), (35, .bool false), (36, .pointer (some ⟨g2, 10, none⟩)), (37, .slice t.d.lo t.ts.length t.d.lc), (38, .int .i64 (((t.ts.length : Nat) : Int))), (39, .pointer (some ⟨g4, 10, none⟩)), (40, .slice u.d.lo u.ts.length u.d.lc), (41, .int .i64 (((u.ts.length : Nat) : Int))), (42, .bool false), (43, .bool false), (44, .bool false), (45, .pointer (some ⟨g2, 2, none⟩)), (46, .agg #[.bool t.d.y.q.b1, .slice t.d.y.o1 t.d.y.q.t1.length t.d.y.c1, .slice t.d.y.o2 t.d.y.q.q1.length t.d.y.c2, .bool t.d.y.q.b2, .slice t.d.y.o3 t.d.y.q.t2.length t.d.y.c3, .slice t.d.y.o4 t.d.y.q.q2.length t.d.y.c4]), (47, .pointer (some ⟨g4, 2, none⟩)), (48, .agg #[.bool u.d.y.q.b1, .slice u.d.y.o1 u.d.y.q.t1.length u.d.y.c1, .slice u.d.y.o2 u.d.y.q.q1.length u.d.y.c2, .bool u.d.y.q.b2, .slice u.d.y.o3 u.d.y.q.t2.length u.d.y.c3, .slice u.d.y.o4 u.d.y.q.q2.length u.d.y.c4]), (49, .bool true), (50, .bool false), (51, .bool false), (52, .int .i64 (((i : Nat) : Int))), (53, .pointer (some ⟨g2, 9, none⟩)), (54, .slice t.d.ro t.d.rl.length t.d.rc), (55, .int .i64 (((t.d.rl.length : Nat) : Int))), (56, .bool false)] ∧ Mg w w1 (.obj g4 (.cells (u.d.cells u.ts.length).toArray 42) :: .obj g2 (.cells (t.d.cells t.ts.length).toArray 42) :: [])) _ ⟨0, rfl, ⟨Nat.zero_le _, rfl⟩, A.keep _ (by repeat' constructor), M⟩ ?_
        clear M A
        rintro m_ a w34 ⟨j, rfl, hinv36, A, M⟩ K35 hK35
        obtain ⟨hi1, hin9⟩ := hinv36
        refine wsk fun K37 hK37 => wsk fun K38 hK38 => wrl (sdm A λa A↦?_)
        refine sdo (v := .pointer (some ⟨g2, 10, none⟩)) A (qb LiS_fld_42_5 rfl rfl) λa A↦?_
        refine sdo A (qh M LiS_is1_34 rfl 1 rfl rfl) λa A↦?_
        refine sdo A (qp Tryz.underlying34 rfl) λa A↦?_
        rcases tf (decide (((j : Nat) : Int) < ((t.ts.length : Nat) : Int))) with hb39 | hb39
        ·
         have hb39' := of_decide_eq_true hb39
         refine sdc A za hb39 λa A↦?_
         refine qa (hK38 _ _ (wp_cond_true (A.ev rfl) ?_))
         refine wp_skip (hK37 _ _ (wsk fun K40 hK40 => wp_block (wsk fun K41 hK41 => ?_)))
         obtain ⟨t1, bt1, ot1, it1, mt1, rt1_, lt1, Ht1⟩ := ztb ht (i := j) (by omega)
         obtain ⟨u1, bu1, ou1, iu1, mu1, ru1_, lu1, Hu1⟩ := ztb hu (i := j) (by omega)
         refine zn (S := fun w1 => Mg w w1 (.obj g4 (.cells (u.d.cells u.ts.length).toArray 42) :: .obj g2 (.cells (t.d.cells t.ts.length).toArray 42) :: [])) (by kernel_rfl) ?_
         replace M := M.drew
         refine qe (v := .pointer (some ⟨g2, 10, none⟩)) A 0 rfl rfl rfl rfl hP (M.sub (cc (cc (List.nil_sublist _)))) (fun w1 M => qb LiS_fld_42_5 rfl rfl) λa A↦?_
         refine qe A 1 rfl rfl rfl rfl hP (M.sub (cc (cc (List.nil_sublist _)))) (fun w1 M => qh M LiS_is1_34 rfl 1 rfl rfl) λa A↦?_
         refine qe A 2 rfl rfl rfl rfl hP (M.sub (cc (cc (List.nil_sublist _)))) (fun w1 M => qr rfl) λa A↦?_
         refine qe (v := .pointer (some ⟨bt1, ot1 + j * 11, none⟩)) A 3 rfl rfl rfl rfl hP (M.sub (cc (cc (List.nil_sublist _)))) (fun w1 M => zb (k := j) Tryz.underlying34 (by kernel_rfl) rfl rfl rfl lt1 (by omega)) λa A↦?_
         refine qe A 4 rfl rfl rfl rfl hP (M.sub (cc (cc (List.nil_sublist _)))) (fun w1 M => xa M Ht1 LiS_isS_42 rfl rfl) λa A↦?_
         refine qe (v := .pointer (some ⟨g4, 10, none⟩)) A 5 rfl rfl rfl rfl hP (M.sub (cc (cc (List.nil_sublist _)))) (fun w1 M => qb LiS_fld_42_5 rfl rfl) λa A↦?_
         refine qe A 6 rfl rfl rfl rfl hP (M.sub (cc (cc (List.nil_sublist _)))) (fun w1 M => qh M LiS_is1_34 rfl 0 rfl rfl) λa A↦?_
         refine qe A 7 rfl rfl rfl rfl hP (M.sub (cc (cc (List.nil_sublist _)))) (fun w1 M => qr rfl) λa A↦?_
         refine qe (v := .pointer (some ⟨bu1, ou1 + j * 11, none⟩)) A 8 rfl rfl rfl rfl hP (M.sub (cc (cc (List.nil_sublist _)))) (fun w1 M => zb (k := j) Tryz.underlying34 (by kernel_rfl) rfl rfl rfl lu1 (by omega)) λa A↦?_
         refine qe A 9 rfl rfl rfl rfl hP (M.sub (cc (cc (List.nil_sublist _)))) (fun w1 M => xa M Hu1 LiS_isS_42 rfl rfl) λa A↦?_
         rcases tf (yz t1.tr u1.tr) with hb42 | hb42
         ·
          refine qw (by kernel_rfl) (jf A 10 rfl rfl rfl rfl (zg rfl rfl (fun w => by kernel_rfl)) ((hb42 ▸ ih (by have := zpj mt1; omega) (Dt.keep M.bel _ rt1_) (Dt.keep M.bel _ ru1_))) ?_)
          rintro _ w44 ⟨rfl, hb43⟩
          replace M := M.call hb43
          refine ⟨_, rfl, (M.sub (cc (cc (List.nil_sublist _)))), ?_⟩
          intro a A
          refine qe (v := .bool false) A 11 rfl rfl rfl rfl hP (M.sub (cc (cc (List.nil_sublist _)))) (fun w1 M => zj rfl zq) λa A↦?_
          refine zd (by kernel_rfl) ?_
          refine hK41 _ _ (wp_cond_false (A.ev rfl) ?_)
          refine wp_skip (hK40 _ _ (wrl (sdm A λa A↦?_)))
          refine sdo (v := .int .i64 (((j + 1 : Nat) : Int))) A (qi rfl rfl (fun w => (jc (jg (by omega) (by omega)) w).trans (by rw [show (((j : Nat) : Int) + 1 : Int) = ((j + 1 : Nat) : Int) from by omega]))) λa A↦?_
          refine sda A λa A↦?_
          refine qa ?_
          refine hK35 _ _ _ (by omega) ⟨j + 1, rfl, ⟨by omega, by rw [hin9, qvi it1 iu1, hb42, Bool.true_and]⟩, A.keep _ (by repeat' constructor), M⟩
         ·
          refine qw (by kernel_rfl) (jf A 10 rfl rfl rfl rfl (zg rfl rfl (fun w => by kernel_rfl)) ((hb42 ▸ ih (by have := zpj mt1; omega) (Dt.keep M.bel _ rt1_) (Dt.keep M.bel _ ru1_))) ?_)
          rintro _ w46 ⟨rfl, hb45⟩
          replace M := M.call hb45
          refine ⟨_, rfl, (M.sub (cc (cc (List.nil_sublist _)))), ?_⟩
          intro a A
          refine qe (v := .bool true) A 11 rfl rfl rfl rfl hP (M.sub (cc (cc (List.nil_sublist _)))) (fun w1 M => zj rfl zq) λa A↦?_
          refine zd (by kernel_rfl) ?_
          refine hK41 _ _ (wp_cond_true (A.ev rfl) ?_)
          refine wsk fun K47 hK47 => wrl (sda A λa A↦?_)
          refine qa (hK47 _ _ (wp_ret (hret _ _ (en1 A rfl (qf rfl) ?_))))
          exact ⟨by rw [hsy, hin9, qvi it1 iu1, hb42]; rfl, M.bel⟩
        ·
         have hb39' := of_decide_eq_false hb39
         refine sdc A za hb39 λa A↦?_
         refine qa (hK38 _ _ (wp_cond_false (A.ev rfl) ?_))
         refine wp_exit (hK32 _ _ (wsk fun K48 hK48 => wrl (sda A λa A↦?_)))
         refine qa (hK48 _ _ (wp_ret (hret _ _ (en1 A rfl (qf rfl) ?_))))
         exact ⟨by rw [hsy, hin9, zfj (by omega)], M.bel⟩
      ·
       refine gcl A M (ef rfl rfl) (qmb (Dt.keep M.bel _ ht) (Dt.keep M.bel _ hu) hb17) fun w50 hb49 M a A => ?_
       refine sdo (v := .bool true) A (zj rfl zq) λa A↦?_
       refine sdk (v := .bool true) A λa A↦?_
       refine qa (hK7 _ _ (wp_cond_true (A.ev rfl) ?_))
       refine wsk fun K51 hK51 => wrl (sda A λa A↦?_)
       refine qa (hK51 _ _ (wp_ret (hret _ _ (en1 A rfl (qf rfl) ?_))))
       exact ⟨by rw [un (.inr (.inr (.inr (.inr (.inr hb17)))))], M.bel⟩
   ·
    have hb12' := of_decide_eq_false hb12
    refine sdo (v := .bool true) A (qi rfl rfl (fun w => (xd Tryz.underlying9 w).trans (by rw [hb12] <;> rfl))) λa A↦?_
    refine sdk (v := .bool true) A λa A↦?_
    refine sdm A λa A↦?_
    iterate 7 refine qk A rfl rfl rfl λa A↦?_
    refine sdk (v := .bool true) A λa A↦?_
    refine sdm A λa A↦?_
    iterate 7 refine qk A rfl rfl rfl λa A↦?_
    refine sdk (v := .bool true) A λa A↦?_
    refine sdm A λa A↦?_
    iterate 6 refine qk A rfl rfl rfl λa A↦?_
    refine sdk (v := .bool true) A λa A↦?_
    refine qa (hK7 _ _ (wp_cond_true (A.ev rfl) ?_))
    refine wsk fun K52 hK52 => wrl (sda A λa A↦?_)
    refine qa (hK52 _ _ (wp_ret (hret _ _ (en1 A rfl (qf rfl) ?_))))
    exact ⟨by rw [un (.inr (.inr (.inl hb12')))], M.bel⟩
theorem qmc : ∀ n, RSames n
 | 0 => fun h => absurd h (Nat.not_lt_zero _)
 | n + 1 => qwd (qmc n)
end Go.Proofs.YtokgmpjblnpjmaaGreatDoor.G
