/- RxE ExN RfA RfB RfC RfD RfE RfF SmA -/
import Derived.Test.YtclkfideaameoaaGreatDoorPdatumb11d
set_option linter.unusedVariables false
set_option linter.unusedSimpArgs false
set_option maxHeartbeats 1000000
namespace Go.Proofs.YtclkfideaameoaaGreatDoor
open Go.RowKit
set_option maxRecDepth 100000
theorem RxE_isS_121 : IsS Tryz.prog 121 3 := ⟨⟨_, Tryz.underlying121⟩, by kernel_rfl⟩
theorem RxE_isS_146 : IsS Tryz.prog 146 2 := ⟨⟨_, Tryz.underlying146⟩, by kernel_rfl⟩
theorem RxE_isS_26 : IsS Tryz.prog 26 6 := ⟨⟨_, Tryz.underlying26⟩, by kernel_rfl⟩
theorem zcj {w : World} {r : Nat} {n m : Nl} (hr : RadN r) (hl1 : n.2.1.length ≤ 9223372036854775807) (hl2 : n.2.2.length ≤ 9223372036854775807) (hk1 : m.2.1.length ≤ 9223372036854775807) (hk2 : m.2.2.length ≤ 9223372036854775807) (h1 : xr r n ≠ 0) (h2 : xr r m ≠ 0) : Calls Tryz.prog 94 #[.agg #[.int .u8 (((n.1 : Nat) : Int)), .string (bsL n.2.1), .string (bsL n.2.2)], .agg #[.int .u8 (((m.1 : Nat) : Int)), .string (bsL m.2.1), .string (bsL m.2.2)], iV ((r : Nat) : Int)] w (AnsN w (xm r n m)) := by
 have V : St w w [] [] [] := St.start w
 refine qr (l := [(0, .agg #[.int .u8 (((n.1 : Nat) : Int)), .string (bsL n.2.1), .string (bsL n.2.2)]), (1, .agg #[.int .u8 (((m.1 : Nat) : Int)), .string (bsL m.2.1), .string (bsL m.2.2)]), (2, iV (((r : Nat) : Int)))]) Tryz.func94 rfl Tryz.ntmps94 rfl rfl ?_
 intro Q hret hnorm hP a A
 refine wsk fun K1 hK1 => wrl (qz A V rfl rfl rfl pg (zg rfl rfl) rfl ?_)
 intro g2 w3 V a A
 refine qz A V rfl rfl rfl pg (zg rfl rfl) rfl ?_
 intro g4 w5 V a A
 refine qz (vs := [bV false, .slice none 0 0, .slice none 0 0, bV false, .slice none 0 0, .slice none 0 0]) (t := 26) A V rfl rfl rfl pg (ql (z := .agg #[bV false, .slice none 0 0, .slice none 0 0, bV false, .slice none 0 0, .slice none 0 0]) (by kernel_rfl) rfl) rfl ?_
 intro g6 w7 V a A
 refine sda A λa A↦?_
 refine qa (hK1 _ _ (wsk fun K8 hK8 => wrl (sdo A (qk V RxE_isS_121 rfl 2 rfl (cs := [.int .u8 (((n.1 : Nat) : Int)), .string (bsL n.2.1), .string (bsL n.2.2)]) rfl rfl) λa A↦?_)))
 refine sdm A λa A↦?_
 refine sct A (ef rfl rfl) (qbc hr hl1 hl2 h1) ?_
 rintro _ w10 ⟨rfl, hb9⟩
 replace V := V.call hb9
 refine ⟨_, rfl, ?_⟩
 intro a A
 refine sdm A λa A↦?_
 iterate 3 refine sdo A (qh (vs := [.agg #[bV false, .slice none 0 0], .slice none 0 0, iV ((xr r n))]) rfl rfl) λa A↦?_
 refine qz (vs := [bV false, .slice none 0 0]) (t := 146) A V rfl rfl rfl pg (ql (z := .agg #[bV false, .slice none 0 0]) (by kernel_rfl) rfl) rfl ?_
 intro g11 w12 V a A
 refine qn (us := [bV false, .slice none 0 0]) A V rfl rfl (qf rfl rfl rfl (by kernel_rfl) V 0 rfl rfl rfl) 0 rfl rfl rfl rfl ?_
 intro w13 V
 iterate 2 refine sda A λa A↦?_
 refine qa (hK8 _ _ (wsk fun K14 hK14 => wrl (sdo A (qk V RxE_isS_121 rfl 2 rfl (cs := [.int .u8 (((m.1 : Nat) : Int)), .string (bsL m.2.1), .string (bsL m.2.2)]) rfl rfl) λa A↦?_)))
 refine sdm A λa A↦?_
 refine sct A (ef rfl rfl) (qbc hr hk1 hk2 h2) ?_
 rintro _ w16 ⟨rfl, hb15⟩
 replace V := V.call hb15
 refine ⟨_, rfl, ?_⟩
 intro a A
 refine sdm A λa A↦?_
 iterate 3 refine sdo A (qh (vs := [.agg #[bV false, .slice none 0 0], .slice none 0 0, iV ((xr r m))]) rfl rfl) λa A↦?_
 refine qz (vs := [bV false, .slice none 0 0]) (t := 146) A V rfl rfl rfl pg (ql (z := .agg #[bV false, .slice none 0 0]) (by kernel_rfl) rfl) rfl ?_
 intro g17 w18 V a A
 refine qn (us := [bV false, .slice none 0 0]) A V rfl rfl (qf rfl rfl rfl (by kernel_rfl) V 0 rfl rfl rfl) 0 rfl rfl rfl rfl ?_
 intro w19 V
 iterate 2 refine sda A λa A↦?_
 refine qa (hK14 _ _ (wsk fun K20 hK20 => wsk fun K21 hK21 => wrl (mv A rfl rfl rfl λa A↦?_)))
 refine sdo (v := bV true) A (qb rfl rfl (fun w => (zm w).trans (by rw [show (((xr r n) != 0)) = true from (bne_iff_ne.2 h1)]))) λa A↦?_
 refine sdm A λa A↦?_
 iterate 2 refine qi A rfl rfl rfl λa A↦?_
 refine sdk (v := bV true) A λa A↦?_
 refine qa (hK21 _ _ (ct A ?_))
 refine wsk fun K22 hK22 => wrl (sdo (v := .agg #[bV false, .slice none 0 0, .slice none 0 0, bV false, .slice none 0 0, .slice none 0 0]) A (qw rfl (fun w => by kernel_rfl)) λa A↦?_)
 refine qn (us := [bV false, .slice none 0 0, .slice none 0 0, bV false, .slice none 0 0, .slice none 0 0]) A V rfl rfl (qf rfl rfl rfl (by kernel_rfl) V 2 rfl rfl rfl) 2 rfl rfl rfl rfl ?_
 intro w23 V
 refine sda A λa A↦?_
 refine qa (hK22 _ _ (wp_ret (hret _ _ (en2 A rfl (qx V RxE_isS_26 rfl 2 rfl (cs := [bV false, .slice none 0 0, .slice none 0 0, bV false, .slice none 0 0, .slice none 0 0]) rfl rfl) (qg rfl) ?_))))
 rw [qfa (by first | exact Or.inl h1 | exact Or.inr h2)]
 exact ⟨none, 0, none, 0, none, 0, none, 0, rfl, ⟨Sc.none _, Sc.none _, Sc.none _, Sc.none _⟩, V.bel⟩
theorem zda {w : World} {r : Nat} {n m : Nl} (hr : RadN r) (hl1 : n.2.1.length ≤ 9223372036854775807) (hl2 : n.2.2.length ≤ 9223372036854775807) (hk1 : m.2.1.length ≤ 9223372036854775807) (hk2 : m.2.2.length ≤ 9223372036854775807) (h1 : xr r n ≠ 0) (h2 : xr r m = 0) : Calls Tryz.prog 94 #[.agg #[.int .u8 (((n.1 : Nat) : Int)), .string (bsL n.2.1), .string (bsL n.2.2)], .agg #[.int .u8 (((m.1 : Nat) : Int)), .string (bsL m.2.1), .string (bsL m.2.2)], iV ((r : Nat) : Int)] w (AnsN w (xm r n m)) := by
 have V : St w w [] [] [] := St.start w
 refine qr (l := [(0, .agg #[.int .u8 (((n.1 : Nat) : Int)), .string (bsL n.2.1), .string (bsL n.2.2)]), (1, .agg #[.int .u8 (((m.1 : Nat) : Int)), .string (bsL m.2.1), .string (bsL m.2.2)]), (2, iV (((r : Nat) : Int)))]) Tryz.func94 rfl Tryz.ntmps94 rfl rfl ?_
 intro Q hret hnorm hP a A
 refine wsk fun K1 hK1 => wrl (qz A V rfl rfl rfl pg (zg rfl rfl) rfl ?_)
 intro g2 w3 V a A
 refine qz A V rfl rfl rfl pg (zg rfl rfl) rfl ?_
 intro g4 w5 V a A
 refine qz (vs := [bV false, .slice none 0 0, .slice none 0 0, bV false, .slice none 0 0, .slice none 0 0]) (t := 26) A V rfl rfl rfl pg (ql (z := .agg #[bV false, .slice none 0 0, .slice none 0 0, bV false, .slice none 0 0, .slice none 0 0]) (by kernel_rfl) rfl) rfl ?_
 intro g6 w7 V a A
 refine sda A λa A↦?_
 refine qa (hK1 _ _ (wsk fun K8 hK8 => wrl (sdo A (qk V RxE_isS_121 rfl 2 rfl (cs := [.int .u8 (((n.1 : Nat) : Int)), .string (bsL n.2.1), .string (bsL n.2.2)]) rfl rfl) λa A↦?_)))
 refine sdm A λa A↦?_
 refine sct A (ef rfl rfl) (qbc hr hl1 hl2 h1) ?_
 rintro _ w10 ⟨rfl, hb9⟩
 replace V := V.call hb9
 refine ⟨_, rfl, ?_⟩
 intro a A
 refine sdm A λa A↦?_
 iterate 3 refine sdo A (qh (vs := [.agg #[bV false, .slice none 0 0], .slice none 0 0, iV ((xr r n))]) rfl rfl) λa A↦?_
 refine qz (vs := [bV false, .slice none 0 0]) (t := 146) A V rfl rfl rfl pg (ql (z := .agg #[bV false, .slice none 0 0]) (by kernel_rfl) rfl) rfl ?_
 intro g11 w12 V a A
 refine qn (us := [bV false, .slice none 0 0]) A V rfl rfl (qf rfl rfl rfl (by kernel_rfl) V 0 rfl rfl rfl) 0 rfl rfl rfl rfl ?_
 intro w13 V
 iterate 2 refine sda A λa A↦?_
 refine qa (hK8 _ _ (wsk fun K14 hK14 => wrl (sdo A (qk V RxE_isS_121 rfl 2 rfl (cs := [.int .u8 (((m.1 : Nat) : Int)), .string (bsL m.2.1), .string (bsL m.2.2)]) rfl rfl) λa A↦?_)))
 refine sdm A λa A↦?_
 refine sct A (ef rfl rfl) (yy (n := m) hr hk1 hk2 (zx h2).1 (zx h2).2) ?_
 rintro _ w22 ⟨zo15, zc16, zo17, zc18, rfl, hs19, hs20, hb21⟩
 replace V := V.call hb21
 replace V := V.addR hs19.rd
 replace V := V.addR hs20.rd
 refine ⟨_, rfl, ?_⟩
 intro a A
 refine sdm A λa A↦?_
 iterate 3 refine sdo A (qh (vs := [.agg #[bV ((rb (sgn (decide (m.1 = 45)) (zf r m.2.1)))), .slice zo15 ((words (sgn (decide (m.1 = 45)) (zf r m.2.1)).natAbs).length) zc16], .slice zo17 ((words (zf r m.2.2)).length) zc18, iV 0]) rfl rfl) λa A↦?_
 refine qz (vs := [bV false, .slice none 0 0]) (t := 146) A V rfl rfl rfl pg (ql (z := .agg #[bV false, .slice none 0 0]) (by kernel_rfl) rfl) rfl ?_
 intro g23 w24 V a A
 refine qn (us := [bV ((rb (sgn (decide (m.1 = 45)) (zf r m.2.1)))), .slice zo15 ((words (sgn (decide (m.1 = 45)) (zf r m.2.1)).natAbs).length) zc16]) A V rfl rfl (qf rfl rfl rfl (by kernel_rfl) V 0 rfl rfl rfl) 0 rfl rfl rfl rfl ?_
 intro w25 V
 iterate 2 refine sda A λa A↦?_
 refine qa (hK14 _ _ (wsk fun K26 hK26 => wsk fun K27 hK27 => wrl (mv A rfl rfl rfl λa A↦?_)))
 refine sdo (v := bV true) A (qb rfl rfl (fun w => (zm w).trans (by rw [show (((xr r n) != 0)) = true from (bne_iff_ne.2 h1)]))) λa A↦?_
 refine sdm A λa A↦?_
 iterate 2 refine qi A rfl rfl rfl λa A↦?_
 refine sdk (v := bV true) A λa A↦?_
 refine qa (hK27 _ _ (ct A ?_))
 refine wsk fun K28 hK28 => wrl (sdo (v := .agg #[bV false, .slice none 0 0, .slice none 0 0, bV false, .slice none 0 0, .slice none 0 0]) A (qw rfl (fun w => by kernel_rfl)) λa A↦?_)
 refine qn (us := [bV false, .slice none 0 0, .slice none 0 0, bV false, .slice none 0 0, .slice none 0 0]) A V rfl rfl (qf rfl rfl rfl (by kernel_rfl) V 2 rfl rfl rfl) 2 rfl rfl rfl rfl ?_
 intro w29 V
 refine sda A λa A↦?_
 refine qa (hK28 _ _ (wp_ret (hret _ _ (en2 A rfl (qx V RxE_isS_26 rfl 2 rfl (cs := [bV false, .slice none 0 0, .slice none 0 0, bV false, .slice none 0 0, .slice none 0 0]) rfl rfl) (qg rfl) ?_))))
 rw [qfa (by first | exact Or.inl h1 | exact Or.inr h2)]
 exact ⟨none, 0, none, 0, none, 0, none, 0, rfl, ⟨Sc.none _, Sc.none _, Sc.none _, Sc.none _⟩, V.bel⟩
theorem zdb {w : World} {r : Nat} {n m : Nl} (hr : RadN r) (hl1 : n.2.1.length ≤ 9223372036854775807) (hl2 : n.2.2.length ≤ 9223372036854775807) (hk1 : m.2.1.length ≤ 9223372036854775807) (hk2 : m.2.2.length ≤ 9223372036854775807) (h1 : xr r n = 0) (h2 : xr r m ≠ 0) : Calls Tryz.prog 94 #[.agg #[.int .u8 (((n.1 : Nat) : Int)), .string (bsL n.2.1), .string (bsL n.2.2)], .agg #[.int .u8 (((m.1 : Nat) : Int)), .string (bsL m.2.1), .string (bsL m.2.2)], iV ((r : Nat) : Int)] w (AnsN w (xm r n m)) := by
 have V : St w w [] [] [] := St.start w
 refine qr (l := [(0, .agg #[.int .u8 (((n.1 : Nat) : Int)), .string (bsL n.2.1), .string (bsL n.2.2)]), (1, .agg #[.int .u8 (((m.1 : Nat) : Int)), .string (bsL m.2.1), .string (bsL m.2.2)]), (2, iV (((r : Nat) : Int)))]) Tryz.func94 rfl Tryz.ntmps94 rfl rfl ?_
 intro Q hret hnorm hP a A
 refine wsk fun K1 hK1 => wrl (qz A V rfl rfl rfl pg (zg rfl rfl) rfl ?_)
 intro g2 w3 V a A
 refine qz A V rfl rfl rfl pg (zg rfl rfl) rfl ?_
 intro g4 w5 V a A
 refine qz (vs := [bV false, .slice none 0 0, .slice none 0 0, bV false, .slice none 0 0, .slice none 0 0]) (t := 26) A V rfl rfl rfl pg (ql (z := .agg #[bV false, .slice none 0 0, .slice none 0 0, bV false, .slice none 0 0, .slice none 0 0]) (by kernel_rfl) rfl) rfl ?_
 intro g6 w7 V a A
 refine sda A λa A↦?_
 refine qa (hK1 _ _ (wsk fun K8 hK8 => wrl (sdo A (qk V RxE_isS_121 rfl 2 rfl (cs := [.int .u8 (((n.1 : Nat) : Int)), .string (bsL n.2.1), .string (bsL n.2.2)]) rfl rfl) λa A↦?_)))
 refine sdm A λa A↦?_
 refine sct A (ef rfl rfl) (yy (n := n) hr hl1 hl2 (zx h1).1 (zx h1).2) ?_
 rintro _ w16 ⟨zo9, zc10, zo11, zc12, rfl, hs13, hs14, hb15⟩
 replace V := V.call hb15
 replace V := V.addR hs13.rd
 replace V := V.addR hs14.rd
 refine ⟨_, rfl, ?_⟩
 intro a A
 refine sdm A λa A↦?_
 iterate 3 refine sdo A (qh (vs := [.agg #[bV ((rb (sgn (decide (n.1 = 45)) (zf r n.2.1)))), .slice zo9 ((words (sgn (decide (n.1 = 45)) (zf r n.2.1)).natAbs).length) zc10], .slice zo11 ((words (zf r n.2.2)).length) zc12, iV 0]) rfl rfl) λa A↦?_
 refine qz (vs := [bV false, .slice none 0 0]) (t := 146) A V rfl rfl rfl pg (ql (z := .agg #[bV false, .slice none 0 0]) (by kernel_rfl) rfl) rfl ?_
 intro g17 w18 V a A
 refine qn (us := [bV ((rb (sgn (decide (n.1 = 45)) (zf r n.2.1)))), .slice zo9 ((words (sgn (decide (n.1 = 45)) (zf r n.2.1)).natAbs).length) zc10]) A V rfl rfl (qf rfl rfl rfl (by kernel_rfl) V 0 rfl rfl rfl) 0 rfl rfl rfl rfl ?_
 intro w19 V
 iterate 2 refine sda A λa A↦?_
 refine qa (hK8 _ _ (wsk fun K20 hK20 => wrl (sdo A (qk V RxE_isS_121 rfl 2 rfl (cs := [.int .u8 (((m.1 : Nat) : Int)), .string (bsL m.2.1), .string (bsL m.2.2)]) rfl rfl) λa A↦?_)))
 refine sdm A λa A↦?_
 refine sct A (ef rfl rfl) (qbc hr hk1 hk2 h2) ?_
 rintro _ w22 ⟨rfl, hb21⟩
 replace V := V.call hb21
 refine ⟨_, rfl, ?_⟩
 intro a A
 refine sdm A λa A↦?_
 iterate 3 refine sdo A (qh (vs := [.agg #[bV false, .slice none 0 0], .slice none 0 0, iV ((xr r m))]) rfl rfl) λa A↦?_
 refine qz (vs := [bV false, .slice none 0 0]) (t := 146) A V rfl rfl rfl pg (ql (z := .agg #[bV false, .slice none 0 0]) (by kernel_rfl) rfl) rfl ?_
 intro g23 w24 V a A
 refine qn (us := [bV false, .slice none 0 0]) A V rfl rfl (qf rfl rfl rfl (by kernel_rfl) V 0 rfl rfl rfl) 0 rfl rfl rfl rfl ?_
 intro w25 V
 iterate 2 refine sda A λa A↦?_
 refine qa (hK20 _ _ (wsk fun K26 hK26 => wsk fun K27 hK27 => wrl (mv A rfl rfl rfl λa A↦?_)))
 refine sdo (v := bV false) A dbK λa A↦?_
 iterate 2 refine sdm A λa A↦?_
 refine sdo (v := bV true) A (qb rfl rfl (fun w => (zm w).trans (by rw [show (((xr r m) != 0)) = true from (bne_iff_ne.2 h2)]))) λa A↦?_
 refine sdk (v := bV true) A λa A↦?_
 refine qa (hK27 _ _ (ct A ?_))
 refine wsk fun K28 hK28 => wrl (sdo (v := .agg #[bV false, .slice none 0 0, .slice none 0 0, bV false, .slice none 0 0, .slice none 0 0]) A (qw rfl (fun w => by kernel_rfl)) λa A↦?_)
 refine qn (us := [bV false, .slice none 0 0, .slice none 0 0, bV false, .slice none 0 0, .slice none 0 0]) A V rfl rfl (qf rfl rfl rfl (by kernel_rfl) V 2 rfl rfl rfl) 2 rfl rfl rfl rfl ?_
 intro w29 V
 refine sda A λa A↦?_
 refine qa (hK28 _ _ (wp_ret (hret _ _ (en2 A rfl (qx V RxE_isS_26 rfl 2 rfl (cs := [bV false, .slice none 0 0, .slice none 0 0, bV false, .slice none 0 0, .slice none 0 0]) rfl rfl) (qg rfl) ?_))))
 rw [qfa (by first | exact Or.inl h1 | exact Or.inr h2)]
 exact ⟨none, 0, none, 0, none, 0, none, 0, rfl, ⟨Sc.none _, Sc.none _, Sc.none _, Sc.none _⟩, V.bel⟩
theorem zdc {w : World} {r : Nat} {n m : Nl} (hr : RadN r) (hl1 : n.2.1.length ≤ 9223372036854775807) (hl2 : n.2.2.length ≤ 9223372036854775807) (hk1 : m.2.1.length ≤ 9223372036854775807) (hk2 : m.2.2.length ≤ 9223372036854775807) (h1 : xr r n = 0) (h2 : xr r m = 0) (kn : zf r n.2.2 ≠ 0) (km : zf r m.2.2 ≠ 0) : Calls Tryz.prog 94 #[.agg #[.int .u8 (((n.1 : Nat) : Int)), .string (bsL n.2.1), .string (bsL n.2.2)], .agg #[.int .u8 (((m.1 : Nat) : Int)), .string (bsL m.2.1), .string (bsL m.2.2)], iV ((r : Nat) : Int)] w (AnsN w (xm r n m)) := by
 have jn := kg.2 kn
 have jm := kg.2 km
 have V : St w w [] [] [] := St.start w
 refine qr (l := [(0, .agg #[.int .u8 (((n.1 : Nat) : Int)), .string (bsL n.2.1), .string (bsL n.2.2)]), (1, .agg #[.int .u8 (((m.1 : Nat) : Int)), .string (bsL m.2.1), .string (bsL m.2.2)]), (2, iV (((r : Nat) : Int)))]) Tryz.func94 rfl Tryz.ntmps94 rfl rfl ?_
 intro Q hret hnorm hP a A
 refine wsk fun K1 hK1 => wrl (qz A V rfl rfl rfl pg (zg rfl rfl) rfl ?_)
 intro g2 w3 V a A
 refine qz A V rfl rfl rfl pg (zg rfl rfl) rfl ?_
 intro g4 w5 V a A
 refine qz (vs := [bV false, .slice none 0 0, .slice none 0 0, bV false, .slice none 0 0, .slice none 0 0]) (t := 26) A V rfl rfl rfl pg (ql (z := .agg #[bV false, .slice none 0 0, .slice none 0 0, bV false, .slice none 0 0, .slice none 0 0]) (by kernel_rfl) rfl) rfl ?_
 intro g6 w7 V a A
 refine sda A λa A↦?_
 refine qa (hK1 _ _ (wsk fun K8 hK8 => wrl (sdo A (qk V RxE_isS_121 rfl 2 rfl (cs := [.int .u8 (((n.1 : Nat) : Int)), .string (bsL n.2.1), .string (bsL n.2.2)]) rfl rfl) λa A↦?_)))
 refine sdm A λa A↦?_
 refine sct A (ef rfl rfl) (yy (n := n) hr hl1 hl2 (zx h1).1 (zx h1).2) ?_
 rintro _ w16 ⟨zo9, zc10, zo11, zc12, rfl, hs13, hs14, hb15⟩
 replace V := V.call hb15
 replace V := V.addR hs13.rd
 replace V := V.addR hs14.rd
 refine ⟨_, rfl, ?_⟩
 intro a A
 refine sdm A λa A↦?_
 iterate 3 refine sdo A (qh (vs := [.agg #[bV ((rb (sgn (decide (n.1 = 45)) (zf r n.2.1)))), .slice zo9 ((words (sgn (decide (n.1 = 45)) (zf r n.2.1)).natAbs).length) zc10], .slice zo11 ((words (zf r n.2.2)).length) zc12, iV 0]) rfl rfl) λa A↦?_
 refine qz (vs := [bV false, .slice none 0 0]) (t := 146) A V rfl rfl rfl pg (ql (z := .agg #[bV false, .slice none 0 0]) (by kernel_rfl) rfl) rfl ?_
 intro g17 w18 V a A
 refine qn (us := [bV ((rb (sgn (decide (n.1 = 45)) (zf r n.2.1)))), .slice zo9 ((words (sgn (decide (n.1 = 45)) (zf r n.2.1)).natAbs).length) zc10]) A V rfl rfl (qf rfl rfl rfl (by kernel_rfl) V 0 rfl rfl rfl) 0 rfl rfl rfl rfl ?_
 intro w19 V
 iterate 2 refine sda A λa A↦?_
 refine qa (hK8 _ _ (wsk fun K20 hK20 => wrl (sdo A (qk V RxE_isS_121 rfl 2 rfl (cs := [.int .u8 (((m.1 : Nat) : Int)), .string (bsL m.2.1), .string (bsL m.2.2)]) rfl rfl) λa A↦?_)))
 refine sdm A λa A↦?_
 refine sct A (ef rfl rfl) (yy (n := m) hr hk1 hk2 (zx h2).1 (zx h2).2) ?_
 rintro _ w28 ⟨zo21, zc22, zo23, zc24, rfl, hs25, hs26, hb27⟩
 replace V := V.call hb27
 replace V := V.addR hs25.rd
 replace V := V.addR hs26.rd
 refine ⟨_, rfl, ?_⟩
 intro a A
 refine sdm A λa A↦?_
 iterate 3 refine sdo A (qh (vs := [.agg #[bV ((rb (sgn (decide (m.1 = 45)) (zf r m.2.1)))), .slice zo21 ((words (sgn (decide (m.1 = 45)) (zf r m.2.1)).natAbs).length) zc22], .slice zo23 ((words (zf r m.2.2)).length) zc24, iV 0]) rfl rfl) λa A↦?_
 refine qz (vs := [bV false, .slice none 0 0]) (t := 146) A V rfl rfl rfl pg (ql (z := .agg #[bV false, .slice none 0 0]) (by kernel_rfl) rfl) rfl ?_
 intro g29 w30 V a A
 refine qn (us := [bV ((rb (sgn (decide (m.1 = 45)) (zf r m.2.1)))), .slice zo21 ((words (sgn (decide (m.1 = 45)) (zf r m.2.1)).natAbs).length) zc22]) A V rfl rfl (qf rfl rfl rfl (by kernel_rfl) V 0 rfl rfl rfl) 0 rfl rfl rfl rfl ?_
 intro w31 V
 iterate 2 refine sda A λa A↦?_
 refine qa (hK20 _ _ (wsk fun K32 hK32 => wsk fun K33 hK33 => wrl (mv A rfl rfl rfl λa A↦?_)))
 refine sdo (v := bV false) A dbK λa A↦?_
 iterate 2 refine sdm A λa A↦?_
 refine sdo (v := bV false) A dbK λa A↦?_
 refine sdk (v := bV false) A λa A↦?_
 refine qa (hK33 _ _ (cf A ?_))
 refine wp_skip (hK32 _ _ (wsk fun K34 hK34 => wsk fun K35 hK35 => wrl (mv A rfl rfl rfl λa A↦?_)))
 refine sdo A (zp Tryz.underlying22 rfl) λa A↦?_
 refine sdo (v := bV false) A (qb rfl rfl (fun w => (qj w).trans (by rw [show (((((words (zf r n.2.2)).length : Nat) : Int) == 0)) = false from (beq_eq_false_iff_ne.2 (by omega))]))) λa A↦?_
 iterate 2 refine sdm A λa A↦?_
 refine sdo A (zp Tryz.underlying22 rfl) λa A↦?_
 refine sdo (v := bV false) A (qb rfl rfl (fun w => (qj w).trans (by rw [show (((((words (zf r m.2.2)).length : Nat) : Int) == 0)) = false from (beq_eq_false_iff_ne.2 (by omega))]))) λa A↦?_
 refine sdk (v := bV false) A λa A↦?_
 refine qa (hK35 _ _ (cf A ?_))
 refine wp_skip (hK34 _ _ (wsk fun K36 hK36 => jh (S := fun w1 => St w w1 [(g29, [bV ((rb (sgn (decide (m.1 = 45)) (zf r m.2.1)))), .slice zo21 ((words (sgn (decide (m.1 = 45)) (zf r m.2.1)).natAbs).length) zc22]), (g17, [bV ((rb (sgn (decide (n.1 = 45)) (zf r n.2.1)))), .slice zo9 ((words (sgn (decide (n.1 = 45)) (zf r n.2.1)).natAbs).length) zc10]), (g4, [.int .u8 (((m.1 : Nat) : Int)), .string (bsL m.2.1), .string (bsL m.2.2)]), (g2, [.int .u8 (((n.1 : Nat) : Int)), .string (bsL n.2.1), .string (bsL n.2.2)])] [(zo23, words (zf r m.2.2)), (zo21, words (sgn (decide (m.1 = 45)) (zf r m.2.1)).natAbs), (zo11, words (zf r n.2.2)), (zo9, words (sgn (decide (n.1 = 45)) (zf r n.2.1)).natAbs)] []) (by kernel_rfl) ?_))
 replace V := V.drew
 refine atk A 0 rfl hP (V.partD (cc (cc (cn (cc (cc .slnil))))) 0 rfl (.refl _)) (λ_ V↦qk V RxE_isS_146 rfl 1 rfl (cs := [bV ((rb (sgn (decide (n.1 = 45)) (zf r n.2.1)))), .slice zo9 ((words (sgn (decide (n.1 = 45)) (zf r n.2.1)).natAbs).length) zc10]) rfl rfl) λa A↦?_
 refine atk A 1 rfl hP (V.partD (cc (cc (cn (cc (cc .slnil))))) 0 rfl (.refl _)) (λ_ V↦qs rfl) λa A↦?_
 refine atk A 3 rfl hP (V.partD (cc (cc (cn (cc (cc .slnil))))) 0 rfl (.refl _)) (λ_ V↦qk V RxE_isS_146 rfl 0 rfl (cs := [bV ((rb (sgn (decide (m.1 = 45)) (zf r m.2.1)))), .slice zo21 ((words (sgn (decide (m.1 = 45)) (zf r m.2.1)).natAbs).length) zc22]) rfl rfl) λa A↦?_
 refine atk A 4 rfl hP (V.partD (cc (cc (cn (cc (cc .slnil))))) 0 rfl (.refl _)) (λ_ V↦qs rfl) λa A↦?_
 refine zj (by kernel_rfl) (js A 2 rfl rfl rfl rfl (zy  rfl rfl (fun w => by kernel_rfl)) (qhg (x := (sgn (decide (n.1 = 45)) (zf r n.2.1))) (d := (zf r n.2.2)) ⟨(V.rd 3 rfl), hs13.nil, hs13.cap⟩ ⟨(V.rd 2 rfl), hs14.nil, hs14.cap⟩ (qac (Nat.le_trans (yb (zx h1).1).2 (by decide))) (Nat.le_trans (yb (zx h1).2).2 (by decide)) kn) ?_)
 rintro _ w41 ⟨f37_1, f37_c1, f37_2, f37_c2, rfl, hs38, hs39, hb40⟩
 replace V := V.call hb40
 replace V := V.addR hs38.rd
 replace V := V.addR hs39.rd
 refine ⟨_, rfl, (V.partD (cc (cc (cn (cc (cc .slnil))))) 2 rfl (.refl _)), ?_⟩
 intro a A
 refine zj (by kernel_rfl) (js A 5 rfl rfl rfl rfl (zy  rfl rfl (fun w => by kernel_rfl)) (qhg (x := (sgn (decide (m.1 = 45)) (zf r m.2.1))) (d := (zf r m.2.2)) ⟨(V.rd 3 rfl), hs25.nil, hs25.cap⟩ ⟨(V.rd 2 rfl), hs26.nil, hs26.cap⟩ (qac (Nat.le_trans (yb (zx h2).1).2 (by decide))) (Nat.le_trans (yb (zx h2).2).2 (by decide)) km) ?_)
 rintro _ w46 ⟨f42_1, f42_c1, f42_2, f42_c2, rfl, hs43, hs44, hb45⟩
 replace V := V.call hb45
 replace V := V.addR hs43.rd
 replace V := V.addR hs44.rd
 refine ⟨_, rfl, (V.partD (cc (cc (cn (cc (cc .slnil))))) 4 rfl (.refl _)), ?_⟩
 intro a A
 refine atk (v := .agg #[bV ((rb (sgn (decide (n.1 = 45)) (zf r n.2.1)))), .slice f37_1 ((words (rt (sgn (decide (n.1 = 45)) (zf r n.2.1)) (zf r n.2.2))).length) f37_c1, .slice f37_2 ((words (rq (sgn (decide (n.1 = 45)) (zf r n.2.1)) (zf r n.2.2))).length) f37_c2, bV ((rb (sgn (decide (m.1 = 45)) (zf r m.2.1)))), .slice f42_1 ((words (rt (sgn (decide (m.1 = 45)) (zf r m.2.1)) (zf r m.2.2))).length) f42_c1, .slice f42_2 ((words (rq (sgn (decide (m.1 = 45)) (zf r m.2.1)) (zf r m.2.2))).length) f42_c2]) A 6 rfl hP (V.partD (cc (cc (cn (cc (cc .slnil))))) 4 rfl (.refl _)) (λ_ V↦qw rfl (fun w => by kernel_rfl)) λa A↦?_
 refine zj (by kernel_rfl) (jj (us := [bV ((rb (sgn (decide (n.1 = 45)) (zf r n.2.1)))), .slice f37_1 ((words (rt (sgn (decide (n.1 = 45)) (zf r n.2.1)) (zf r n.2.2))).length) f37_c1, .slice f37_2 ((words (rq (sgn (decide (n.1 = 45)) (zf r n.2.1)) (zf r n.2.2))).length) f37_c2, bV ((rb (sgn (decide (m.1 = 45)) (zf r m.2.1)))), .slice f42_1 ((words (rt (sgn (decide (m.1 = 45)) (zf r m.2.1)) (zf r m.2.2))).length) f42_c1, .slice f42_2 ((words (rq (sgn (decide (m.1 = 45)) (zf r m.2.1)) (zf r m.2.2))).length) f42_c2]) A V 7 rfl rfl rfl (qf rfl rfl rfl (by kernel_rfl) V 2 rfl rfl rfl) 2 rfl rfl rfl rfl ?_)
 intro w47 V
 refine ⟨(V.partD (cc (cc (cn (cc (cc .slnil))))) 4 rfl (.refl _)), ?_⟩
 refine atk A 8 rfl hP (V.partD (cc (cc (cn (cc (cc .slnil))))) 4 rfl (.refl _)) (λ_ V↦zd rfl) λa A↦?_
 refine zr (by kernel_rfl) ?_
 refine hK36 _ _ (wp_ret (hret _ _ (en2 A rfl (qx V RxE_isS_26 rfl 2 rfl (cs := [bV ((rb (sgn (decide (n.1 = 45)) (zf r n.2.1)))), .slice f37_1 ((words (rt (sgn (decide (n.1 = 45)) (zf r n.2.1)) (zf r n.2.2))).length) f37_c1, .slice f37_2 ((words (rq (sgn (decide (n.1 = 45)) (zf r n.2.1)) (zf r n.2.2))).length) f37_c2, bV ((rb (sgn (decide (m.1 = 45)) (zf r m.2.1)))), .slice f42_1 ((words (rt (sgn (decide (m.1 = 45)) (zf r m.2.1)) (zf r m.2.2))).length) f42_c1, .slice f42_2 ((words (rq (sgn (decide (m.1 = 45)) (zf r m.2.1)) (zf r m.2.2))).length) f42_c2]) rfl rfl) (qg rfl) ?_)))
 rw [zwj h1 h2 kn km]
 exact ⟨f37_1, f37_c1, f37_2, f37_c2, f42_1, f42_c1, f42_2, f42_c2, rfl, ⟨⟨(V.rd 3 rfl), hs38.nil, hs38.cap⟩, ⟨(V.rd 2 rfl), hs39.nil, hs39.cap⟩, ⟨(V.rd 1 rfl), hs43.nil, hs43.cap⟩, ⟨(V.rd 0 rfl), hs44.nil, hs44.cap⟩⟩, V.bel⟩
theorem qob {w : World} {r : Nat} {n m : Nl} (hr : RadN r) (hl1 : n.2.1.length ≤ 9223372036854775807) (hl2 : n.2.2.length ≤ 9223372036854775807) (hk1 : m.2.1.length ≤ 9223372036854775807) (hk2 : m.2.2.length ≤ 9223372036854775807) (h1 : xr r n = 0) (h2 : xr r m = 0) (kz : zf r n.2.2 = 0 ∨ zf r m.2.2 = 0) : Calls Tryz.prog 94 #[.agg #[.int .u8 (((n.1 : Nat) : Int)), .string (bsL n.2.1), .string (bsL n.2.2)], .agg #[.int .u8 (((m.1 : Nat) : Int)), .string (bsL m.2.1), .string (bsL m.2.2)], iV ((r : Nat) : Int)] w (AnsN w (xm r n m)) := by
 have jz : (words (zf r n.2.2)).length = 0 ∨ (words (zf r m.2.2)).length = 0 := by
  rcases kz with h | h
  ·
   left; rw [h, words_zero]; rfl
  ·
   right; rw [h, words_zero]; rfl
 have V : St w w [] [] [] := St.start w
 refine qr (l := [(0, .agg #[.int .u8 (((n.1 : Nat) : Int)), .string (bsL n.2.1), .string (bsL n.2.2)]), (1, .agg #[.int .u8 (((m.1 : Nat) : Int)), .string (bsL m.2.1), .string (bsL m.2.2)]), (2, iV (((r : Nat) : Int)))]) Tryz.func94 rfl Tryz.ntmps94 rfl rfl ?_
 intro Q hret hnorm hP a A
 refine wsk fun K1 hK1 => wrl (qz A V rfl rfl rfl pg (zg rfl rfl) rfl ?_)
 intro g2 w3 V a A
 refine qz A V rfl rfl rfl pg (zg rfl rfl) rfl ?_
 intro g4 w5 V a A
 refine qz (vs := [bV false, .slice none 0 0, .slice none 0 0, bV false, .slice none 0 0, .slice none 0 0]) (t := 26) A V rfl rfl rfl pg (ql (z := .agg #[bV false, .slice none 0 0, .slice none 0 0, bV false, .slice none 0 0, .slice none 0 0]) (by kernel_rfl) rfl) rfl ?_
 intro g6 w7 V a A
 refine sda A λa A↦?_
 refine qa (hK1 _ _ (wsk fun K8 hK8 => wrl (sdo A (qk V RxE_isS_121 rfl 2 rfl (cs := [.int .u8 (((n.1 : Nat) : Int)), .string (bsL n.2.1), .string (bsL n.2.2)]) rfl rfl) λa A↦?_)))
 refine sdm A λa A↦?_
 refine sct A (ef rfl rfl) (yy (n := n) hr hl1 hl2 (zx h1).1 (zx h1).2) ?_
 rintro _ w16 ⟨zo9, zc10, zo11, zc12, rfl, hs13, hs14, hb15⟩
 replace V := V.call hb15
 replace V := V.addR hs13.rd
 replace V := V.addR hs14.rd
 refine ⟨_, rfl, ?_⟩
 intro a A
 refine sdm A λa A↦?_
 iterate 3 refine sdo A (qh (vs := [.agg #[bV ((rb (sgn (decide (n.1 = 45)) (zf r n.2.1)))), .slice zo9 ((words (sgn (decide (n.1 = 45)) (zf r n.2.1)).natAbs).length) zc10], .slice zo11 ((words (zf r n.2.2)).length) zc12, iV 0]) rfl rfl) λa A↦?_
 refine qz (vs := [bV false, .slice none 0 0]) (t := 146) A V rfl rfl rfl pg (ql (z := .agg #[bV false, .slice none 0 0]) (by kernel_rfl) rfl) rfl ?_
 intro g17 w18 V a A
 refine qn (us := [bV ((rb (sgn (decide (n.1 = 45)) (zf r n.2.1)))), .slice zo9 ((words (sgn (decide (n.1 = 45)) (zf r n.2.1)).natAbs).length) zc10]) A V rfl rfl (qf rfl rfl rfl (by kernel_rfl) V 0 rfl rfl rfl) 0 rfl rfl rfl rfl ?_
 intro w19 V
 iterate 2 refine sda A λa A↦?_
 refine qa (hK8 _ _ (wsk fun K20 hK20 => wrl (sdo A (qk V RxE_isS_121 rfl 2 rfl (cs := [.int .u8 (((m.1 : Nat) : Int)), .string (bsL m.2.1), .string (bsL m.2.2)]) rfl rfl) λa A↦?_)))
 refine sdm A λa A↦?_
 refine sct A (ef rfl rfl) (yy (n := m) hr hk1 hk2 (zx h2).1 (zx h2).2) ?_
 rintro _ w28 ⟨zo21, zc22, zo23, zc24, rfl, hs25, hs26, hb27⟩
 replace V := V.call hb27
 replace V := V.addR hs25.rd
 replace V := V.addR hs26.rd
 refine ⟨_, rfl, ?_⟩
 intro a A
 refine sdm A λa A↦?_
 iterate 3 refine sdo A (qh (vs := [.agg #[bV ((rb (sgn (decide (m.1 = 45)) (zf r m.2.1)))), .slice zo21 ((words (sgn (decide (m.1 = 45)) (zf r m.2.1)).natAbs).length) zc22], .slice zo23 ((words (zf r m.2.2)).length) zc24, iV 0]) rfl rfl) λa A↦?_
 refine qz (vs := [bV false, .slice none 0 0]) (t := 146) A V rfl rfl rfl pg (ql (z := .agg #[bV false, .slice none 0 0]) (by kernel_rfl) rfl) rfl ?_
 intro g29 w30 V a A
 refine qn (us := [bV ((rb (sgn (decide (m.1 = 45)) (zf r m.2.1)))), .slice zo21 ((words (sgn (decide (m.1 = 45)) (zf r m.2.1)).natAbs).length) zc22]) A V rfl rfl (qf rfl rfl rfl (by kernel_rfl) V 0 rfl rfl rfl) 0 rfl rfl rfl rfl ?_
 intro w31 V
 iterate 2 refine sda A λa A↦?_
 refine qa (hK20 _ _ (wsk fun K32 hK32 => wsk fun K33 hK33 => wrl (mv A rfl rfl rfl λa A↦?_)))
 refine sdo (v := bV false) A dbK λa A↦?_
 iterate 2 refine sdm A λa A↦?_
 refine sdo (v := bV false) A dbK λa A↦?_
 refine sdk (v := bV false) A λa A↦?_
 refine qa (hK33 _ _ (cf A ?_))
 refine wp_skip (hK32 _ _ (wsk fun K34 hK34 => wsk fun K35 hK35 => wrl (mv A rfl rfl rfl λa A↦?_)))
 refine sdo A (zp Tryz.underlying22 rfl) λa A↦?_
 rcases tf (((((words (zf r n.2.2)).length : Nat) : Int) == 0)) with hb36 | hb36
 ·
  have hb36' := eq_of_beq hb36
  refine sdc A qj hb36 λa A↦?_
  refine sdm A λa A↦?_
  iterate 3 refine qi A rfl rfl rfl λa A↦?_
  refine sdk (v := bV true) A λa A↦?_
  refine qa (hK35 _ _ (ct A ?_))
  refine wsk fun K37 hK37 => wrl (sdo (v := .agg #[bV false, .slice none 0 0, .slice none 0 0, bV false, .slice none 0 0, .slice none 0 0]) A (qw rfl (fun w => by kernel_rfl)) λa A↦?_)
  refine qn (us := [bV false, .slice none 0 0, .slice none 0 0, bV false, .slice none 0 0, .slice none 0 0]) A V rfl rfl (qf rfl rfl rfl (by kernel_rfl) V 2 rfl rfl rfl) 2 rfl rfl rfl rfl ?_
  intro w38 V
  refine sda A λa A↦?_
  refine qa (hK37 _ _ (wp_ret (hret _ _ (en2 A rfl (qx V RxE_isS_26 rfl 2 rfl (cs := [bV false, .slice none 0 0, .slice none 0 0, bV false, .slice none 0 0, .slice none 0 0]) rfl rfl) (qg rfl) ?_))))
  rw [qgg h1 h2 kz]
  exact ⟨none, 0, none, 0, none, 0, none, 0, rfl, ⟨Sc.none _, Sc.none _, Sc.none _, Sc.none _⟩, V.bel⟩
 ·
  have hb36' := ne_of_beq_false hb36
  refine sdc A qj hb36 λa A↦?_
  iterate 2 refine sdm A λa A↦?_
  refine sdo A (zp Tryz.underlying22 rfl) λa A↦?_
  refine sdo (v := bV true) A (qb rfl rfl (fun w => (qj w).trans (by rw [show (((((words (zf r m.2.2)).length : Nat) : Int) == 0)) = true from (beq_iff_eq.2 (by omega))]))) λa A↦?_
  refine sdk (v := bV true) A λa A↦?_
  refine qa (hK35 _ _ (ct A ?_))
  refine wsk fun K39 hK39 => wrl (sdo (v := .agg #[bV false, .slice none 0 0, .slice none 0 0, bV false, .slice none 0 0, .slice none 0 0]) A (qw rfl (fun w => by kernel_rfl)) λa A↦?_)
  refine qn (us := [bV false, .slice none 0 0, .slice none 0 0, bV false, .slice none 0 0, .slice none 0 0]) A V rfl rfl (qf rfl rfl rfl (by kernel_rfl) V 2 rfl rfl rfl) 2 rfl rfl rfl rfl ?_
  intro w40 V
  refine sda A λa A↦?_
  refine qa (hK39 _ _ (wp_ret (hret _ _ (en2 A rfl (qx V RxE_isS_26 rfl 2 rfl (cs := [bV false, .slice none 0 0, .slice none 0 0, bV false, .slice none 0 0, .slice none 0 0]) rfl rfl) (qg rfl) ?_))))
  rw [qgg h1 h2 kz]
  exact ⟨none, 0, none, 0, none, 0, none, 0, rfl, ⟨Sc.none _, Sc.none _, Sc.none _, Sc.none _⟩, V.bel⟩
theorem zdd {w : World} {r : Nat} {n m : Nl} (hr : RadN r) (hl1 : n.2.1.length ≤ 9223372036854775807) (hl2 : n.2.2.length ≤ 9223372036854775807) (hk1 : m.2.1.length ≤ 9223372036854775807) (hk2 : m.2.2.length ≤ 9223372036854775807) : Calls Tryz.prog 94 #[.agg #[.int .u8 (((n.1 : Nat) : Int)), .string (bsL n.2.1), .string (bsL n.2.2)], .agg #[.int .u8 (((m.1 : Nat) : Int)), .string (bsL m.2.1), .string (bsL m.2.2)], iV ((r : Nat) : Int)] w (AnsN w (xm r n m)) := by
 by_cases h1 : xr r n = 0
 ·
  by_cases h2 : xr r m = 0
  ·
   by_cases kn : zf r n.2.2 = 0
   ·
    exact qob hr hl1 hl2 hk1 hk2 h1 h2 (.inl kn)
   ·
    by_cases km : zf r m.2.2 = 0
    ·
     exact qob hr hl1 hl2 hk1 hk2 h1 h2 (.inr km)
    ·
     exact zdc hr hl1 hl2 hk1 hk2 h1 h2 kn km
  ·
   exact zdb hr hl1 hl2 hk1 hk2 h1 h2
 ·
  by_cases h2 : xr r m = 0
  ·
   exact zda hr hl1 hl2 hk1 hk2 h1 h2
  ·
   exact zcj hr hl1 hl2 hk1 hk2 h1 h2
theorem qrd (r : Nat) (l : List UInt8) : (nlD r l).2.1.length ≤ l.length ∧ (nlD r l).2.2.length ≤ l.length := by
 have e : (unS l).length ≤ l.length := by unfold unS; split; rw [List.length_drop]; omega; exact Nat.le_refl _
 have e1 : (qD r l).length ≤ l.length := by unfold qD; rw [List.length_drop]; omega
 unfold nlD
 refine ⟨?_, ?_⟩
 ·
  show (tpD r l).length ≤ _
  unfold tpD
  rw [List.length_take]; omega
 ·
  show (boD r l).length ≤ _
  unfold boD
  split
  ·
   rw [List.length_take, List.length_drop]; omega
  ·
   simp
theorem zxa (r : Nat) (l : List UInt8) : (reP r l).2.1.length ≤ l.length + 1 ∧ (reP r l).2.2.length ≤ l.length + 1 := by
 have h := qrd r l
 unfold reP
 split
 ·
  omega
 ·
  split
  ·
   exact ⟨by simp [nl0], by simp [nl0]⟩
  ·
   omega
theorem zxb (r : Nat) (l : List UInt8) : (imP r l).2.1.length ≤ l.length + 1 ∧ (imP r l).2.2.length ≤ l.length + 1 := by
 have h := qrd r l
 have h1 := qrd r (reD r l)
 have h2 := qrb r l
 unfold imP
 split
 ·
  exact ⟨by simp [nl0], by simp [nl0]⟩
 ·
  split
  ·
   omega
  ·
   omega
theorem qgh {r k : Nat} {l b : List UInt8} (hr : RadN r) (hPx : jr false false r l = (b, k)) : ya l ((r : Nat) : Int) = if okP k b = true then (if l.length ≤ 16384 then xm k (reP k b) (imP k b) else (Q6.zero, 4)) else (Q6.zero, 5) := by
 have h : xt ((r : Nat) : Int) = true := by rcases hr with h | h | h | h <;> subst h <;> decide
 unfold ya
 rw [h, if_pos rfl, Int.toNat_natCast, hPx]
theorem zde {r : Nat} (hr : RadN r) : xt ((r : Nat) : Int) = true := by rcases hr with h | h | h | h <;> subst h <;> decide
theorem zpj {w : World} {r k : Nat} {l b : List UInt8} (hr : RadN r) (hl : l.length ≤ 9223372036854775807) (hPx : jr false false r l = (b, k)) : Calls Tryz.prog 64 #[.string (bsL l), iV ((r : Nat) : Int)] w (AnsN w (ya l ((r : Nat) : Int))) := by
 have hk : RadN k := by have h := zpf hr false false l; rw [hPx] at h; exact h
 have hb : b.length ≤ l.length := by have h := zpg false false r l; rw [hPx] at h; exact h
 have q1 := zxa k b
 have q2 := zxb k b
 have V : St w w [] [] [] := St.start w
 refine qr (l := [(0, .string (bsL l)), (1, iV (((r : Nat) : Int)))]) Tryz.func64 rfl Tryz.ntmps64 rfl rfl ?_
 intro Q hret hnorm hP a A
 refine wsk fun K1 hK1 => wrl (qz (vs := [bV false, .slice none 0 0, .slice none 0 0, bV false, .slice none 0 0, .slice none 0 0]) (t := 26) A V rfl rfl rfl pg (ql (z := .agg #[bV false, .slice none 0 0, .slice none 0 0, bV false, .slice none 0 0, .slice none 0 0]) (by kernel_rfl) rfl) rfl ?_)
 intro g2 w3 V a A
 refine sda A λa A↦?_
 refine qa (hK1 _ _ (wsk fun K4 hK4 => wsk fun K5 hK5 => wrl (mv A rfl rfl rfl λa A↦?_)))
 refine sct A (ef rfl rfl) (qeh (zde hr)) ?_
 rintro _ w7 ⟨rfl, hb6⟩
 replace V := V.call hb6
 refine ⟨_, rfl, ?_⟩
 intro a A
 refine sdo (v := bV false) A (za rfl zk) λa A↦?_
 refine qa (hK5 _ _ (cf A ?_))
 refine wp_skip (hK4 _ _ (wsk fun K8 hK8 => wrl ?_))
 iterate 2 refine sdm A λa A↦?_
 refine sct A (ef rfl rfl) ((by have h := qic (w := w7) (r := r) (l := l) hl; rw [hPx] at h; exact h)) ?_
 rintro _ w10 ⟨rfl, hb9⟩
 replace V := V.call hb9
 refine ⟨_, rfl, ?_⟩
 intro a A
 refine sdm A λa A↦?_
 iterate 2 refine sdo A (qh (vs := [.string (bsL b), iV (((k : Nat) : Int))]) rfl rfl) λa A↦?_
 iterate 2 refine sda A λa A↦?_
 refine qa (hK8 _ _ (wsk fun K11 hK11 => wrl ?_))
 iterate 2 refine sdm A λa A↦?_
 refine sct A (ef rfl rfl) (qrc (l := b) hk (by omega)) ?_
 rintro _ w13 ⟨rfl, hb12⟩
 replace V := V.call hb12
 refine ⟨_, rfl, ?_⟩
 intro a A
 refine sdm A λa A↦?_
 iterate 3 refine sdo A (qh (vs := [.agg #[.int .u8 ((((reP k b).1 : Nat) : Int)), .string (bsL ((reP k b).2.1)), .string (bsL ((reP k b).2.2))], .agg #[.int .u8 ((((imP k b).1 : Nat) : Int)), .string (bsL ((imP k b).2.1)), .string (bsL ((imP k b).2.2))], bV (okP k b)]) rfl rfl) λa A↦?_
 refine qz (vs := [.int .u8 0, .string (bsL []), .string (bsL [])]) (t := 121) A V rfl rfl rfl pg (ql (z := .agg #[.int .u8 0, .string (bsL []), .string (bsL [])]) (by kernel_rfl) rfl) rfl ?_
 intro g14 w15 V a A
 refine qz (vs := [.int .u8 0, .string (bsL []), .string (bsL [])]) (t := 121) A V rfl rfl rfl pg (ql (z := .agg #[.int .u8 0, .string (bsL []), .string (bsL [])]) (by kernel_rfl) rfl) rfl ?_
 intro g16 w17 V a A
 refine qn (us := [.int .u8 ((((reP k b).1 : Nat) : Int)), .string (bsL ((reP k b).2.1)), .string (bsL ((reP k b).2.2))]) A V rfl rfl (qf rfl rfl rfl (by kernel_rfl) V 1 rfl rfl rfl) 1 rfl rfl rfl rfl ?_
 intro w18 V
 refine qn (us := [.int .u8 ((((imP k b).1 : Nat) : Int)), .string (bsL ((imP k b).2.1)), .string (bsL ((imP k b).2.2))]) A V rfl rfl (qf rfl rfl rfl (by kernel_rfl) V 0 rfl rfl rfl) 0 rfl rfl rfl rfl ?_
 intro w19 V
 refine sda A λa A↦?_
 refine qa (hK11 _ _ (wsk fun K20 hK20 => wsk fun K21 hK21 => wrl (mv A rfl rfl rfl λa A↦?_)))
 refine sdo (v := bV (!(okP k b))) A (za rfl zk) λa A↦?_
 refine qa (hK21 _ _ ?_)
 refine wp_cond_split (t := !(okP k b)) (A.ev rfl) (fun hc22 => ?_) (fun hc22 => ?_)
 ·
  refine wsk fun K23 hK23 => wrl (sdo (v := .agg #[bV false, .slice none 0 0, .slice none 0 0, bV false, .slice none 0 0, .slice none 0 0]) A (qw rfl (fun w => by kernel_rfl)) λa A↦?_)
  refine qn (us := [bV false, .slice none 0 0, .slice none 0 0, bV false, .slice none 0 0, .slice none 0 0]) A V rfl rfl (qf rfl rfl rfl (by kernel_rfl) V 2 rfl rfl rfl) 2 rfl rfl rfl rfl ?_
  intro w24 V
  refine sda A λa A↦?_
  refine qa (hK23 _ _ (wp_ret (hret _ _ (en2 A rfl (qx V RxE_isS_26 rfl 2 rfl (cs := [bV false, .slice none 0 0, .slice none 0 0, bV false, .slice none 0 0, .slice none 0 0]) rfl rfl) (qg rfl) ?_))))
  rw [qgh hr hPx, if_neg (by simpa using hc22)]
  exact ⟨none, 0, none, 0, none, 0, none, 0, rfl, ⟨Sc.none _, Sc.none _, Sc.none _, Sc.none _⟩, V.bel⟩
 ·
  refine wp_skip (hK20 _ _ (wsk fun K25 hK25 => wsk fun K26 hK26 => wrl (mv A rfl rfl rfl λa A↦?_)))
  refine sdo A (qgf Tryz.underlying9 rfl) λa A↦?_
  rcases tf (decide (16384 < ((l.length : Nat) : Int))) with hb27 | hb27
  ·
   have hb27' := of_decide_eq_true hb27
   refine sdc A zs hb27 λa A↦?_
   refine qa (hK26 _ _ (ct A ?_))
   refine wsk fun K28 hK28 => wrl (sdo (v := .agg #[bV false, .slice none 0 0, .slice none 0 0, bV false, .slice none 0 0, .slice none 0 0]) A (qw rfl (fun w => by kernel_rfl)) λa A↦?_)
   refine qn (us := [bV false, .slice none 0 0, .slice none 0 0, bV false, .slice none 0 0, .slice none 0 0]) A V rfl rfl (qf rfl rfl rfl (by kernel_rfl) V 2 rfl rfl rfl) 2 rfl rfl rfl rfl ?_
   intro w29 V
   refine sda A λa A↦?_
   refine qa (hK28 _ _ (wp_ret (hret _ _ (en2 A rfl (qx V RxE_isS_26 rfl 2 rfl (cs := [bV false, .slice none 0 0, .slice none 0 0, bV false, .slice none 0 0, .slice none 0 0]) rfl rfl) (qg rfl) ?_))))
   rw [qgh hr hPx, if_pos (by simpa using hc22), if_neg (by omega)]
   exact ⟨none, 0, none, 0, none, 0, none, 0, rfl, ⟨Sc.none _, Sc.none _, Sc.none _, Sc.none _⟩, V.bel⟩
  ·
   have hb27' := of_decide_eq_false hb27
   refine sdc A zs hb27 λa A↦?_
   refine qa (hK26 _ _ (cf A ?_))
   refine wp_skip (hK25 _ _ (wsk fun K30 hK30 => wrl (sdo A (qk V RxE_isS_121 rfl 1 rfl (cs := [.int .u8 ((((reP k b).1 : Nat) : Int)), .string (bsL ((reP k b).2.1)), .string (bsL ((reP k b).2.2))]) rfl rfl) λa A↦?_)))
   refine sdo A (qk V RxE_isS_121 rfl 0 rfl (cs := [.int .u8 ((((imP k b).1 : Nat) : Int)), .string (bsL ((imP k b).2.1)), .string (bsL ((imP k b).2.2))]) rfl rfl) λa A↦?_
   refine sdm A λa A↦?_
   refine sct A (ef rfl rfl) (zdd hk (by omega) (by omega) (by omega) (by omega)) ?_
   rintro _ w34 ⟨p31_1, p31_c1, p31_2, p31_c2, p31_3, p31_c3, p31_4, p31_c4, rfl, hn32, hb33⟩
   replace V := V.call hb33
   replace V := V.addR hn32.s1.rd
   replace V := V.addR hn32.s2.rd
   replace V := V.addR hn32.s3.rd
   replace V := V.addR hn32.s4.rd
   refine ⟨_, rfl, ?_⟩
   intro a A
   iterate 2 refine sdo A (qh (vs := [.agg #[bV ((xm k (reP k b) (imP k b)).1.b1), .slice p31_1 (((xm k (reP k b) (imP k b)).1.t1).length) p31_c1, .slice p31_2 (((xm k (reP k b) (imP k b)).1.q1).length) p31_c2, bV ((xm k (reP k b) (imP k b)).1.b2), .slice p31_3 (((xm k (reP k b) (imP k b)).1.t2).length) p31_c3, .slice p31_4 (((xm k (reP k b) (imP k b)).1.q2).length) p31_c4], iV ((xm k (reP k b) (imP k b)).2)]) rfl rfl) λa A↦?_
   refine qn (us := [bV ((xm k (reP k b) (imP k b)).1.b1), .slice p31_1 (((xm k (reP k b) (imP k b)).1.t1).length) p31_c1, .slice p31_2 (((xm k (reP k b) (imP k b)).1.q1).length) p31_c2, bV ((xm k (reP k b) (imP k b)).1.b2), .slice p31_3 (((xm k (reP k b) (imP k b)).1.t2).length) p31_c3, .slice p31_4 (((xm k (reP k b) (imP k b)).1.q2).length) p31_c4]) A V rfl rfl (qf rfl rfl rfl (by kernel_rfl) V 2 rfl rfl rfl) 2 rfl rfl rfl rfl ?_
   intro w35 V
   refine sda A λa A↦?_
   refine qa (hK30 _ _ (wp_ret (hret _ _ (en2 A rfl (qx V RxE_isS_26 rfl 2 rfl (cs := [bV ((xm k (reP k b) (imP k b)).1.b1), .slice p31_1 (((xm k (reP k b) (imP k b)).1.t1).length) p31_c1, .slice p31_2 (((xm k (reP k b) (imP k b)).1.q1).length) p31_c2, bV ((xm k (reP k b) (imP k b)).1.b2), .slice p31_3 (((xm k (reP k b) (imP k b)).1.t2).length) p31_c3, .slice p31_4 (((xm k (reP k b) (imP k b)).1.q2).length) p31_c4]) rfl rfl) (qg rfl) ?_))))
   rw [qgh hr hPx, if_pos (by simpa using hc22), if_pos (by omega)]
   exact ⟨p31_1, p31_c1, p31_2, p31_c2, p31_3, p31_c3, p31_4, p31_c4, rfl, ⟨⟨(V.rd 3 rfl), hn32.s1.nil, hn32.s1.cap⟩, ⟨(V.rd 2 rfl), hn32.s2.nil, hn32.s2.cap⟩, ⟨(V.rd 1 rfl), hn32.s3.nil, hn32.s3.cap⟩, ⟨(V.rd 0 rfl), hn32.s4.nil, hn32.s4.cap⟩⟩, V.bel⟩
theorem zdf {w : World} {n : Int} {l : List UInt8} (hn : xt n = false) : Calls Tryz.prog 64 #[.string (bsL l), iV n] w (AnsN w (ya l n)) := by
 have V : St w w [] [] [] := St.start w
 refine qr (l := [(0, .string (bsL l)), (1, iV n)]) Tryz.func64 rfl Tryz.ntmps64 rfl rfl ?_
 intro Q hret hnorm hP a A
 refine wsk fun K1 hK1 => wrl (qz (vs := [bV false, .slice none 0 0, .slice none 0 0, bV false, .slice none 0 0, .slice none 0 0]) (t := 26) A V rfl rfl rfl pg (ql (z := .agg #[bV false, .slice none 0 0, .slice none 0 0, bV false, .slice none 0 0, .slice none 0 0]) (by kernel_rfl) rfl) rfl ?_)
 intro g2 w3 V a A
 refine sda A λa A↦?_
 refine qa (hK1 _ _ (wsk fun K4 hK4 => wsk fun K5 hK5 => wrl (mv A rfl rfl rfl λa A↦?_)))
 refine sct A (ef rfl rfl) (qeh hn) ?_
 rintro _ w7 ⟨rfl, hb6⟩
 replace V := V.call hb6
 refine ⟨_, rfl, ?_⟩
 intro a A
 refine sdo (v := bV true) A (za rfl zk) λa A↦?_
 refine qa (hK5 _ _ (ct A ?_))
 refine wsk fun K8 hK8 => wrl (sdo (v := .agg #[bV false, .slice none 0 0, .slice none 0 0, bV false, .slice none 0 0, .slice none 0 0]) A (qw rfl (fun w => by kernel_rfl)) λa A↦?_)
 refine qn (us := [bV false, .slice none 0 0, .slice none 0 0, bV false, .slice none 0 0, .slice none 0 0]) A V rfl rfl (qf rfl rfl rfl (by kernel_rfl) V 0 rfl rfl rfl) 0 rfl rfl rfl rfl ?_
 intro w9 V
 refine sda A λa A↦?_
 refine qa (hK8 _ _ (wp_ret (hret _ _ (en2 A rfl (qx V RxE_isS_26 rfl 0 rfl (cs := [bV false, .slice none 0 0, .slice none 0 0, bV false, .slice none 0 0, .slice none 0 0]) rfl rfl) (qg rfl) ?_))))
 rw [show ya l n = (Q6.zero, 1) from by unfold ya; rw [hn]; rfl]
 exact ⟨none, 0, none, 0, none, 0, none, 0, rfl, ⟨Sc.none _, Sc.none _, Sc.none _, Sc.none _⟩, V.bel⟩
theorem qoc {w : World} {n : Int} {l : List UInt8} (hl : l.length ≤ 9223372036854775807) : Calls Tryz.prog 64 #[.string (bsL l), iV n] w (AnsN w (ya l n)) := by
 cases h : xt n with
 | false => exact zdf h
 | true =>
  obtain ⟨r, rfl, hr⟩ := zca h
  exact zpj (b := (jr false false r l).1) (k := (jr false false r l).2) hr hl rfl






section
variable {P : Program} {t : TypeId} {a b : Operand}
end
theorem SmA_is1_22 : Is1 Tryz.prog 22 := ⟨⟨_, Tryz.underlying22, rfl⟩, by kernel_rfl⟩
theorem SmA_is1_4 : Is1 Tryz.prog 4 := ⟨⟨_, Tryz.underlying4, rfl⟩, by kernel_rfl⟩
theorem SmA_is1_99 : Is1 Tryz.prog 99 := ⟨⟨_, Tryz.underlying99, rfl⟩, by kernel_rfl⟩
theorem SmA_fld_24_0 : FieldAt Tryz.prog 24 0 0 := ⟨_, _, Tryz.underlying24, rfl, rfl, by kernel_rfl⟩
theorem SmA_fld_24_1 : FieldAt Tryz.prog 24 1 1 := ⟨_, _, Tryz.underlying24, rfl, rfl, by kernel_rfl⟩
theorem SmA_fld_24_2 : FieldAt Tryz.prog 24 2 2 := ⟨_, _, Tryz.underlying24, rfl, rfl, by kernel_rfl⟩
theorem SmA_fld_26_0 : FieldAt Tryz.prog 26 0 0 := ⟨_, _, Tryz.underlying26, rfl, rfl, by kernel_rfl⟩
theorem SmA_isS_24 : IsS Tryz.prog 24 3 := ⟨⟨_, Tryz.underlying24⟩, by kernel_rfl⟩
theorem SmA_isS_26 : IsS Tryz.prog 26 6 := ⟨⟨_, Tryz.underlying26⟩, by kernel_rfl⟩
theorem qwc {w : World} {a1 a2 : Option Addr} {ac1 ac2 m2 : Nat}  (ha : Rd w a1 []) : Calls Tryz.prog 81 #[.agg #[bV false, .slice a1 0 ac1, .slice a2 m2 ac2]] w fun e w' => e = .returned (iV (sgn false (0))) ∧ Below w.heap.size w w' := by
 have V : St w w [] [(a1, [])] [] := (St.start w).addR ha
 refine qr (l := [(0, .agg #[bV false, .slice a1 0 ac1, .slice a2 m2 ac2])]) Tryz.func81 rfl Tryz.ntmps81 rfl rfl ?_
 intro Q hret hnorm hP a A
 refine wsk fun K1 hK1 => wrl (qz A V rfl rfl rfl pg (zg rfl rfl) rfl ?_)
 intro g2 w3 V a A
 refine sda A λa A↦?_
 refine qa (hK1 _ _ (wsk fun K4 hK4 => wrl (sda A λa A↦?_)))
 refine qa (hK4 _ _ (wsk fun K5 hK5 => wsk fun K6 hK6 => wrl (sdo (v := pA g2 1) A (qe SmA_fld_24_1 rfl rfl) λa A↦?_)))
 refine sdo A (qp V SmA_is1_22 rfl 0 rfl rfl) λa A↦?_
 refine sdo A (zp Tryz.underlying22 rfl) λa A↦?_
 refine sdm A λa A↦?_
 refine qa (hK6 _ _ (wp_block (wp_loop_rounds 12 ?_)))
 refine xd fun K7 hK7 => ?_
 refine wsk fun K8 hK8 => wrl (sdo (v := bV false) A dbK λa A↦?_)
 refine qa (hK8 _ _ (wsk fun K9 hK9 => wp_cond_false (A.ev rfl) ?_))
 refine wp_exit (hK5 _ _ (wsk fun K10 hK10 => wsk fun K11 hK11 => wrl (sdo (v := pA g2 0) A (qe SmA_fld_24_0 rfl rfl) λa A↦?_)))
 refine sdo A (qp V SmA_is1_4 rfl 0 rfl rfl) λa A↦?_
 refine qa (hK11 _ _ (cf A ?_))
 refine wp_skip (hK10 _ _ (wsk fun K12 hK12 => wrl (sdm A λa A↦?_)))
 refine sda A λa A↦?_
 refine qa (hK12 _ _ (wr1 hret A ?_))
 exact ⟨by first | rfl | (simp only [sgn]; rfl) | decide, V.bel⟩
theorem qwd {w : World} {a1 a2 : Option Addr} {ac1 ac2 m2 : Nat}  (ha : Rd w a1 []) : Calls Tryz.prog 81 #[.agg #[bV true, .slice a1 0 ac1, .slice a2 m2 ac2]] w fun e w' => e = .returned (iV (sgn true (0))) ∧ Below w.heap.size w w' := by
 have V : St w w [] [(a1, [])] [] := (St.start w).addR ha
 refine qr (l := [(0, .agg #[bV true, .slice a1 0 ac1, .slice a2 m2 ac2])]) Tryz.func81 rfl Tryz.ntmps81 rfl rfl ?_
 intro Q hret hnorm hP a A
 refine wsk fun K1 hK1 => wrl (qz A V rfl rfl rfl pg (zg rfl rfl) rfl ?_)
 intro g2 w3 V a A
 refine sda A λa A↦?_
 refine qa (hK1 _ _ (wsk fun K4 hK4 => wrl (sda A λa A↦?_)))
 refine qa (hK4 _ _ (wsk fun K5 hK5 => wsk fun K6 hK6 => wrl (sdo (v := pA g2 1) A (qe SmA_fld_24_1 rfl rfl) λa A↦?_)))
 refine sdo A (qp V SmA_is1_22 rfl 0 rfl rfl) λa A↦?_
 refine sdo A (zp Tryz.underlying22 rfl) λa A↦?_
 refine sdm A λa A↦?_
 refine qa (hK6 _ _ (wp_block (wp_loop_rounds 12 ?_)))
 refine xd fun K7 hK7 => ?_
 refine wsk fun K8 hK8 => wrl (sdo (v := bV false) A dbK λa A↦?_)
 refine qa (hK8 _ _ (wsk fun K9 hK9 => wp_cond_false (A.ev rfl) ?_))
 refine wp_exit (hK5 _ _ (wsk fun K10 hK10 => wsk fun K11 hK11 => wrl (sdo (v := pA g2 0) A (qe SmA_fld_24_0 rfl rfl) λa A↦?_)))
 refine sdo A (qp V SmA_is1_4 rfl 0 rfl rfl) λa A↦?_
 refine qa (hK11 _ _ (ct A ?_))
 refine wsk fun K12 hK12 => wrl (sdm A λa A↦?_)
 refine sdo (v := iV 0) A (za rfl (ar_neg (by decide))) λa A↦?_
 refine sda A λa A↦?_
 refine qa (hK12 _ _ (wr1 hret A ?_))
 exact ⟨by first | rfl | (simp only [sgn]; rfl) | decide, V.bel⟩
theorem qwe {w : World} {a1 a2 : Option Addr} {ac1 ac2 m2 : Nat} {d0 : Nat} (h0 : d0 < 4294967296) (ha : Rd w a1 [d0]) : Calls Tryz.prog 81 #[.agg #[bV false, .slice a1 1 ac1, .slice a2 m2 ac2]] w fun e w' => e = .returned (iV (sgn false (d0))) ∧ Below w.heap.size w w' := by
 have V : St w w [] [(a1, [d0])] [] := (St.start w).addR ha
 refine qr (l := [(0, .agg #[bV false, .slice a1 1 ac1, .slice a2 m2 ac2])]) Tryz.func81 rfl Tryz.ntmps81 rfl rfl ?_
 intro Q hret hnorm hP a A
 refine wsk fun K1 hK1 => wrl (qz A V rfl rfl rfl pg (zg rfl rfl) rfl ?_)
 intro g2 w3 V a A
 refine sda A λa A↦?_
 refine qa (hK1 _ _ (wsk fun K4 hK4 => wrl (sda A λa A↦?_)))
 refine qa (hK4 _ _ (wsk fun K5 hK5 => wsk fun K6 hK6 => wrl (sdo (v := pA g2 1) A (qe SmA_fld_24_1 rfl rfl) λa A↦?_)))
 refine sdo A (qp V SmA_is1_22 rfl 0 rfl rfl) λa A↦?_
 refine sdo A (zp Tryz.underlying22 rfl) λa A↦?_
 refine sdm A λa A↦?_
 refine qa (hK6 _ _ (wp_block (wp_loop_rounds 12 ?_)))
 refine xd fun K7 hK7 => ?_
 refine wsk fun K8 hK8 => wrl (sdo (v := bV true) A dbK λa A↦?_)
 refine qa (hK8 _ _ (wsk fun K9 hK9 => wp_cond_true (A.ev rfl) ?_))
 refine wp_skip (hK9 _ _ (wsk fun K10 hK10 => wp_block (wsk fun K11 hK11 => wrl (sdm A λa A↦?_))))
 have hi15 : 0 < ([d0]).length := by first | (simp; done) | omega
 obtain ⟨b12, f13, hso14⟩ := Rd.addr (V.rd 0 rfl) hi15
 refine sdo (v := pA b12 (f13 + 0)) A (zw (k := 0) Tryz.underlying22 (by kernel_rfl) rfl rfl (by omega) hso14 (by omega)) λa A↦?_
 refine sdo (v := .int .u32 (((([d0]).getD 0 0 : Nat) : Int))) A (jp (V.rd 0 rfl) hso14 hi15 SmA_is1_99 rfl) λa A↦?_
 iterate 2 refine sda A λa A↦?_
 refine qa (hK11 _ _ (wrl ?_))
 iterate 2 refine sdm A λa A↦?_
 refine sdo (v := iV (((d0 : Nat) : Int))) A (zu rfl (ar_conv Tryz.underlying99 Tryz.underlying3 (show IntKind.i64.wrap ((d0 : Nat) : Int) = ((d0 : Nat) : Int) from qbb (by omega)))) λa A↦?_
 refine sdm A λa A↦?_
 refine sdo (v := iV 0) A dbK λa A↦?_
 refine sdo (v := iV (((d0 : Nat) : Int))) A (qb rfl rfl (ar_shl (n := 0) rfl rfl (qej (by omega)))) λa A↦?_
 refine sdo (v := iV (((d0 : Nat) : Int))) A (qb rfl rfl (ar_or (qja (by omega)))) λa A↦?_
 refine sda A λa A↦?_
 refine qa (hK10 _ _ (wrl (sdo (v := iV 1) A dbK λa A↦?_)))
 refine sdm A λa A↦?_
 refine qa (hK7 _ _ (xd fun K16 hK16 => ?_))
 refine wsk fun K17 hK17 => wrl (sdo (v := bV false) A dbK λa A↦?_)
 refine qa (hK17 _ _ (wsk fun K18 hK18 => wp_cond_false (A.ev rfl) ?_))
 refine wp_exit (hK5 _ _ (wsk fun K19 hK19 => wsk fun K20 hK20 => wrl (sdo (v := pA g2 0) A (qe SmA_fld_24_0 rfl rfl) λa A↦?_)))
 refine sdo A (qp V SmA_is1_4 rfl 0 rfl rfl) λa A↦?_
 refine qa (hK20 _ _ (cf A ?_))
 refine wp_skip (hK19 _ _ (wsk fun K21 hK21 => wrl (sdm A λa A↦?_)))
 refine sda A λa A↦?_
 refine qa (hK21 _ _ (wr1 hret A ?_))
 exact ⟨by first | rfl | (simp only [sgn]; rfl) | decide, V.bel⟩
theorem qwf {w : World} {a1 a2 : Option Addr} {ac1 ac2 m2 : Nat} {d0 : Nat} (h0 : d0 < 4294967296) (ha : Rd w a1 [d0]) : Calls Tryz.prog 81 #[.agg #[bV true, .slice a1 1 ac1, .slice a2 m2 ac2]] w fun e w' => e = .returned (iV (sgn true (d0))) ∧ Below w.heap.size w w' := by
 have V : St w w [] [(a1, [d0])] [] := (St.start w).addR ha
 refine qr (l := [(0, .agg #[bV true, .slice a1 1 ac1, .slice a2 m2 ac2])]) Tryz.func81 rfl Tryz.ntmps81 rfl rfl ?_
 intro Q hret hnorm hP a A
 refine wsk fun K1 hK1 => wrl (qz A V rfl rfl rfl pg (zg rfl rfl) rfl ?_)
 intro g2 w3 V a A
 refine sda A λa A↦?_
 refine qa (hK1 _ _ (wsk fun K4 hK4 => wrl (sda A λa A↦?_)))
 refine qa (hK4 _ _ (wsk fun K5 hK5 => wsk fun K6 hK6 => wrl (sdo (v := pA g2 1) A (qe SmA_fld_24_1 rfl rfl) λa A↦?_)))
 refine sdo A (qp V SmA_is1_22 rfl 0 rfl rfl) λa A↦?_
 refine sdo A (zp Tryz.underlying22 rfl) λa A↦?_
 refine sdm A λa A↦?_
 refine qa (hK6 _ _ (wp_block (wp_loop_rounds 12 ?_)))
 refine xd fun K7 hK7 => ?_
 refine wsk fun K8 hK8 => wrl (sdo (v := bV true) A dbK λa A↦?_)
 refine qa (hK8 _ _ (wsk fun K9 hK9 => wp_cond_true (A.ev rfl) ?_))
 refine wp_skip (hK9 _ _ (wsk fun K10 hK10 => wp_block (wsk fun K11 hK11 => wrl (sdm A λa A↦?_))))
 have hi15 : 0 < ([d0]).length := by first | (simp; done) | omega
 obtain ⟨b12, f13, hso14⟩ := Rd.addr (V.rd 0 rfl) hi15
 refine sdo (v := pA b12 (f13 + 0)) A (zw (k := 0) Tryz.underlying22 (by kernel_rfl) rfl rfl (by omega) hso14 (by omega)) λa A↦?_
 refine sdo (v := .int .u32 (((([d0]).getD 0 0 : Nat) : Int))) A (jp (V.rd 0 rfl) hso14 hi15 SmA_is1_99 rfl) λa A↦?_
 iterate 2 refine sda A λa A↦?_
 refine qa (hK11 _ _ (wrl ?_))
 iterate 2 refine sdm A λa A↦?_
 refine sdo (v := iV (((d0 : Nat) : Int))) A (zu rfl (ar_conv Tryz.underlying99 Tryz.underlying3 (show IntKind.i64.wrap ((d0 : Nat) : Int) = ((d0 : Nat) : Int) from qbb (by omega)))) λa A↦?_
 refine sdm A λa A↦?_
 refine sdo (v := iV 0) A dbK λa A↦?_
 refine sdo (v := iV (((d0 : Nat) : Int))) A (qb rfl rfl (ar_shl (n := 0) rfl rfl (qej (by omega)))) λa A↦?_
 refine sdo (v := iV (((d0 : Nat) : Int))) A (qb rfl rfl (ar_or (qja (by omega)))) λa A↦?_
 refine sda A λa A↦?_
 refine qa (hK10 _ _ (wrl (sdo (v := iV 1) A dbK λa A↦?_)))
 refine sdm A λa A↦?_
 refine qa (hK7 _ _ (xd fun K16 hK16 => ?_))
 refine wsk fun K17 hK17 => wrl (sdo (v := bV false) A dbK λa A↦?_)
 refine qa (hK17 _ _ (wsk fun K18 hK18 => wp_cond_false (A.ev rfl) ?_))
 refine wp_exit (hK5 _ _ (wsk fun K19 hK19 => wsk fun K20 hK20 => wrl (sdo (v := pA g2 0) A (qe SmA_fld_24_0 rfl rfl) λa A↦?_)))
 refine sdo A (qp V SmA_is1_4 rfl 0 rfl rfl) λa A↦?_
 refine qa (hK20 _ _ (ct A ?_))
 refine wsk fun K21 hK21 => wrl (sdm A λa A↦?_)
 refine sdo (v := iV (-(((d0 : Nat) : Int)))) A (za rfl (zmf (uy (by omega) (by omega)))) λa A↦?_
 refine sda A λa A↦?_
 refine qa (hK21 _ _ (wr1 hret A ?_))
 exact ⟨by first | rfl | (simp only [sgn]; rfl) | decide, V.bel⟩
theorem qwg {w : World} {a1 a2 : Option Addr} {ac1 ac2 m2 : Nat} {d0 d1 y x : Nat} (h0 : d0 < 4294967296) (h1 : d1 < 2147483648) (hy : d1 * 4294967296 = y) (hx : d0 + y = x) (hx9 : x ≤ 9223372036854775807) (ha : Rd w a1 [d0, d1]) : Calls Tryz.prog 81 #[.agg #[bV false, .slice a1 2 ac1, .slice a2 m2 ac2]] w fun e w' => e = .returned (iV (sgn false (x))) ∧ Below w.heap.size w w' := by
 have V : St w w [] [(a1, [d0, d1])] [] := (St.start w).addR ha
 refine qr (l := [(0, .agg #[bV false, .slice a1 2 ac1, .slice a2 m2 ac2])]) Tryz.func81 rfl Tryz.ntmps81 rfl rfl ?_
 intro Q hret hnorm hP a A
 refine wsk fun K1 hK1 => wrl (qz A V rfl rfl rfl pg (zg rfl rfl) rfl ?_)
 intro g2 w3 V a A
 refine sda A λa A↦?_
 refine qa (hK1 _ _ (wsk fun K4 hK4 => wrl (sda A λa A↦?_)))
 refine qa (hK4 _ _ (wsk fun K5 hK5 => wsk fun K6 hK6 => wrl (sdo (v := pA g2 1) A (qe SmA_fld_24_1 rfl rfl) λa A↦?_)))
 refine sdo A (qp V SmA_is1_22 rfl 0 rfl rfl) λa A↦?_
 refine sdo A (zp Tryz.underlying22 rfl) λa A↦?_
 refine sdm A λa A↦?_
 refine qa (hK6 _ _ (wp_block (wp_loop_rounds 12 ?_)))
 refine xd fun K7 hK7 => ?_
 refine wsk fun K8 hK8 => wrl (sdo (v := bV true) A dbK λa A↦?_)
 refine qa (hK8 _ _ (wsk fun K9 hK9 => wp_cond_true (A.ev rfl) ?_))
 refine wp_skip (hK9 _ _ (wsk fun K10 hK10 => wp_block (wsk fun K11 hK11 => wrl (sdm A λa A↦?_))))
 have hi15 : 0 < ([d0, d1]).length := by first | (simp; done) | omega
 obtain ⟨b12, f13, hso14⟩ := Rd.addr (V.rd 0 rfl) hi15
 refine sdo (v := pA b12 (f13 + 0)) A (zw (k := 0) Tryz.underlying22 (by kernel_rfl) rfl rfl (by omega) hso14 (by omega)) λa A↦?_
 refine sdo (v := .int .u32 (((([d0, d1]).getD 0 0 : Nat) : Int))) A (jp (V.rd 0 rfl) hso14 hi15 SmA_is1_99 rfl) λa A↦?_
 iterate 2 refine sda A λa A↦?_
 refine qa (hK11 _ _ (wrl ?_))
 iterate 2 refine sdm A λa A↦?_
 refine sdo (v := iV (((d0 : Nat) : Int))) A (zu rfl (ar_conv Tryz.underlying99 Tryz.underlying3 (show IntKind.i64.wrap ((d0 : Nat) : Int) = ((d0 : Nat) : Int) from qbb (by omega)))) λa A↦?_
 refine sdm A λa A↦?_
 refine sdo (v := iV 0) A dbK λa A↦?_
 refine sdo (v := iV (((d0 : Nat) : Int))) A (qb rfl rfl (ar_shl (n := 0) rfl rfl (qej (by omega)))) λa A↦?_
 refine sdo (v := iV (((d0 : Nat) : Int))) A (qb rfl rfl (ar_or (qja (by omega)))) λa A↦?_
 refine sda A λa A↦?_
 refine qa (hK10 _ _ (wrl (sdo (v := iV 1) A dbK λa A↦?_)))
 refine sdm A λa A↦?_
 refine qa (hK7 _ _ (xd fun K16 hK16 => ?_))
 refine wsk fun K17 hK17 => wrl (sdo (v := bV true) A dbK λa A↦?_)
 refine qa (hK17 _ _ (wsk fun K18 hK18 => wp_cond_true (A.ev rfl) ?_))
 refine wp_skip (hK18 _ _ (wsk fun K19 hK19 => wp_block (wsk fun K20 hK20 => wrl (sdm A λa A↦?_))))
 have hi24 : 1 < ([d0, d1]).length := by first | (simp; done) | omega
 obtain ⟨b21, f22, hso23⟩ := Rd.addr (V.rd 0 rfl) hi24
 refine sdo (v := pA b21 (f22 + 1)) A (zw (k := 1) Tryz.underlying22 (by kernel_rfl) rfl rfl (by omega) hso23 (by omega)) λa A↦?_
 refine sdo (v := .int .u32 (((([d0, d1]).getD 1 0 : Nat) : Int))) A (jp (V.rd 0 rfl) hso23 hi24 SmA_is1_99 rfl) λa A↦?_
 iterate 2 refine sda A λa A↦?_
 refine qa (hK20 _ _ (wrl ?_))
 iterate 2 refine sdm A λa A↦?_
 refine sdo (v := iV (((d1 : Nat) : Int))) A (zu rfl (ar_conv Tryz.underlying99 Tryz.underlying3 (show IntKind.i64.wrap ((d1 : Nat) : Int) = ((d1 : Nat) : Int) from qbb (by omega)))) λa A↦?_
 refine sdm A λa A↦?_
 refine sdo (v := iV 32) A dbK λa A↦?_
 refine sdo (v := iV (((y : Nat) : Int))) A (qb rfl rfl (ar_shl (n := 32) rfl rfl (zge (by omega) hy))) λa A↦?_
 refine sdo (v := iV (((x : Nat) : Int))) A (qb rfl rfl (ar_or (zzi (by omega) (by omega) hy hx))) λa A↦?_
 refine sda A λa A↦?_
 refine qa (hK19 _ _ (wrl (sdo (v := iV 2) A dbK λa A↦?_)))
 refine sdm A λa A↦?_
 refine qa (hK16 _ _ (xd fun K25 hK25 => ?_))
 refine wsk fun K26 hK26 => wrl (sdo (v := bV false) A dbK λa A↦?_)
 refine qa (hK26 _ _ (wsk fun K27 hK27 => wp_cond_false (A.ev rfl) ?_))
 refine wp_exit (hK5 _ _ (wsk fun K28 hK28 => wsk fun K29 hK29 => wrl (sdo (v := pA g2 0) A (qe SmA_fld_24_0 rfl rfl) λa A↦?_)))
 refine sdo A (qp V SmA_is1_4 rfl 0 rfl rfl) λa A↦?_
 refine qa (hK29 _ _ (cf A ?_))
 refine wp_skip (hK28 _ _ (wsk fun K30 hK30 => wrl (sdm A λa A↦?_)))
 refine sda A λa A↦?_
 refine qa (hK30 _ _ (wr1 hret A ?_))
 exact ⟨by first | rfl | (simp only [sgn]; rfl) | decide, V.bel⟩
theorem qwh {w : World} {a1 a2 : Option Addr} {ac1 ac2 m2 : Nat} {d0 d1 y x : Nat} (h0 : d0 < 4294967296) (h1 : d1 < 2147483648) (hy : d1 * 4294967296 = y) (hx : d0 + y = x) (hx9 : x ≤ 9223372036854775807) (ha : Rd w a1 [d0, d1]) : Calls Tryz.prog 81 #[.agg #[bV true, .slice a1 2 ac1, .slice a2 m2 ac2]] w fun e w' => e = .returned (iV (sgn true (x))) ∧ Below w.heap.size w w' := by
 have V : St w w [] [(a1, [d0, d1])] [] := (St.start w).addR ha
 refine qr (l := [(0, .agg #[bV true, .slice a1 2 ac1, .slice a2 m2 ac2])]) Tryz.func81 rfl Tryz.ntmps81 rfl rfl ?_
 intro Q hret hnorm hP a A
 refine wsk fun K1 hK1 => wrl (qz A V rfl rfl rfl pg (zg rfl rfl) rfl ?_)
 intro g2 w3 V a A
 refine sda A λa A↦?_
 refine qa (hK1 _ _ (wsk fun K4 hK4 => wrl (sda A λa A↦?_)))
 refine qa (hK4 _ _ (wsk fun K5 hK5 => wsk fun K6 hK6 => wrl (sdo (v := pA g2 1) A (qe SmA_fld_24_1 rfl rfl) λa A↦?_)))
 refine sdo A (qp V SmA_is1_22 rfl 0 rfl rfl) λa A↦?_
 refine sdo A (zp Tryz.underlying22 rfl) λa A↦?_
 refine sdm A λa A↦?_
 refine qa (hK6 _ _ (wp_block (wp_loop_rounds 12 ?_)))
 refine xd fun K7 hK7 => ?_
 refine wsk fun K8 hK8 => wrl (sdo (v := bV true) A dbK λa A↦?_)
 refine qa (hK8 _ _ (wsk fun K9 hK9 => wp_cond_true (A.ev rfl) ?_))
 refine wp_skip (hK9 _ _ (wsk fun K10 hK10 => wp_block (wsk fun K11 hK11 => wrl (sdm A λa A↦?_))))
 have hi15 : 0 < ([d0, d1]).length := by first | (simp; done) | omega
 obtain ⟨b12, f13, hso14⟩ := Rd.addr (V.rd 0 rfl) hi15
 refine sdo (v := pA b12 (f13 + 0)) A (zw (k := 0) Tryz.underlying22 (by kernel_rfl) rfl rfl (by omega) hso14 (by omega)) λa A↦?_
 refine sdo (v := .int .u32 (((([d0, d1]).getD 0 0 : Nat) : Int))) A (jp (V.rd 0 rfl) hso14 hi15 SmA_is1_99 rfl) λa A↦?_
 iterate 2 refine sda A λa A↦?_
 refine qa (hK11 _ _ (wrl ?_))
 iterate 2 refine sdm A λa A↦?_
 refine sdo (v := iV (((d0 : Nat) : Int))) A (zu rfl (ar_conv Tryz.underlying99 Tryz.underlying3 (show IntKind.i64.wrap ((d0 : Nat) : Int) = ((d0 : Nat) : Int) from qbb (by omega)))) λa A↦?_
 refine sdm A λa A↦?_
 refine sdo (v := iV 0) A dbK λa A↦?_
 refine sdo (v := iV (((d0 : Nat) : Int))) A (qb rfl rfl (ar_shl (n := 0) rfl rfl (qej (by omega)))) λa A↦?_
 refine sdo (v := iV (((d0 : Nat) : Int))) A (qb rfl rfl (ar_or (qja (by omega)))) λa A↦?_
 refine sda A λa A↦?_
 refine qa (hK10 _ _ (wrl (sdo (v := iV 1) A dbK λa A↦?_)))
 refine sdm A λa A↦?_
 refine qa (hK7 _ _ (xd fun K16 hK16 => ?_))
 refine wsk fun K17 hK17 => wrl (sdo (v := bV true) A dbK λa A↦?_)
 refine qa (hK17 _ _ (wsk fun K18 hK18 => wp_cond_true (A.ev rfl) ?_))
 refine wp_skip (hK18 _ _ (wsk fun K19 hK19 => wp_block (wsk fun K20 hK20 => wrl (sdm A λa A↦?_))))
 have hi24 : 1 < ([d0, d1]).length := by first | (simp; done) | omega
 obtain ⟨b21, f22, hso23⟩ := Rd.addr (V.rd 0 rfl) hi24
 refine sdo (v := pA b21 (f22 + 1)) A (zw (k := 1) Tryz.underlying22 (by kernel_rfl) rfl rfl (by omega) hso23 (by omega)) λa A↦?_
 refine sdo (v := .int .u32 (((([d0, d1]).getD 1 0 : Nat) : Int))) A (jp (V.rd 0 rfl) hso23 hi24 SmA_is1_99 rfl) λa A↦?_
 iterate 2 refine sda A λa A↦?_
 refine qa (hK20 _ _ (wrl ?_))
 iterate 2 refine sdm A λa A↦?_
 refine sdo (v := iV (((d1 : Nat) : Int))) A (zu rfl (ar_conv Tryz.underlying99 Tryz.underlying3 (show IntKind.i64.wrap ((d1 : Nat) : Int) = ((d1 : Nat) : Int) from qbb (by omega)))) λa A↦?_
 refine sdm A λa A↦?_
 refine sdo (v := iV 32) A dbK λa A↦?_
 refine sdo (v := iV (((y : Nat) : Int))) A (qb rfl rfl (ar_shl (n := 32) rfl rfl (zge (by omega) hy))) λa A↦?_
 refine sdo (v := iV (((x : Nat) : Int))) A (qb rfl rfl (ar_or (zzi (by omega) (by omega) hy hx))) λa A↦?_
 refine sda A λa A↦?_
 refine qa (hK19 _ _ (wrl (sdo (v := iV 2) A dbK λa A↦?_)))
 refine sdm A λa A↦?_
 refine qa (hK16 _ _ (xd fun K25 hK25 => ?_))
 refine wsk fun K26 hK26 => wrl (sdo (v := bV false) A dbK λa A↦?_)
 refine qa (hK26 _ _ (wsk fun K27 hK27 => wp_cond_false (A.ev rfl) ?_))
 refine wp_exit (hK5 _ _ (wsk fun K28 hK28 => wsk fun K29 hK29 => wrl (sdo (v := pA g2 0) A (qe SmA_fld_24_0 rfl rfl) λa A↦?_)))
 refine sdo A (qp V SmA_is1_4 rfl 0 rfl rfl) λa A↦?_
 refine qa (hK29 _ _ (ct A ?_))
 refine wsk fun K30 hK30 => wrl (sdm A λa A↦?_)
 refine sdo (v := iV (-(((x : Nat) : Int)))) A (za rfl (zmf (uy (by omega) (by omega)))) λa A↦?_
 refine sda A λa A↦?_
 refine qa (hK30 _ _ (wr1 hret A ?_))
 exact ⟨by first | rfl | (simp only [sgn]; rfl) | decide, V.bel⟩
theorem qwi {w : World} {a1 a2 : Option Addr} {ac1 ac2 m2 : Nat}  (ha : Rd w a1 [0, 2147483648]) : Calls Tryz.prog 81 #[.agg #[bV true, .slice a1 2 ac1, .slice a2 m2 ac2]] w fun e w' => e = .returned (iV (sgn true (9223372036854775808))) ∧ Below w.heap.size w w' := by
 have V : St w w [] [(a1, [0, 2147483648])] [] := (St.start w).addR ha
 refine qr (l := [(0, .agg #[bV true, .slice a1 2 ac1, .slice a2 m2 ac2])]) Tryz.func81 rfl Tryz.ntmps81 rfl rfl ?_
 intro Q hret hnorm hP a A
 refine wsk fun K1 hK1 => wrl (qz A V rfl rfl rfl pg (zg rfl rfl) rfl ?_)
 intro g2 w3 V a A
 refine sda A λa A↦?_
 refine qa (hK1 _ _ (wsk fun K4 hK4 => wrl (sda A λa A↦?_)))
 refine qa (hK4 _ _ (wsk fun K5 hK5 => wsk fun K6 hK6 => wrl (sdo (v := pA g2 1) A (qe SmA_fld_24_1 rfl rfl) λa A↦?_)))
 refine sdo A (qp V SmA_is1_22 rfl 0 rfl rfl) λa A↦?_
 refine sdo A (zp Tryz.underlying22 rfl) λa A↦?_
 refine sdm A λa A↦?_
 refine qa (hK6 _ _ (wp_block (wp_loop_rounds 12 ?_)))
 refine xd fun K7 hK7 => ?_
 refine wsk fun K8 hK8 => wrl (sdo (v := bV true) A dbK λa A↦?_)
 refine qa (hK8 _ _ (wsk fun K9 hK9 => wp_cond_true (A.ev rfl) ?_))
 refine wp_skip (hK9 _ _ (wsk fun K10 hK10 => wp_block (wsk fun K11 hK11 => wrl (sdm A λa A↦?_))))
 have hi15 : 0 < ([0, 2147483648]).length := by first | (simp; done) | omega
 obtain ⟨b12, f13, hso14⟩ := Rd.addr (V.rd 0 rfl) hi15
 refine sdo (v := pA b12 (f13 + 0)) A (zw (k := 0) Tryz.underlying22 (by kernel_rfl) rfl rfl (by omega) hso14 (by omega)) λa A↦?_
 refine sdo (v := .int .u32 (((([0, 2147483648]).getD 0 0 : Nat) : Int))) A (jp (V.rd 0 rfl) hso14 hi15 SmA_is1_99 rfl) λa A↦?_
 iterate 2 refine sda A λa A↦?_
 refine qa (hK11 _ _ (wrl ?_))
 iterate 2 refine sdm A λa A↦?_
 refine sdo (v := iV 0) A (zu rfl (ar_conv Tryz.underlying99 Tryz.underlying3 (show IntKind.i64.wrap ((0 : Nat) : Int) = 0 from by decide))) λa A↦?_
 refine sdm A λa A↦?_
 refine sdo (v := iV 0) A dbK λa A↦?_
 refine sdo (v := iV 0) A (qb rfl rfl (ar_shl (n := 0) rfl rfl (by decide))) λa A↦?_
 refine sdo (v := iV 0) A (qb rfl rfl (ar_or (by decide))) λa A↦?_
 refine sda A λa A↦?_
 refine qa (hK10 _ _ (wrl (sdo (v := iV 1) A dbK λa A↦?_)))
 refine sdm A λa A↦?_
 refine qa (hK7 _ _ (xd fun K16 hK16 => ?_))
 refine wsk fun K17 hK17 => wrl (sdo (v := bV true) A dbK λa A↦?_)
 refine qa (hK17 _ _ (wsk fun K18 hK18 => wp_cond_true (A.ev rfl) ?_))
 refine wp_skip (hK18 _ _ (wsk fun K19 hK19 => wp_block (wsk fun K20 hK20 => wrl (sdm A λa A↦?_))))
 have hi24 : 1 < ([0, 2147483648]).length := by first | (simp; done) | omega
 obtain ⟨b21, f22, hso23⟩ := Rd.addr (V.rd 0 rfl) hi24
 refine sdo (v := pA b21 (f22 + 1)) A (zw (k := 1) Tryz.underlying22 (by kernel_rfl) rfl rfl (by omega) hso23 (by omega)) λa A↦?_
 refine sdo (v := .int .u32 (((([0, 2147483648]).getD 1 0 : Nat) : Int))) A (jp (V.rd 0 rfl) hso23 hi24 SmA_is1_99 rfl) λa A↦?_
 iterate 2 refine sda A λa A↦?_
 refine qa (hK20 _ _ (wrl ?_))
 iterate 2 refine sdm A λa A↦?_
 refine sdo (v := iV 2147483648) A (zu rfl (ar_conv Tryz.underlying99 Tryz.underlying3 (show IntKind.i64.wrap ((2147483648 : Nat) : Int) = 2147483648 from by decide))) λa A↦?_
 refine sdm A λa A↦?_
 refine sdo (v := iV 32) A dbK λa A↦?_
 refine sdo (v := iV (-9223372036854775808)) A (qb rfl rfl (ar_shl (n := 32) rfl rfl (by decide))) λa A↦?_
 refine sdo (v := iV (-9223372036854775808)) A (qb rfl rfl (ar_or (by decide))) λa A↦?_
 refine sda A λa A↦?_
 refine qa (hK19 _ _ (wrl (sdo (v := iV 2) A dbK λa A↦?_)))
 refine sdm A λa A↦?_
 refine qa (hK16 _ _ (xd fun K25 hK25 => ?_))
 refine wsk fun K26 hK26 => wrl (sdo (v := bV false) A dbK λa A↦?_)
 refine qa (hK26 _ _ (wsk fun K27 hK27 => wp_cond_false (A.ev rfl) ?_))
 refine wp_exit (hK5 _ _ (wsk fun K28 hK28 => wsk fun K29 hK29 => wrl (sdo (v := pA g2 0) A (qe SmA_fld_24_0 rfl rfl) λa A↦?_)))
 refine sdo A (qp V SmA_is1_4 rfl 0 rfl rfl) λa A↦?_
 refine qa (hK29 _ _ (ct A ?_))
 refine wsk fun K30 hK30 => wrl (sdm A λa A↦?_)
 refine sdo (v := iV (-9223372036854775808)) A (za rfl (ar_neg (by decide))) λa A↦?_
 refine sda A λa A↦?_
 refine qa (hK30 _ _ (wr1 hret A ?_))
 exact ⟨by first | rfl | (simp only [sgn]; rfl) | decide, V.bel⟩
theorem qod {w : World} {b : Bool} {x : Nat} {a1 a2 : Option Addr} {ac1 ac2 m2 : Nat} (ha : Rd w a1 (words x)) (hx : x ≤ 9223372036854775807 + b.toNat) : Calls Tryz.prog 81 #[.agg #[bV b, .slice a1 (words x).length ac1, .slice a2 m2 ac2]] w fun e w' => e = .returned (iV (sgn b x)) ∧ Below w.heap.size w w' := by
 by_cases k0 : x = 0
 ·
  subst k0
  rw [words_zero] at *
  cases b
  ·
   exact qwc ha
  ·
   exact qwd ha
 by_cases k1 : x < 4294967296
 ·
  rw [qei k0 k1] at *
  cases b
  ·
   exact qwe k1 ha
  ·
   exact qwf k1 ha
 have hb : b.toNat ≤ 1 := by cases b <;> decide
 rw [qra (by omega) (by omega)] at *
 by_cases k2 : x = 9223372036854775808
 ·
  subst k2
  cases b
  ·
   simp at hx
  ·
   exact qwi ha
 have hx9 : x ≤ 9223372036854775807 := by omega
 cases b
 ·
  exact qwg (d0 := x % 4294967296) (d1 := x / 4294967296) (by omega) (by omega) rfl (by omega) hx9 ha
 ·
  exact qwh (d0 := x % 4294967296) (d1 := x / 4294967296) (by omega) (by omega) rfl (by omega) hx9 ha
theorem qwj {w : World} {q : Q6} {a1 a2 a3 a4 : Option Addr} {ac1 ac2 ac3 ac4 : Nat} (ha : Nm w q a1 ac1 a2 ac2 a3 ac3 a4 ac4) (hl : LenQ q) (h1 : jw q = false) : Calls Tryz.prog 57 #[qdi q a1 ac1 a2 ac2 a3 ac3 a4 ac4] w fun e w' => e = .returned (.tuple #[iV 0, iV 2]) ∧ Below w.heap.size w w' := by
 have V : St w w [] [(a4, q.q2), (a3, q.t2), (a2, q.q1), (a1, q.t1)] [] := ((((St.start w).addR ha.s1.rd).addR ha.s2.rd).addR ha.s3.rd).addR ha.s4.rd
 refine qr (l := [(0, .agg #[bV q.b1, .slice a1 q.t1.length ac1, .slice a2 q.q1.length ac2, bV q.b2, .slice a3 q.t2.length ac3, .slice a4 q.q2.length ac4])]) Tryz.func57 rfl Tryz.ntmps57 rfl rfl ?_
 intro Q hret hnorm hP a A
 refine wsk fun K1 hK1 => wrl (qz A V rfl rfl rfl pg (zg rfl rfl) rfl ?_)
 intro g2 w3 V a A
 iterate 2 refine sda A λa A↦?_
 refine qa (hK1 _ _ (wsk fun K4 hK4 => wsk fun K5 hK5 => wrl (sdo A (qk V SmA_isS_26 rfl 0 rfl (cs := [bV q.b1, .slice a1 q.t1.length ac1, .slice a2 q.q1.length ac2, bV q.b2, .slice a3 q.t2.length ac3, .slice a4 q.q2.length ac4]) rfl rfl) λa A↦?_)))
 refine sct A (ef rfl rfl) (vp (show Nm _ _ a1 ac1 a2 ac2 a3 ac3 a4 ac4 from ⟨⟨(V.rd 3 rfl), ha.s1.nil, ha.s1.cap⟩, ⟨(V.rd 2 rfl), ha.s2.nil, ha.s2.cap⟩, ⟨(V.rd 1 rfl), ha.s3.nil, ha.s3.cap⟩, ⟨(V.rd 0 rfl), ha.s4.nil, ha.s4.cap⟩⟩) hl h1) ?_
 rintro _ w7 ⟨rfl, hb6⟩
 replace V := V.call hb6
 refine ⟨_, rfl, ?_⟩
 intro a A
 refine sdo (v := bV true) A (za rfl zk) λa A↦?_
 refine qa (hK5 _ _ (ct A ?_))
 refine wsk fun K8 hK8 => wrl ?_
 iterate 2 refine sda A λa A↦?_
 refine qa (hK8 _ _ (wp_ret (hret _ _ (en2 A rfl (qg rfl) (qg rfl) ?_))))
 exact ⟨rfl, V.bel⟩
theorem qxa {w : World} {q : Q6} {a1 a2 a3 a4 : Option Addr} {ac1 ac2 ac3 ac4 : Nat} (ha : Nm w q a1 ac1 a2 ac2 a3 ac3 a4 ac4) (hl : LenQ q) (h1 : jw q = true) (h2 : decide (q.t2.length = 0) = false) : Calls Tryz.prog 57 #[qdi q a1 ac1 a2 ac2 a3 ac3 a4 ac4] w fun e w' => e = .returned (.tuple #[iV 0, iV 10]) ∧ Below w.heap.size w w' := by
 have V : St w w [] [(a4, q.q2), (a3, q.t2), (a2, q.q1), (a1, q.t1)] [] := ((((St.start w).addR ha.s1.rd).addR ha.s2.rd).addR ha.s3.rd).addR ha.s4.rd
 refine qr (l := [(0, .agg #[bV q.b1, .slice a1 q.t1.length ac1, .slice a2 q.q1.length ac2, bV q.b2, .slice a3 q.t2.length ac3, .slice a4 q.q2.length ac4])]) Tryz.func57 rfl Tryz.ntmps57 rfl rfl ?_
 intro Q hret hnorm hP a A
 refine wsk fun K1 hK1 => wrl (qz A V rfl rfl rfl pg (zg rfl rfl) rfl ?_)
 intro g2 w3 V a A
 iterate 2 refine sda A λa A↦?_
 refine qa (hK1 _ _ (wsk fun K4 hK4 => wsk fun K5 hK5 => wrl (sdo A (qk V SmA_isS_26 rfl 0 rfl (cs := [bV q.b1, .slice a1 q.t1.length ac1, .slice a2 q.q1.length ac2, bV q.b2, .slice a3 q.t2.length ac3, .slice a4 q.q2.length ac4]) rfl rfl) λa A↦?_)))
 refine sct A (ef rfl rfl) (vp (show Nm _ _ a1 ac1 a2 ac2 a3 ac3 a4 ac4 from ⟨⟨(V.rd 3 rfl), ha.s1.nil, ha.s1.cap⟩, ⟨(V.rd 2 rfl), ha.s2.nil, ha.s2.cap⟩, ⟨(V.rd 1 rfl), ha.s3.nil, ha.s3.cap⟩, ⟨(V.rd 0 rfl), ha.s4.nil, ha.s4.cap⟩⟩) hl h1) ?_
 rintro _ w7 ⟨rfl, hb6⟩
 replace V := V.call hb6
 refine ⟨_, rfl, ?_⟩
 intro a A
 refine sdo (v := bV false) A (za rfl zk) λa A↦?_
 refine qa (hK5 _ _ (cf A ?_))
 refine wp_skip (hK4 _ _ (wsk fun K8 hK8 => wsk fun K9 hK9 => wrl (sdo A (qk V SmA_isS_26 rfl 0 rfl (cs := [bV q.b1, .slice a1 q.t1.length ac1, .slice a2 q.q1.length ac2, bV q.b2, .slice a3 q.t2.length ac3, .slice a4 q.q2.length ac4]) rfl rfl) λa A↦?_)))
 refine sct A (ef rfl rfl) (vt hl h2) ?_
 rintro _ w11 ⟨rfl, hb10⟩
 replace V := V.call hb10
 refine ⟨_, rfl, ?_⟩
 intro a A
 refine sdo (v := bV true) A (za rfl zk) λa A↦?_
 refine sdm A λa A↦?_
 iterate 5 refine qi A rfl rfl rfl λa A↦?_
 refine sdk (v := bV true) A λa A↦?_
 refine qa (hK9 _ _ (ct A ?_))
 refine wsk fun K12 hK12 => wrl ?_
 iterate 2 refine sda A λa A↦?_
 refine qa (hK12 _ _ (wp_ret (hret _ _ (en2 A rfl (qg rfl) (qg rfl) ?_))))
 exact ⟨rfl, V.bel⟩
theorem qxb {w : World} {q : Q6} {a1 a2 a3 a4 : Option Addr} {ac1 ac2 ac3 ac4 : Nat} (ha : Nm w q a1 ac1 a2 ac2 a3 ac3 a4 ac4) (hl : LenQ q) (h1 : jw q = true) (h2 : decide (q.t2.length = 0) = true) (h3 : decide (q.q1 = [1]) = false) : Calls Tryz.prog 57 #[qdi q a1 ac1 a2 ac2 a3 ac3 a4 ac4] w fun e w' => e = .returned (.tuple #[iV 0, iV 10]) ∧ Below w.heap.size w w' := by
 have V : St w w [] [(a4, q.q2), (a3, q.t2), (a2, q.q1), (a1, q.t1)] [] := ((((St.start w).addR ha.s1.rd).addR ha.s2.rd).addR ha.s3.rd).addR ha.s4.rd
 refine qr (l := [(0, .agg #[bV q.b1, .slice a1 q.t1.length ac1, .slice a2 q.q1.length ac2, bV q.b2, .slice a3 q.t2.length ac3, .slice a4 q.q2.length ac4])]) Tryz.func57 rfl Tryz.ntmps57 rfl rfl ?_
 intro Q hret hnorm hP a A
 refine wsk fun K1 hK1 => wrl (qz A V rfl rfl rfl pg (zg rfl rfl) rfl ?_)
 intro g2 w3 V a A
 iterate 2 refine sda A λa A↦?_
 refine qa (hK1 _ _ (wsk fun K4 hK4 => wsk fun K5 hK5 => wrl (sdo A (qk V SmA_isS_26 rfl 0 rfl (cs := [bV q.b1, .slice a1 q.t1.length ac1, .slice a2 q.q1.length ac2, bV q.b2, .slice a3 q.t2.length ac3, .slice a4 q.q2.length ac4]) rfl rfl) λa A↦?_)))
 refine sct A (ef rfl rfl) (vp (show Nm _ _ a1 ac1 a2 ac2 a3 ac3 a4 ac4 from ⟨⟨(V.rd 3 rfl), ha.s1.nil, ha.s1.cap⟩, ⟨(V.rd 2 rfl), ha.s2.nil, ha.s2.cap⟩, ⟨(V.rd 1 rfl), ha.s3.nil, ha.s3.cap⟩, ⟨(V.rd 0 rfl), ha.s4.nil, ha.s4.cap⟩⟩) hl h1) ?_
 rintro _ w7 ⟨rfl, hb6⟩
 replace V := V.call hb6
 refine ⟨_, rfl, ?_⟩
 intro a A
 refine sdo (v := bV false) A (za rfl zk) λa A↦?_
 refine qa (hK5 _ _ (cf A ?_))
 refine wp_skip (hK4 _ _ (wsk fun K8 hK8 => wsk fun K9 hK9 => wrl (sdo A (qk V SmA_isS_26 rfl 0 rfl (cs := [bV q.b1, .slice a1 q.t1.length ac1, .slice a2 q.q1.length ac2, bV q.b2, .slice a3 q.t2.length ac3, .slice a4 q.q2.length ac4]) rfl rfl) λa A↦?_)))
 refine sct A (ef rfl rfl) (vt hl h2) ?_
 rintro _ w11 ⟨rfl, hb10⟩
 replace V := V.call hb10
 refine ⟨_, rfl, ?_⟩
 intro a A
 refine sdo (v := bV false) A (za rfl zk) λa A↦?_
 refine sdm A λa A↦?_
 refine sdo (v := pA g2 0) A (qe SmA_fld_26_0 rfl rfl) λa A↦?_
 refine sdo (v := pA g2 2) A (qe SmA_fld_24_2 rfl rfl) λa A↦?_
 refine sdo A (qp V SmA_is1_22 rfl 0 rfl rfl) λa A↦?_
 refine sct A (ef rfl rfl) (kx _ (V.rd 2 rfl) hl.l2 h3) ?_
 rintro _ w13 ⟨rfl, hb12⟩
 replace hb12 := kw hb12
 replace V := V.call hb12
 refine ⟨_, rfl, ?_⟩
 intro a A
 refine sdo (v := bV true) A (za rfl zk) λa A↦?_
 refine sdk (v := bV true) A λa A↦?_
 refine qa (hK9 _ _ (ct A ?_))
 refine wsk fun K14 hK14 => wrl ?_
 iterate 2 refine sda A λa A↦?_
 refine qa (hK14 _ _ (wp_ret (hret _ _ (en2 A rfl (qg rfl) (qg rfl) ?_))))
 exact ⟨rfl, V.bel⟩
theorem qxc {w : World} {x : Nat} {a1 a2 a3 a4 : Option Addr} {ac1 ac2 ac3 ac4 : Nat} (ha : Nm w (Q6.whole false x) a1 ac1 a2 ac2 a3 ac3 a4 ac4) (hl : LenQ (Q6.whole false x)) (hs : jw (Q6.whole false x) = true) (hx : (words x).length ≤ 512) (hg : (words 9223372036854775807).length ≤ 512) (hc : ¬ x ≤ 9223372036854775807) : Calls Tryz.prog 57 #[qdi (Q6.whole false x) a1 ac1 a2 ac2 a3 ac3 a4 ac4] w fun e w' => e = .returned (.tuple #[iV 0, iV 4]) ∧ Below w.heap.size w w' := by
 have V : St w w [] [(a4, [1]), (a3, []), (a2, [1]), (a1, words x)] [] := ((((St.start w).addR ha.s1.rd).addR ha.s2.rd).addR ha.s3.rd).addR ha.s4.rd
 refine qr (l := [(0, .agg #[bV false, .slice a1 ((words x).length) ac1, .slice a2 1 ac2, bV false, .slice a3 0 ac3, .slice a4 1 ac4])]) Tryz.func57 rfl Tryz.ntmps57 rfl rfl ?_
 intro Q hret hnorm hP a A
 refine wsk fun K1 hK1 => wrl (qz A V rfl rfl rfl pg (zg rfl rfl) rfl ?_)
 intro g2 w3 V a A
 iterate 2 refine sda A λa A↦?_
 refine qa (hK1 _ _ (wsk fun K4 hK4 => wsk fun K5 hK5 => wrl (sdo A (qk V SmA_isS_26 rfl 0 rfl (cs := [bV false, .slice a1 ((words x).length) ac1, .slice a2 1 ac2, bV false, .slice a3 0 ac3, .slice a4 1 ac4]) rfl rfl) λa A↦?_)))
 refine sct A (ef rfl rfl) (vp (show Nm _ _ a1 ac1 a2 ac2 a3 ac3 a4 ac4 from ⟨⟨(V.rd 3 rfl), ha.s1.nil, ha.s1.cap⟩, ⟨(V.rd 2 rfl), ha.s2.nil, ha.s2.cap⟩, ⟨(V.rd 1 rfl), ha.s3.nil, ha.s3.cap⟩, ⟨(V.rd 0 rfl), ha.s4.nil, ha.s4.cap⟩⟩) hl hs) ?_
 rintro _ w7 ⟨rfl, hb6⟩
 replace V := V.call hb6
 refine ⟨_, rfl, ?_⟩
 intro a A
 refine sdo (v := bV false) A (za rfl zk) λa A↦?_
 refine qa (hK5 _ _ (cf A ?_))
 refine wp_skip (hK4 _ _ (wsk fun K8 hK8 => wsk fun K9 hK9 => wrl (sdo A (qk V SmA_isS_26 rfl 0 rfl (cs := [bV false, .slice a1 ((words x).length) ac1, .slice a2 1 ac2, bV false, .slice a3 0 ac3, .slice a4 1 ac4]) rfl rfl) λa A↦?_)))
 refine sct A (ef rfl rfl) (vt (q := Q6.whole false x) hl rfl) ?_
 rintro _ w11 ⟨rfl, hb10⟩
 replace V := V.call hb10
 refine ⟨_, rfl, ?_⟩
 intro a A
 refine sdo (v := bV false) A (za rfl zk) λa A↦?_
 refine sdm A λa A↦?_
 refine sdo (v := pA g2 0) A (qe SmA_fld_26_0 rfl rfl) λa A↦?_
 refine sdo (v := pA g2 2) A (qe SmA_fld_24_2 rfl rfl) λa A↦?_
 refine sdo A (qp V SmA_is1_22 rfl 0 rfl rfl) λa A↦?_
 refine sct A (ef rfl rfl) (kx _ (V.rd 2 rfl) (by decide) rfl) ?_
 rintro _ w13 ⟨rfl, hb12⟩
 replace hb12 := kw hb12
 replace V := V.call hb12
 refine ⟨_, rfl, ?_⟩
 intro a A
 refine sdo (v := bV false) A (za rfl zk) λa A↦?_
 refine sdk (v := bV false) A λa A↦?_
 refine qa (hK9 _ _ (cf A ?_))
 refine wp_skip (hK8 _ _ (wsk fun K14 hK14 => wrl (sda A λa A↦?_)))
 refine qa (hK14 _ _ (wsk fun K15 hK15 => wsk fun K16 hK16 => wrl (sdo (v := pA g2 0) A (qe SmA_fld_26_0 rfl rfl) λa A↦?_)))
 refine sdo (v := pA g2 0) A (qe SmA_fld_24_0 rfl rfl) λa A↦?_
 refine sdo A (qp V SmA_is1_4 rfl 0 rfl rfl) λa A↦?_
 refine qa (hK16 _ _ (cf A ?_))
 refine wp_skip (hK15 _ _ (wsk fun K17 hK17 => wsk fun K18 hK18 => jh (S := fun w1 => St w w1 [(g2, [bV false, .slice a1 ((words x).length) ac1, .slice a2 1 ac2, bV false, .slice a3 0 ac3, .slice a4 1 ac4])] [(a4, [1]), (a3, []), (a2, [1]), (a1, words x)] []) (by kernel_rfl) ?_))
 replace V := V.drew
 refine atk (v := pA g2 0) A 0 rfl hP V (λ_ V↦qe SmA_fld_26_0 rfl rfl) λa A↦?_
 refine atk (v := pA g2 1) A 1 rfl hP V (λ_ V↦qe SmA_fld_24_1 rfl rfl) λa A↦?_
 refine atk A 2 rfl hP V (λ_ V↦qp V SmA_is1_22 rfl 0 rfl rfl) λa A↦?_
 refine atk A 3 rfl hP V (λ_ V↦qs rfl) λa A↦?_
 refine zj (by kernel_rfl) (js A 4 rfl rfl rfl rfl (zy  rfl rfl (fun w => by kernel_rfl)) (of_any 9223372036854775807 _ (by decide)) ?_)
 rintro _ w23 ⟨ro19, rc20, rfl, ho21, hb22⟩
 replace V := V.call hb22
 replace V := V.addR ho21.rd
 refine ⟨_, rfl, (V.partD (.refl _) 1 rfl (.refl _)), ?_⟩
 intro a A
 refine zj (by kernel_rfl) (js A 5 rfl rfl rfl rfl (zy  rfl rfl (fun w => by kernel_rfl)) ((qba hx hg ▸ cmp_any _ _ (V.rd 4 rfl) (V.rd 0 rfl) (by omega) (by omega))) ?_)
 rintro _ w25 ⟨rfl, hb24⟩
 replace V := V.call hb24
 refine ⟨_, rfl, (V.partD (.refl _) 1 rfl (.refl _)), ?_⟩
 intro a A
 refine atk (v := bV true) A 6 rfl hP (V.partD (.refl _) 1 rfl (.refl _)) (λ_ V↦qb rfl rfl (fun w => (zs w).trans (by rw [show (decide (0 < cmpN x 9223372036854775807)) = true from (decide_eq_true (by unfold cmpN; split <;> (try split) <;> omega))]))) λa A↦?_
 refine zr (by kernel_rfl) ?_
 refine hK18 _ _ (ct A ?_)
 refine wsk fun K26 hK26 => wrl ?_
 iterate 2 refine sda A λa A↦?_
 refine qa (hK26 _ _ (wp_ret (hret _ _ (en2 A rfl (qg rfl) (qg rfl) ?_))))
 exact ⟨rfl, V.bel⟩
theorem qxd {w : World} {x : Nat} {a1 a2 a3 a4 : Option Addr} {ac1 ac2 ac3 ac4 : Nat} (ha : Nm w (Q6.whole false x) a1 ac1 a2 ac2 a3 ac3 a4 ac4) (hl : LenQ (Q6.whole false x)) (hs : jw (Q6.whole false x) = true) (hx : (words x).length ≤ 512) (hg : (words 9223372036854775807).length ≤ 512) (hc : x ≤ 9223372036854775807) : Calls Tryz.prog 57 #[qdi (Q6.whole false x) a1 ac1 a2 ac2 a3 ac3 a4 ac4] w fun e w' => e = .returned (.tuple #[iV (sgn false x), iV 0]) ∧ Below w.heap.size w w' := by
 have V : St w w [] [(a4, [1]), (a3, []), (a2, [1]), (a1, words x)] [] := ((((St.start w).addR ha.s1.rd).addR ha.s2.rd).addR ha.s3.rd).addR ha.s4.rd
 refine qr (l := [(0, .agg #[bV false, .slice a1 ((words x).length) ac1, .slice a2 1 ac2, bV false, .slice a3 0 ac3, .slice a4 1 ac4])]) Tryz.func57 rfl Tryz.ntmps57 rfl rfl ?_
 intro Q hret hnorm hP a A
 refine wsk fun K1 hK1 => wrl (qz A V rfl rfl rfl pg (zg rfl rfl) rfl ?_)
 intro g2 w3 V a A
 iterate 2 refine sda A λa A↦?_
 refine qa (hK1 _ _ (wsk fun K4 hK4 => wsk fun K5 hK5 => wrl (sdo A (qk V SmA_isS_26 rfl 0 rfl (cs := [bV false, .slice a1 ((words x).length) ac1, .slice a2 1 ac2, bV false, .slice a3 0 ac3, .slice a4 1 ac4]) rfl rfl) λa A↦?_)))
 refine sct A (ef rfl rfl) (vp (show Nm _ _ a1 ac1 a2 ac2 a3 ac3 a4 ac4 from ⟨⟨(V.rd 3 rfl), ha.s1.nil, ha.s1.cap⟩, ⟨(V.rd 2 rfl), ha.s2.nil, ha.s2.cap⟩, ⟨(V.rd 1 rfl), ha.s3.nil, ha.s3.cap⟩, ⟨(V.rd 0 rfl), ha.s4.nil, ha.s4.cap⟩⟩) hl hs) ?_
 rintro _ w7 ⟨rfl, hb6⟩
 replace V := V.call hb6
 refine ⟨_, rfl, ?_⟩
 intro a A
 refine sdo (v := bV false) A (za rfl zk) λa A↦?_
 refine qa (hK5 _ _ (cf A ?_))
 refine wp_skip (hK4 _ _ (wsk fun K8 hK8 => wsk fun K9 hK9 => wrl (sdo A (qk V SmA_isS_26 rfl 0 rfl (cs := [bV false, .slice a1 ((words x).length) ac1, .slice a2 1 ac2, bV false, .slice a3 0 ac3, .slice a4 1 ac4]) rfl rfl) λa A↦?_)))
 refine sct A (ef rfl rfl) (vt (q := Q6.whole false x) hl rfl) ?_
 rintro _ w11 ⟨rfl, hb10⟩
 replace V := V.call hb10
 refine ⟨_, rfl, ?_⟩
 intro a A
 refine sdo (v := bV false) A (za rfl zk) λa A↦?_
 refine sdm A λa A↦?_
 refine sdo (v := pA g2 0) A (qe SmA_fld_26_0 rfl rfl) λa A↦?_
 refine sdo (v := pA g2 2) A (qe SmA_fld_24_2 rfl rfl) λa A↦?_
 refine sdo A (qp V SmA_is1_22 rfl 0 rfl rfl) λa A↦?_
 refine sct A (ef rfl rfl) (kx _ (V.rd 2 rfl) (by decide) rfl) ?_
 rintro _ w13 ⟨rfl, hb12⟩
 replace hb12 := kw hb12
 replace V := V.call hb12
 refine ⟨_, rfl, ?_⟩
 intro a A
 refine sdo (v := bV false) A (za rfl zk) λa A↦?_
 refine sdk (v := bV false) A λa A↦?_
 refine qa (hK9 _ _ (cf A ?_))
 refine wp_skip (hK8 _ _ (wsk fun K14 hK14 => wrl (sda A λa A↦?_)))
 refine qa (hK14 _ _ (wsk fun K15 hK15 => wsk fun K16 hK16 => wrl (sdo (v := pA g2 0) A (qe SmA_fld_26_0 rfl rfl) λa A↦?_)))
 refine sdo (v := pA g2 0) A (qe SmA_fld_24_0 rfl rfl) λa A↦?_
 refine sdo A (qp V SmA_is1_4 rfl 0 rfl rfl) λa A↦?_
 refine qa (hK16 _ _ (cf A ?_))
 refine wp_skip (hK15 _ _ (wsk fun K17 hK17 => wsk fun K18 hK18 => jh (S := fun w1 => St w w1 [(g2, [bV false, .slice a1 ((words x).length) ac1, .slice a2 1 ac2, bV false, .slice a3 0 ac3, .slice a4 1 ac4])] [(a4, [1]), (a3, []), (a2, [1]), (a1, words x)] []) (by kernel_rfl) ?_))
 replace V := V.drew
 refine atk (v := pA g2 0) A 0 rfl hP V (λ_ V↦qe SmA_fld_26_0 rfl rfl) λa A↦?_
 refine atk (v := pA g2 1) A 1 rfl hP V (λ_ V↦qe SmA_fld_24_1 rfl rfl) λa A↦?_
 refine atk A 2 rfl hP V (λ_ V↦qp V SmA_is1_22 rfl 0 rfl rfl) λa A↦?_
 refine atk A 3 rfl hP V (λ_ V↦qs rfl) λa A↦?_
 refine zj (by kernel_rfl) (js A 4 rfl rfl rfl rfl (zy  rfl rfl (fun w => by kernel_rfl)) (of_any 9223372036854775807 _ (by decide)) ?_)
 rintro _ w23 ⟨ro19, rc20, rfl, ho21, hb22⟩
 replace V := V.call hb22
 replace V := V.addR ho21.rd
 refine ⟨_, rfl, (V.partD (.refl _) 1 rfl (.refl _)), ?_⟩
 intro a A
 refine zj (by kernel_rfl) (js A 5 rfl rfl rfl rfl (zy  rfl rfl (fun w => by kernel_rfl)) ((qba hx hg ▸ cmp_any _ _ (V.rd 4 rfl) (V.rd 0 rfl) (by omega) (by omega))) ?_)
 rintro _ w25 ⟨rfl, hb24⟩
 replace V := V.call hb24
 refine ⟨_, rfl, (V.partD (.refl _) 1 rfl (.refl _)), ?_⟩
 intro a A
 refine atk (v := bV false) A 6 rfl hP (V.partD (.refl _) 1 rfl (.refl _)) (λ_ V↦qb rfl rfl (fun w => (zs w).trans (by rw [show (decide (0 < cmpN x 9223372036854775807)) = false from (decide_eq_false (by unfold cmpN; split <;> (try split) <;> omega))]))) λa A↦?_
 refine zr (by kernel_rfl) ?_
 refine hK18 _ _ (cf A ?_)
 refine wp_skip (hK17 _ _ (wsk fun K26 hK26 => wrl (sdo (v := pA g2 0) A (qe SmA_fld_26_0 rfl rfl) λa A↦?_)))
 refine sdo A (qk V SmA_isS_24 rfl 0 rfl (cs := [bV false, .slice a1 ((words x).length) ac1, .slice a2 1 ac2]) rfl rfl) λa A↦?_
 refine sct A (ef rfl rfl) (qod (b := false) (x := x) (V.rd 4 rfl) (by simp; omega)) ?_
 rintro _ w28 ⟨rfl, hb27⟩
 replace V := V.call hb27
 refine ⟨_, rfl, ?_⟩
 intro a A
 iterate 2 refine sda A λa A↦?_
 refine qa (hK26 _ _ (wp_ret (hret _ _ (en2 A rfl (qg rfl) (qg rfl) ?_))))
 exact ⟨rfl, V.bel⟩
theorem qxe {w : World} {x : Nat} {a1 a2 a3 a4 : Option Addr} {ac1 ac2 ac3 ac4 : Nat} (ha : Nm w (Q6.whole true x) a1 ac1 a2 ac2 a3 ac3 a4 ac4) (hl : LenQ (Q6.whole true x)) (hs : jw (Q6.whole true x) = true) (hx : (words x).length ≤ 512) (hg : (words 9223372036854775808).length ≤ 512) (hc : ¬ x ≤ 9223372036854775808) : Calls Tryz.prog 57 #[qdi (Q6.whole true x) a1 ac1 a2 ac2 a3 ac3 a4 ac4] w fun e w' => e = .returned (.tuple #[iV 0, iV 4]) ∧ Below w.heap.size w w' := by
 have V : St w w [] [(a4, [1]), (a3, []), (a2, [1]), (a1, words x)] [] := ((((St.start w).addR ha.s1.rd).addR ha.s2.rd).addR ha.s3.rd).addR ha.s4.rd
 refine qr (l := [(0, .agg #[bV true, .slice a1 ((words x).length) ac1, .slice a2 1 ac2, bV false, .slice a3 0 ac3, .slice a4 1 ac4])]) Tryz.func57 rfl Tryz.ntmps57 rfl rfl ?_
 intro Q hret hnorm hP a A
 refine wsk fun K1 hK1 => wrl (qz A V rfl rfl rfl pg (zg rfl rfl) rfl ?_)
 intro g2 w3 V a A
 iterate 2 refine sda A λa A↦?_
 refine qa (hK1 _ _ (wsk fun K4 hK4 => wsk fun K5 hK5 => wrl (sdo A (qk V SmA_isS_26 rfl 0 rfl (cs := [bV true, .slice a1 ((words x).length) ac1, .slice a2 1 ac2, bV false, .slice a3 0 ac3, .slice a4 1 ac4]) rfl rfl) λa A↦?_)))
 refine sct A (ef rfl rfl) (vp (show Nm _ _ a1 ac1 a2 ac2 a3 ac3 a4 ac4 from ⟨⟨(V.rd 3 rfl), ha.s1.nil, ha.s1.cap⟩, ⟨(V.rd 2 rfl), ha.s2.nil, ha.s2.cap⟩, ⟨(V.rd 1 rfl), ha.s3.nil, ha.s3.cap⟩, ⟨(V.rd 0 rfl), ha.s4.nil, ha.s4.cap⟩⟩) hl hs) ?_
 rintro _ w7 ⟨rfl, hb6⟩
 replace V := V.call hb6
 refine ⟨_, rfl, ?_⟩
 intro a A
 refine sdo (v := bV false) A (za rfl zk) λa A↦?_
 refine qa (hK5 _ _ (cf A ?_))
 refine wp_skip (hK4 _ _ (wsk fun K8 hK8 => wsk fun K9 hK9 => wrl (sdo A (qk V SmA_isS_26 rfl 0 rfl (cs := [bV true, .slice a1 ((words x).length) ac1, .slice a2 1 ac2, bV false, .slice a3 0 ac3, .slice a4 1 ac4]) rfl rfl) λa A↦?_)))
 refine sct A (ef rfl rfl) (vt (q := Q6.whole true x) hl rfl) ?_
 rintro _ w11 ⟨rfl, hb10⟩
 replace V := V.call hb10
 refine ⟨_, rfl, ?_⟩
 intro a A
 refine sdo (v := bV false) A (za rfl zk) λa A↦?_
 refine sdm A λa A↦?_
 refine sdo (v := pA g2 0) A (qe SmA_fld_26_0 rfl rfl) λa A↦?_
 refine sdo (v := pA g2 2) A (qe SmA_fld_24_2 rfl rfl) λa A↦?_
 refine sdo A (qp V SmA_is1_22 rfl 0 rfl rfl) λa A↦?_
 refine sct A (ef rfl rfl) (kx _ (V.rd 2 rfl) (by decide) rfl) ?_
 rintro _ w13 ⟨rfl, hb12⟩
 replace hb12 := kw hb12
 replace V := V.call hb12
 refine ⟨_, rfl, ?_⟩
 intro a A
 refine sdo (v := bV false) A (za rfl zk) λa A↦?_
 refine sdk (v := bV false) A λa A↦?_
 refine qa (hK9 _ _ (cf A ?_))
 refine wp_skip (hK8 _ _ (wsk fun K14 hK14 => wrl (sda A λa A↦?_)))
 refine qa (hK14 _ _ (wsk fun K15 hK15 => wsk fun K16 hK16 => wrl (sdo (v := pA g2 0) A (qe SmA_fld_26_0 rfl rfl) λa A↦?_)))
 refine sdo (v := pA g2 0) A (qe SmA_fld_24_0 rfl rfl) λa A↦?_
 refine sdo A (qp V SmA_is1_4 rfl 0 rfl rfl) λa A↦?_
 refine qa (hK16 _ _ (ct A ?_))
 refine wrl (sdm A λa A↦?_)
 refine sdo (v := .int .u64 9223372036854775808) A (qb rfl rfl (ar_add (by decide))) λa A↦?_
 refine sda A λa A↦?_
 refine qa (hK15 _ _ (wsk fun K17 hK17 => wsk fun K18 hK18 => jh (S := fun w1 => St w w1 [(g2, [bV true, .slice a1 ((words x).length) ac1, .slice a2 1 ac2, bV false, .slice a3 0 ac3, .slice a4 1 ac4])] [(a4, [1]), (a3, []), (a2, [1]), (a1, words x)] []) (by kernel_rfl) ?_))
 replace V := V.drew
 refine atk (v := pA g2 0) A 0 rfl hP V (λ_ V↦qe SmA_fld_26_0 rfl rfl) λa A↦?_
 refine atk (v := pA g2 1) A 1 rfl hP V (λ_ V↦qe SmA_fld_24_1 rfl rfl) λa A↦?_
 refine atk A 2 rfl hP V (λ_ V↦qp V SmA_is1_22 rfl 0 rfl rfl) λa A↦?_
 refine atk A 3 rfl hP V (λ_ V↦qs rfl) λa A↦?_
 refine zj (by kernel_rfl) (js A 4 rfl rfl rfl rfl (zy  rfl rfl (fun w => by kernel_rfl)) (of_any 9223372036854775808 _ (by decide)) ?_)
 rintro _ w23 ⟨ro19, rc20, rfl, ho21, hb22⟩
 replace V := V.call hb22
 replace V := V.addR ho21.rd
 refine ⟨_, rfl, (V.partD (.refl _) 1 rfl (.refl _)), ?_⟩
 intro a A
 refine zj (by kernel_rfl) (js A 5 rfl rfl rfl rfl (zy  rfl rfl (fun w => by kernel_rfl)) ((qba hx hg ▸ cmp_any _ _ (V.rd 4 rfl) (V.rd 0 rfl) (by omega) (by omega))) ?_)
 rintro _ w25 ⟨rfl, hb24⟩
 replace V := V.call hb24
 refine ⟨_, rfl, (V.partD (.refl _) 1 rfl (.refl _)), ?_⟩
 intro a A
 refine atk (v := bV true) A 6 rfl hP (V.partD (.refl _) 1 rfl (.refl _)) (λ_ V↦qb rfl rfl (fun w => (zs w).trans (by rw [show (decide (0 < cmpN x 9223372036854775808)) = true from (decide_eq_true (by unfold cmpN; split <;> (try split) <;> omega))]))) λa A↦?_
 refine zr (by kernel_rfl) ?_
 refine hK18 _ _ (ct A ?_)
 refine wsk fun K26 hK26 => wrl ?_
 iterate 2 refine sda A λa A↦?_
 refine qa (hK26 _ _ (wp_ret (hret _ _ (en2 A rfl (qg rfl) (qg rfl) ?_))))
 exact ⟨rfl, V.bel⟩
theorem qxf {w : World} {x : Nat} {a1 a2 a3 a4 : Option Addr} {ac1 ac2 ac3 ac4 : Nat} (ha : Nm w (Q6.whole true x) a1 ac1 a2 ac2 a3 ac3 a4 ac4) (hl : LenQ (Q6.whole true x)) (hs : jw (Q6.whole true x) = true) (hx : (words x).length ≤ 512) (hg : (words 9223372036854775808).length ≤ 512) (hc : x ≤ 9223372036854775808) : Calls Tryz.prog 57 #[qdi (Q6.whole true x) a1 ac1 a2 ac2 a3 ac3 a4 ac4] w fun e w' => e = .returned (.tuple #[iV (sgn true x), iV 0]) ∧ Below w.heap.size w w' := by
 have V : St w w [] [(a4, [1]), (a3, []), (a2, [1]), (a1, words x)] [] := ((((St.start w).addR ha.s1.rd).addR ha.s2.rd).addR ha.s3.rd).addR ha.s4.rd
 refine qr (l := [(0, .agg #[bV true, .slice a1 ((words x).length) ac1, .slice a2 1 ac2, bV false, .slice a3 0 ac3, .slice a4 1 ac4])]) Tryz.func57 rfl Tryz.ntmps57 rfl rfl ?_
 intro Q hret hnorm hP a A
 refine wsk fun K1 hK1 => wrl (qz A V rfl rfl rfl pg (zg rfl rfl) rfl ?_)
 intro g2 w3 V a A
 iterate 2 refine sda A λa A↦?_
 refine qa (hK1 _ _ (wsk fun K4 hK4 => wsk fun K5 hK5 => wrl (sdo A (qk V SmA_isS_26 rfl 0 rfl (cs := [bV true, .slice a1 ((words x).length) ac1, .slice a2 1 ac2, bV false, .slice a3 0 ac3, .slice a4 1 ac4]) rfl rfl) λa A↦?_)))
 refine sct A (ef rfl rfl) (vp (show Nm _ _ a1 ac1 a2 ac2 a3 ac3 a4 ac4 from ⟨⟨(V.rd 3 rfl), ha.s1.nil, ha.s1.cap⟩, ⟨(V.rd 2 rfl), ha.s2.nil, ha.s2.cap⟩, ⟨(V.rd 1 rfl), ha.s3.nil, ha.s3.cap⟩, ⟨(V.rd 0 rfl), ha.s4.nil, ha.s4.cap⟩⟩) hl hs) ?_
 rintro _ w7 ⟨rfl, hb6⟩
 replace V := V.call hb6
 refine ⟨_, rfl, ?_⟩
 intro a A
 refine sdo (v := bV false) A (za rfl zk) λa A↦?_
 refine qa (hK5 _ _ (cf A ?_))
 refine wp_skip (hK4 _ _ (wsk fun K8 hK8 => wsk fun K9 hK9 => wrl (sdo A (qk V SmA_isS_26 rfl 0 rfl (cs := [bV true, .slice a1 ((words x).length) ac1, .slice a2 1 ac2, bV false, .slice a3 0 ac3, .slice a4 1 ac4]) rfl rfl) λa A↦?_)))
 refine sct A (ef rfl rfl) (vt (q := Q6.whole true x) hl rfl) ?_
 rintro _ w11 ⟨rfl, hb10⟩
 replace V := V.call hb10
 refine ⟨_, rfl, ?_⟩
 intro a A
 refine sdo (v := bV false) A (za rfl zk) λa A↦?_
 refine sdm A λa A↦?_
 refine sdo (v := pA g2 0) A (qe SmA_fld_26_0 rfl rfl) λa A↦?_
 refine sdo (v := pA g2 2) A (qe SmA_fld_24_2 rfl rfl) λa A↦?_
 refine sdo A (qp V SmA_is1_22 rfl 0 rfl rfl) λa A↦?_
 refine sct A (ef rfl rfl) (kx _ (V.rd 2 rfl) (by decide) rfl) ?_
 rintro _ w13 ⟨rfl, hb12⟩
 replace hb12 := kw hb12
 replace V := V.call hb12
 refine ⟨_, rfl, ?_⟩
 intro a A
 refine sdo (v := bV false) A (za rfl zk) λa A↦?_
 refine sdk (v := bV false) A λa A↦?_
 refine qa (hK9 _ _ (cf A ?_))
 refine wp_skip (hK8 _ _ (wsk fun K14 hK14 => wrl (sda A λa A↦?_)))
 refine qa (hK14 _ _ (wsk fun K15 hK15 => wsk fun K16 hK16 => wrl (sdo (v := pA g2 0) A (qe SmA_fld_26_0 rfl rfl) λa A↦?_)))
 refine sdo (v := pA g2 0) A (qe SmA_fld_24_0 rfl rfl) λa A↦?_
 refine sdo A (qp V SmA_is1_4 rfl 0 rfl rfl) λa A↦?_
 refine qa (hK16 _ _ (ct A ?_))
 refine wrl (sdm A λa A↦?_)
 refine sdo (v := .int .u64 9223372036854775808) A (qb rfl rfl (ar_add (by decide))) λa A↦?_
 refine sda A λa A↦?_
 refine qa (hK15 _ _ (wsk fun K17 hK17 => wsk fun K18 hK18 => jh (S := fun w1 => St w w1 [(g2, [bV true, .slice a1 ((words x).length) ac1, .slice a2 1 ac2, bV false, .slice a3 0 ac3, .slice a4 1 ac4])] [(a4, [1]), (a3, []), (a2, [1]), (a1, words x)] []) (by kernel_rfl) ?_))
 replace V := V.drew
 refine atk (v := pA g2 0) A 0 rfl hP V (λ_ V↦qe SmA_fld_26_0 rfl rfl) λa A↦?_
 refine atk (v := pA g2 1) A 1 rfl hP V (λ_ V↦qe SmA_fld_24_1 rfl rfl) λa A↦?_
 refine atk A 2 rfl hP V (λ_ V↦qp V SmA_is1_22 rfl 0 rfl rfl) λa A↦?_
 refine atk A 3 rfl hP V (λ_ V↦qs rfl) λa A↦?_
 refine zj (by kernel_rfl) (js A 4 rfl rfl rfl rfl (zy  rfl rfl (fun w => by kernel_rfl)) (of_any 9223372036854775808 _ (by decide)) ?_)
 rintro _ w23 ⟨ro19, rc20, rfl, ho21, hb22⟩
 replace V := V.call hb22
 replace V := V.addR ho21.rd
 refine ⟨_, rfl, (V.partD (.refl _) 1 rfl (.refl _)), ?_⟩
 intro a A
 refine zj (by kernel_rfl) (js A 5 rfl rfl rfl rfl (zy  rfl rfl (fun w => by kernel_rfl)) ((qba hx hg ▸ cmp_any _ _ (V.rd 4 rfl) (V.rd 0 rfl) (by omega) (by omega))) ?_)
 rintro _ w25 ⟨rfl, hb24⟩
 replace V := V.call hb24
 refine ⟨_, rfl, (V.partD (.refl _) 1 rfl (.refl _)), ?_⟩
 intro a A
 refine atk (v := bV false) A 6 rfl hP (V.partD (.refl _) 1 rfl (.refl _)) (λ_ V↦qb rfl rfl (fun w => (zs w).trans (by rw [show (decide (0 < cmpN x 9223372036854775808)) = false from (decide_eq_false (by unfold cmpN; split <;> (try split) <;> omega))]))) λa A↦?_
 refine zr (by kernel_rfl) ?_
 refine hK18 _ _ (cf A ?_)
 refine wp_skip (hK17 _ _ (wsk fun K26 hK26 => wrl (sdo (v := pA g2 0) A (qe SmA_fld_26_0 rfl rfl) λa A↦?_)))
 refine sdo A (qk V SmA_isS_24 rfl 0 rfl (cs := [bV true, .slice a1 ((words x).length) ac1, .slice a2 1 ac2]) rfl rfl) λa A↦?_
 refine sct A (ef rfl rfl) (qod (b := true) (x := x) (V.rd 4 rfl) (by simp; omega)) ?_
 rintro _ w28 ⟨rfl, hb27⟩
 replace V := V.call hb27
 refine ⟨_, rfl, ?_⟩
 intro a A
 iterate 2 refine sda A λa A↦?_
 refine qa (hK26 _ _ (wp_ret (hret _ _ (en2 A rfl (qg rfl) (qg rfl) ?_))))
 exact ⟨rfl, V.bel⟩
theorem qrh {n : Nat} (h : n < 18446744073709551616) : (words n).length ≤ 512 := Nat.le_trans (words_length_le (k := 2) (by rw [show pw 2 = 18446744073709551616 from rfl]; exact h)) (by decide)
theorem zea {w : World} {q : Q6} {a1 a2 a3 a4 : Option Addr} {ac1 ac2 ac3 ac4 : Nat} (ha : Nm w q a1 ac1 a2 ac2 a3 ac3 a4 ac4) (hl : LenQ q) : Calls Tryz.prog 57 #[qdi q a1 ac1 a2 ac2 a3 ac3 a4 ac4] w fun e w' => e = .returned (.tuple #[iV (ka q).1, iV (ka q).2]) ∧ Below w.heap.size w w' := by
 cases h1 : jw q with
 | false =>
  rw [zcd h1]
  exact qwj ha hl h1
 | true =>
  cases hw : uf q with
  | false =>
   rw [qvg h1 hw]
   cases h2 : decide (q.t2.length = 0) with
   | false => exact qxa ha hl h1 h2
   | true =>
    cases h3 : decide (q.q1 = [1]) with
    | false => exact qxb ha hl h1 h2 h3
    | true =>
     unfold uf at hw
     rw [h1, h2, h3] at hw
     cases hw
  | true =>
   obtain ⟨x, e, hx, hb⟩ := qzi ha.s1.rd.dig ha.s4.rd.dig hw
   generalize q.b1 = b at e hb
   subst e
   rw [qqj hw]
   unfold qqi
   cases b
   ·
    by_cases hc : x ≤ 9223372036854775807
    ·
     rw [if_pos (by simp; omega)]
     exact qxd ha hl h1 hx (qrh (by decide)) hc
    ·
     rw [if_neg (by simp; omega)]
     exact qxc ha hl h1 hx (qrh (by decide)) hc
   ·
    by_cases hc : x ≤ 9223372036854775808
    ·
     rw [if_pos (by simp; omega)]
     exact qxf ha hl h1 hx (qrh (by decide)) hc
    ·
     rw [if_neg (by simp; omega)]
     exact qxe ha hl h1 hx (qrh (by decide)) hc
end Go.Proofs.YtclkfideaameoaaGreatDoor
