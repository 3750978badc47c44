/- Walks of the value of two parts, and of Read. How the document takes a text of a number apart, and that it is the program's way. The values of the parts: the document's and the program's are one. The text of a number, and that reading it gives the number back. Reading the text of a number gives the number back. The text of a whole number of few bits, and back; the text of 12/8. Walks of fields of bits. Walks of the texts of numbers. Walks of the law of the field. Walks of the law on fields. Numbers that come in as arguments. -/
import Derived.Test.YtjkpfnghiooblaaGreatDoorPwholen12e
import Derived.Test.YtjkpfnghiooblaaGreatDoorPwholen12c
import Derived.Test.YtjkpfnghiooblaaGreatDoorPwholen12d
import Derived.Test.YtjkpfnghiooblaaGreatDoorArgs
import Derived.WalkKit
import Derived.ProofKit
import Derived.OpenShut
import Derived.ChangeOld
import Derived.Lib.SmallJoins
import Derived.Deep.Strs
namespace Go.Proofs.YtjkpfnghiooblaaGreatDoor
open Go.RowKit
set_option linter.unusedVariables false
set_option linter.unusedSimpArgs false
set_option maxRecDepth 100000
theorem RxE_isS_132 : IsS Tryz.prog 132 2 := ⟨⟨_, Tryz.underlying132⟩, by kernel_rfl⟩
theorem RxE_isS_26 : IsS Tryz.prog 26 6 := ⟨⟨_, Tryz.underlying26⟩, by kernel_rfl⟩
theorem RxE_isS_88 : IsS Tryz.prog 88 3 := ⟨⟨_, Tryz.underlying88⟩, by kernel_rfl⟩
theorem zed {w : World} {r : Nat} {n m : Nl} (hr : RadN r) (hl1 : n.2.1.length ≤ 9223372036854775807) (hl2 : n.2.2.length ≤ 9223372036854775807) (hk1 : m.2.1.length ≤ 9223372036854775807) (hk2 : m.2.2.length ≤ 9223372036854775807) (h1 : xw r n ≠ 0) (h2 : xw r m ≠ 0) : Calls Tryz.prog 47 #[.agg #[.int .u8 (((n.1 : Nat) : Int)), .string (bsL n.2.1), .string (bsL n.2.2)], .agg #[.int .u8 (((m.1 : Nat) : Int)), .string (bsL m.2.1), .string (bsL m.2.2)], .int .i64 ((r : Nat) : Int)] w (AnsN w (ve r n m)) := by
 have V : St w w [] [] [] := St.start w
 refine qy (l := [(0, .agg #[.int .u8 (((n.1 : Nat) : Int)), .string (bsL n.2.1), .string (bsL n.2.2)]), (1, .agg #[.int .u8 (((m.1 : Nat) : Int)), .string (bsL m.2.1), .string (bsL m.2.2)]), (2, .int .i64 (((r : Nat) : Int)))]) Tryz.func47 rfl Tryz.ntmps47 rfl rfl ?_
 intro Q hret hnorm hP a A
 refine wsk fun K1 hK1 => wrl (qn A V rfl rfl rfl pg (qw rfl rfl) rfl ?_)
 intro g2 w3 V a A
 refine qn A V rfl rfl rfl pg (qw rfl rfl) rfl ?_
 intro g4 w5 V a A
 refine qn (vs := [.bool false, .slice none 0 0, .slice none 0 0, .bool false, .slice none 0 0, .slice none 0 0]) (t := 26) A V rfl rfl rfl pg (ql (z := .agg #[.bool false, .slice none 0 0, .slice none 0 0, .bool false, .slice none 0 0, .slice none 0 0]) (by kernel_rfl) rfl) rfl ?_
 intro g6 w7 V a A
 refine sda A λa A↦?_
 refine qa (hK1 _ _ (wsk fun K8 hK8 => wrl (sdo A (qk V RxE_isS_88 rfl 2 rfl (cs := [.int .u8 (((n.1 : Nat) : Int)), .string (bsL n.2.1), .string (bsL n.2.2)]) rfl rfl) λa A↦?_)))
 refine sdm A λa A↦?_
 refine qg A rfl rfl rfl (qb  rfl rfl (fun w => by kernel_rfl)) (qeh hr hl1 hl2 h1) ?_
 rintro _ w10 ⟨rfl, hb9⟩
 replace V := V.call hb9
 refine ⟨_, rfl, ?_⟩
 intro a A
 refine sdm A λa A↦?_
 iterate 3 refine sdo A (qm (vs := [.agg #[.bool false, .slice none 0 0], .slice none 0 0, .int .i64 ((xw r n))]) rfl rfl) λa A↦?_
 refine qn (vs := [.bool false, .slice none 0 0]) (t := 132) A V rfl rfl rfl pg (ql (z := .agg #[.bool false, .slice none 0 0]) (by kernel_rfl) rfl) rfl ?_
 intro g11 w12 V a A
 refine qr (us := [.bool false, .slice none 0 0]) A V rfl rfl (qi rfl rfl rfl (by kernel_rfl) V 0 rfl rfl rfl) 0 rfl rfl rfl rfl ?_
 intro w13 V
 iterate 2 refine sda A λa A↦?_
 refine qa (hK8 _ _ (wsk fun K14 hK14 => wrl (sdo A (qk V RxE_isS_88 rfl 2 rfl (cs := [.int .u8 (((m.1 : Nat) : Int)), .string (bsL m.2.1), .string (bsL m.2.2)]) rfl rfl) λa A↦?_)))
 refine sdm A λa A↦?_
 refine qg A rfl rfl rfl (qb  rfl rfl (fun w => by kernel_rfl)) (qeh hr hk1 hk2 h2) ?_
 rintro _ w16 ⟨rfl, hb15⟩
 replace V := V.call hb15
 refine ⟨_, rfl, ?_⟩
 intro a A
 refine sdm A λa A↦?_
 iterate 3 refine sdo A (qm (vs := [.agg #[.bool false, .slice none 0 0], .slice none 0 0, .int .i64 ((xw r m))]) rfl rfl) λa A↦?_
 refine qn (vs := [.bool false, .slice none 0 0]) (t := 132) A V rfl rfl rfl pg (ql (z := .agg #[.bool false, .slice none 0 0]) (by kernel_rfl) rfl) rfl ?_
 intro g17 w18 V a A
 refine qr (us := [.bool false, .slice none 0 0]) A V rfl rfl (qi rfl rfl rfl (by kernel_rfl) V 0 rfl rfl rfl) 0 rfl rfl rfl rfl ?_
 intro w19 V
 iterate 2 refine sda A λa A↦?_
 refine qa (hK14 _ _ (wsk fun K20 hK20 => wsk fun K21 hK21 => wrl (mv A rfl rfl rfl λa A↦?_)))
 refine sdo (v := .bool true) A (qe rfl rfl (fun w => (jd w).trans (by rw [show (((xw r n) != 0)) = true from (bne_iff_ne.2 h1)]))) λa A↦?_
 refine sdm A λa A↦?_
 iterate 2 refine ze A rfl rfl rfl λa A↦?_
 refine sdk (v := .bool true) A λa A↦?_
 refine qa (hK21 _ _ (wp_cond_true (A.ev rfl) ?_))
 refine wsk fun K22 hK22 => wrl (sdo (v := .agg #[.bool false, .slice none 0 0, .slice none 0 0, .bool false, .slice none 0 0, .slice none 0 0]) A (za rfl (fun w => by kernel_rfl)) λa A↦?_)
 refine qr (us := [.bool false, .slice none 0 0, .slice none 0 0, .bool false, .slice none 0 0, .slice none 0 0]) A V rfl rfl (qi rfl rfl rfl (by kernel_rfl) V 2 rfl rfl rfl) 2 rfl rfl rfl rfl ?_
 intro w23 V
 refine sda A λa A↦?_
 refine qa (hK22 _ _ (wp_ret (hret _ _ (en2 A rfl (qx V RxE_isS_26 rfl 2 rfl (cs := [.bool false, .slice none 0 0, .slice none 0 0, .bool false, .slice none 0 0, .slice none 0 0]) rfl rfl) (qj rfl) ?_))))
 rw [qob (by first | exact Or.inl h1 | exact Or.inr h2)]
 exact ⟨none, 0, none, 0, none, 0, none, 0, rfl, ⟨Sc.none _, Sc.none _, Sc.none _, Sc.none _⟩, V.bel⟩
theorem zee {w : World} {r : Nat} {n m : Nl} (hr : RadN r) (hl1 : n.2.1.length ≤ 9223372036854775807) (hl2 : n.2.2.length ≤ 9223372036854775807) (hk1 : m.2.1.length ≤ 9223372036854775807) (hk2 : m.2.2.length ≤ 9223372036854775807) (h1 : xw r n ≠ 0) (h2 : xw r m = 0) : Calls Tryz.prog 47 #[.agg #[.int .u8 (((n.1 : Nat) : Int)), .string (bsL n.2.1), .string (bsL n.2.2)], .agg #[.int .u8 (((m.1 : Nat) : Int)), .string (bsL m.2.1), .string (bsL m.2.2)], .int .i64 ((r : Nat) : Int)] w (AnsN w (ve r n m)) := by
 have V : St w w [] [] [] := St.start w
 refine qy (l := [(0, .agg #[.int .u8 (((n.1 : Nat) : Int)), .string (bsL n.2.1), .string (bsL n.2.2)]), (1, .agg #[.int .u8 (((m.1 : Nat) : Int)), .string (bsL m.2.1), .string (bsL m.2.2)]), (2, .int .i64 (((r : Nat) : Int)))]) Tryz.func47 rfl Tryz.ntmps47 rfl rfl ?_
 intro Q hret hnorm hP a A
 refine wsk fun K1 hK1 => wrl (qn A V rfl rfl rfl pg (qw rfl rfl) rfl ?_)
 intro g2 w3 V a A
 refine qn A V rfl rfl rfl pg (qw rfl rfl) rfl ?_
 intro g4 w5 V a A
 refine qn (vs := [.bool false, .slice none 0 0, .slice none 0 0, .bool false, .slice none 0 0, .slice none 0 0]) (t := 26) A V rfl rfl rfl pg (ql (z := .agg #[.bool false, .slice none 0 0, .slice none 0 0, .bool false, .slice none 0 0, .slice none 0 0]) (by kernel_rfl) rfl) rfl ?_
 intro g6 w7 V a A
 refine sda A λa A↦?_
 refine qa (hK1 _ _ (wsk fun K8 hK8 => wrl (sdo A (qk V RxE_isS_88 rfl 2 rfl (cs := [.int .u8 (((n.1 : Nat) : Int)), .string (bsL n.2.1), .string (bsL n.2.2)]) rfl rfl) λa A↦?_)))
 refine sdm A λa A↦?_
 refine qg A rfl rfl rfl (qb  rfl rfl (fun w => by kernel_rfl)) (qeh hr hl1 hl2 h1) ?_
 rintro _ w10 ⟨rfl, hb9⟩
 replace V := V.call hb9
 refine ⟨_, rfl, ?_⟩
 intro a A
 refine sdm A λa A↦?_
 iterate 3 refine sdo A (qm (vs := [.agg #[.bool false, .slice none 0 0], .slice none 0 0, .int .i64 ((xw r n))]) rfl rfl) λa A↦?_
 refine qn (vs := [.bool false, .slice none 0 0]) (t := 132) A V rfl rfl rfl pg (ql (z := .agg #[.bool false, .slice none 0 0]) (by kernel_rfl) rfl) rfl ?_
 intro g11 w12 V a A
 refine qr (us := [.bool false, .slice none 0 0]) A V rfl rfl (qi rfl rfl rfl (by kernel_rfl) V 0 rfl rfl rfl) 0 rfl rfl rfl rfl ?_
 intro w13 V
 iterate 2 refine sda A λa A↦?_
 refine qa (hK8 _ _ (wsk fun K14 hK14 => wrl (sdo A (qk V RxE_isS_88 rfl 2 rfl (cs := [.int .u8 (((m.1 : Nat) : Int)), .string (bsL m.2.1), .string (bsL m.2.2)]) rfl rfl) λa A↦?_)))
 refine sdm A λa A↦?_
 refine qg A rfl rfl rfl (qb  rfl rfl (fun w => by kernel_rfl)) (uq (n := m) hr hk1 hk2 (jp h2).1 (jp h2).2) ?_
 rintro _ w22 ⟨zo15, zc16, zo17, zc18, rfl, hs19, hs20, hb21⟩
 replace V := V.call hb21
 replace V := V.addR hs19.rd
 replace V := V.addR hs20.rd
 refine ⟨_, rfl, ?_⟩
 intro a A
 refine sdm A λa A↦?_
 iterate 3 refine sdo A (qm (vs := [.agg #[.bool ((rb (sgn (decide (m.1 = 45)) (zi r m.2.1)))), .slice zo15 ((words (sgn (decide (m.1 = 45)) (zi r m.2.1)).natAbs).length) zc16], .slice zo17 ((words (zi r m.2.2)).length) zc18, .int .i64 0]) rfl rfl) λa A↦?_
 refine qn (vs := [.bool false, .slice none 0 0]) (t := 132) A V rfl rfl rfl pg (ql (z := .agg #[.bool false, .slice none 0 0]) (by kernel_rfl) rfl) rfl ?_
 intro g23 w24 V a A
 refine qr (us := [.bool ((rb (sgn (decide (m.1 = 45)) (zi r m.2.1)))), .slice zo15 ((words (sgn (decide (m.1 = 45)) (zi r m.2.1)).natAbs).length) zc16]) A V rfl rfl (qi rfl rfl rfl (by kernel_rfl) V 0 rfl rfl rfl) 0 rfl rfl rfl rfl ?_
 intro w25 V
 iterate 2 refine sda A λa A↦?_
 refine qa (hK14 _ _ (wsk fun K26 hK26 => wsk fun K27 hK27 => wrl (mv A rfl rfl rfl λa A↦?_)))
 refine sdo (v := .bool true) A (qe rfl rfl (fun w => (jd w).trans (by rw [show (((xw r n) != 0)) = true from (bne_iff_ne.2 h1)]))) λa A↦?_
 refine sdm A λa A↦?_
 iterate 2 refine ze A rfl rfl rfl λa A↦?_
 refine sdk (v := .bool true) A λa A↦?_
 refine qa (hK27 _ _ (wp_cond_true (A.ev rfl) ?_))
 refine wsk fun K28 hK28 => wrl (sdo (v := .agg #[.bool false, .slice none 0 0, .slice none 0 0, .bool false, .slice none 0 0, .slice none 0 0]) A (za rfl (fun w => by kernel_rfl)) λa A↦?_)
 refine qr (us := [.bool false, .slice none 0 0, .slice none 0 0, .bool false, .slice none 0 0, .slice none 0 0]) A V rfl rfl (qi rfl rfl rfl (by kernel_rfl) V 2 rfl rfl rfl) 2 rfl rfl rfl rfl ?_
 intro w29 V
 refine sda A λa A↦?_
 refine qa (hK28 _ _ (wp_ret (hret _ _ (en2 A rfl (qx V RxE_isS_26 rfl 2 rfl (cs := [.bool false, .slice none 0 0, .slice none 0 0, .bool false, .slice none 0 0, .slice none 0 0]) rfl rfl) (qj rfl) ?_))))
 rw [qob (by first | exact Or.inl h1 | exact Or.inr h2)]
 exact ⟨none, 0, none, 0, none, 0, none, 0, rfl, ⟨Sc.none _, Sc.none _, Sc.none _, Sc.none _⟩, V.bel⟩
theorem zef {w : World} {r : Nat} {n m : Nl} (hr : RadN r) (hl1 : n.2.1.length ≤ 9223372036854775807) (hl2 : n.2.2.length ≤ 9223372036854775807) (hk1 : m.2.1.length ≤ 9223372036854775807) (hk2 : m.2.2.length ≤ 9223372036854775807) (h1 : xw r n = 0) (h2 : xw r m ≠ 0) : Calls Tryz.prog 47 #[.agg #[.int .u8 (((n.1 : Nat) : Int)), .string (bsL n.2.1), .string (bsL n.2.2)], .agg #[.int .u8 (((m.1 : Nat) : Int)), .string (bsL m.2.1), .string (bsL m.2.2)], .int .i64 ((r : Nat) : Int)] w (AnsN w (ve r n m)) := by
 have V : St w w [] [] [] := St.start w
 refine qy (l := [(0, .agg #[.int .u8 (((n.1 : Nat) : Int)), .string (bsL n.2.1), .string (bsL n.2.2)]), (1, .agg #[.int .u8 (((m.1 : Nat) : Int)), .string (bsL m.2.1), .string (bsL m.2.2)]), (2, .int .i64 (((r : Nat) : Int)))]) Tryz.func47 rfl Tryz.ntmps47 rfl rfl ?_
 intro Q hret hnorm hP a A
 refine wsk fun K1 hK1 => wrl (qn A V rfl rfl rfl pg (qw rfl rfl) rfl ?_)
 intro g2 w3 V a A
 refine qn A V rfl rfl rfl pg (qw rfl rfl) rfl ?_
 intro g4 w5 V a A
 refine qn (vs := [.bool false, .slice none 0 0, .slice none 0 0, .bool false, .slice none 0 0, .slice none 0 0]) (t := 26) A V rfl rfl rfl pg (ql (z := .agg #[.bool false, .slice none 0 0, .slice none 0 0, .bool false, .slice none 0 0, .slice none 0 0]) (by kernel_rfl) rfl) rfl ?_
 intro g6 w7 V a A
 refine sda A λa A↦?_
 refine qa (hK1 _ _ (wsk fun K8 hK8 => wrl (sdo A (qk V RxE_isS_88 rfl 2 rfl (cs := [.int .u8 (((n.1 : Nat) : Int)), .string (bsL n.2.1), .string (bsL n.2.2)]) rfl rfl) λa A↦?_)))
 refine sdm A λa A↦?_
 refine qg A rfl rfl rfl (qb  rfl rfl (fun w => by kernel_rfl)) (uq (n := n) hr hl1 hl2 (jp h1).1 (jp h1).2) ?_
 rintro _ w16 ⟨zo9, zc10, zo11, zc12, rfl, hs13, hs14, hb15⟩
 replace V := V.call hb15
 replace V := V.addR hs13.rd
 replace V := V.addR hs14.rd
 refine ⟨_, rfl, ?_⟩
 intro a A
 refine sdm A λa A↦?_
 iterate 3 refine sdo A (qm (vs := [.agg #[.bool ((rb (sgn (decide (n.1 = 45)) (zi r n.2.1)))), .slice zo9 ((words (sgn (decide (n.1 = 45)) (zi r n.2.1)).natAbs).length) zc10], .slice zo11 ((words (zi r n.2.2)).length) zc12, .int .i64 0]) rfl rfl) λa A↦?_
 refine qn (vs := [.bool false, .slice none 0 0]) (t := 132) A V rfl rfl rfl pg (ql (z := .agg #[.bool false, .slice none 0 0]) (by kernel_rfl) rfl) rfl ?_
 intro g17 w18 V a A
 refine qr (us := [.bool ((rb (sgn (decide (n.1 = 45)) (zi r n.2.1)))), .slice zo9 ((words (sgn (decide (n.1 = 45)) (zi r n.2.1)).natAbs).length) zc10]) A V rfl rfl (qi rfl rfl rfl (by kernel_rfl) V 0 rfl rfl rfl) 0 rfl rfl rfl rfl ?_
 intro w19 V
 iterate 2 refine sda A λa A↦?_
 refine qa (hK8 _ _ (wsk fun K20 hK20 => wrl (sdo A (qk V RxE_isS_88 rfl 2 rfl (cs := [.int .u8 (((m.1 : Nat) : Int)), .string (bsL m.2.1), .string (bsL m.2.2)]) rfl rfl) λa A↦?_)))
 refine sdm A λa A↦?_
 refine qg A rfl rfl rfl (qb  rfl rfl (fun w => by kernel_rfl)) (qeh hr hk1 hk2 h2) ?_
 rintro _ w22 ⟨rfl, hb21⟩
 replace V := V.call hb21
 refine ⟨_, rfl, ?_⟩
 intro a A
 refine sdm A λa A↦?_
 iterate 3 refine sdo A (qm (vs := [.agg #[.bool false, .slice none 0 0], .slice none 0 0, .int .i64 ((xw r m))]) rfl rfl) λa A↦?_
 refine qn (vs := [.bool false, .slice none 0 0]) (t := 132) A V rfl rfl rfl pg (ql (z := .agg #[.bool false, .slice none 0 0]) (by kernel_rfl) rfl) rfl ?_
 intro g23 w24 V a A
 refine qr (us := [.bool false, .slice none 0 0]) A V rfl rfl (qi rfl rfl rfl (by kernel_rfl) V 0 rfl rfl rfl) 0 rfl rfl rfl rfl ?_
 intro w25 V
 iterate 2 refine sda A λa A↦?_
 refine qa (hK20 _ _ (wsk fun K26 hK26 => wsk fun K27 hK27 => wrl (mv A rfl rfl rfl λa A↦?_)))
 refine sdo (v := .bool false) A (qe rfl rfl (fun w => by kernel_rfl)) λa A↦?_
 iterate 2 refine sdm A λa A↦?_
 refine sdo (v := .bool true) A (qe rfl rfl (fun w => (jd w).trans (by rw [show (((xw r m) != 0)) = true from (bne_iff_ne.2 h2)]))) λa A↦?_
 refine sdk (v := .bool true) A λa A↦?_
 refine qa (hK27 _ _ (wp_cond_true (A.ev rfl) ?_))
 refine wsk fun K28 hK28 => wrl (sdo (v := .agg #[.bool false, .slice none 0 0, .slice none 0 0, .bool false, .slice none 0 0, .slice none 0 0]) A (za rfl (fun w => by kernel_rfl)) λa A↦?_)
 refine qr (us := [.bool false, .slice none 0 0, .slice none 0 0, .bool false, .slice none 0 0, .slice none 0 0]) A V rfl rfl (qi rfl rfl rfl (by kernel_rfl) V 2 rfl rfl rfl) 2 rfl rfl rfl rfl ?_
 intro w29 V
 refine sda A λa A↦?_
 refine qa (hK28 _ _ (wp_ret (hret _ _ (en2 A rfl (qx V RxE_isS_26 rfl 2 rfl (cs := [.bool false, .slice none 0 0, .slice none 0 0, .bool false, .slice none 0 0, .slice none 0 0]) rfl rfl) (qj rfl) ?_))))
 rw [qob (by first | exact Or.inl h1 | exact Or.inr h2)]
 exact ⟨none, 0, none, 0, none, 0, none, 0, rfl, ⟨Sc.none _, Sc.none _, Sc.none _, Sc.none _⟩, V.bel⟩
theorem zeg {w : World} {r : Nat} {n m : Nl} (hr : RadN r) (hl1 : n.2.1.length ≤ 9223372036854775807) (hl2 : n.2.2.length ≤ 9223372036854775807) (hk1 : m.2.1.length ≤ 9223372036854775807) (hk2 : m.2.2.length ≤ 9223372036854775807) (h1 : xw r n = 0) (h2 : xw r m = 0) (kn : zi r n.2.2 ≠ 0) (km : zi r m.2.2 ≠ 0) : Calls Tryz.prog 47 #[.agg #[.int .u8 (((n.1 : Nat) : Int)), .string (bsL n.2.1), .string (bsL n.2.2)], .agg #[.int .u8 (((m.1 : Nat) : Int)), .string (bsL m.2.1), .string (bsL m.2.2)], .int .i64 ((r : Nat) : Int)] w (AnsN w (ve r n m)) := by
 have jn := kb.2 kn
 have jm := kb.2 km
 have V : St w w [] [] [] := St.start w
 refine qy (l := [(0, .agg #[.int .u8 (((n.1 : Nat) : Int)), .string (bsL n.2.1), .string (bsL n.2.2)]), (1, .agg #[.int .u8 (((m.1 : Nat) : Int)), .string (bsL m.2.1), .string (bsL m.2.2)]), (2, .int .i64 (((r : Nat) : Int)))]) Tryz.func47 rfl Tryz.ntmps47 rfl rfl ?_
 intro Q hret hnorm hP a A
 refine wsk fun K1 hK1 => wrl (qn A V rfl rfl rfl pg (qw rfl rfl) rfl ?_)
 intro g2 w3 V a A
 refine qn A V rfl rfl rfl pg (qw rfl rfl) rfl ?_
 intro g4 w5 V a A
 refine qn (vs := [.bool false, .slice none 0 0, .slice none 0 0, .bool false, .slice none 0 0, .slice none 0 0]) (t := 26) A V rfl rfl rfl pg (ql (z := .agg #[.bool false, .slice none 0 0, .slice none 0 0, .bool false, .slice none 0 0, .slice none 0 0]) (by kernel_rfl) rfl) rfl ?_
 intro g6 w7 V a A
 refine sda A λa A↦?_
 refine qa (hK1 _ _ (wsk fun K8 hK8 => wrl (sdo A (qk V RxE_isS_88 rfl 2 rfl (cs := [.int .u8 (((n.1 : Nat) : Int)), .string (bsL n.2.1), .string (bsL n.2.2)]) rfl rfl) λa A↦?_)))
 refine sdm A λa A↦?_
 refine qg A rfl rfl rfl (qb  rfl rfl (fun w => by kernel_rfl)) (uq (n := n) hr hl1 hl2 (jp h1).1 (jp h1).2) ?_
 rintro _ w16 ⟨zo9, zc10, zo11, zc12, rfl, hs13, hs14, hb15⟩
 replace V := V.call hb15
 replace V := V.addR hs13.rd
 replace V := V.addR hs14.rd
 refine ⟨_, rfl, ?_⟩
 intro a A
 refine sdm A λa A↦?_
 iterate 3 refine sdo A (qm (vs := [.agg #[.bool ((rb (sgn (decide (n.1 = 45)) (zi r n.2.1)))), .slice zo9 ((words (sgn (decide (n.1 = 45)) (zi r n.2.1)).natAbs).length) zc10], .slice zo11 ((words (zi r n.2.2)).length) zc12, .int .i64 0]) rfl rfl) λa A↦?_
 refine qn (vs := [.bool false, .slice none 0 0]) (t := 132) A V rfl rfl rfl pg (ql (z := .agg #[.bool false, .slice none 0 0]) (by kernel_rfl) rfl) rfl ?_
 intro g17 w18 V a A
 refine qr (us := [.bool ((rb (sgn (decide (n.1 = 45)) (zi r n.2.1)))), .slice zo9 ((words (sgn (decide (n.1 = 45)) (zi r n.2.1)).natAbs).length) zc10]) A V rfl rfl (qi rfl rfl rfl (by kernel_rfl) V 0 rfl rfl rfl) 0 rfl rfl rfl rfl ?_
 intro w19 V
 iterate 2 refine sda A λa A↦?_
 refine qa (hK8 _ _ (wsk fun K20 hK20 => wrl (sdo A (qk V RxE_isS_88 rfl 2 rfl (cs := [.int .u8 (((m.1 : Nat) : Int)), .string (bsL m.2.1), .string (bsL m.2.2)]) rfl rfl) λa A↦?_)))
 refine sdm A λa A↦?_
 refine qg A rfl rfl rfl (qb  rfl rfl (fun w => by kernel_rfl)) (uq (n := m) hr hk1 hk2 (jp h2).1 (jp h2).2) ?_
 rintro _ w28 ⟨zo21, zc22, zo23, zc24, rfl, hs25, hs26, hb27⟩
 replace V := V.call hb27
 replace V := V.addR hs25.rd
 replace V := V.addR hs26.rd
 refine ⟨_, rfl, ?_⟩
 intro a A
 refine sdm A λa A↦?_
 iterate 3 refine sdo A (qm (vs := [.agg #[.bool ((rb (sgn (decide (m.1 = 45)) (zi r m.2.1)))), .slice zo21 ((words (sgn (decide (m.1 = 45)) (zi r m.2.1)).natAbs).length) zc22], .slice zo23 ((words (zi r m.2.2)).length) zc24, .int .i64 0]) rfl rfl) λa A↦?_
 refine qn (vs := [.bool false, .slice none 0 0]) (t := 132) A V rfl rfl rfl pg (ql (z := .agg #[.bool false, .slice none 0 0]) (by kernel_rfl) rfl) rfl ?_
 intro g29 w30 V a A
 refine qr (us := [.bool ((rb (sgn (decide (m.1 = 45)) (zi r m.2.1)))), .slice zo21 ((words (sgn (decide (m.1 = 45)) (zi r m.2.1)).natAbs).length) zc22]) A V rfl rfl (qi rfl rfl rfl (by kernel_rfl) V 0 rfl rfl rfl) 0 rfl rfl rfl rfl ?_
 intro w31 V
 iterate 2 refine sda A λa A↦?_
 refine qa (hK20 _ _ (wsk fun K32 hK32 => wsk fun K33 hK33 => wrl (mv A rfl rfl rfl λa A↦?_)))
 refine sdo (v := .bool false) A (qe rfl rfl (fun w => by kernel_rfl)) λa A↦?_
 iterate 2 refine sdm A λa A↦?_
 refine sdo (v := .bool false) A (qe rfl rfl (fun w => by kernel_rfl)) λa A↦?_
 refine sdk (v := .bool false) A λa A↦?_
 refine qa (hK33 _ _ (wp_cond_false (A.ev rfl) ?_))
 refine wp_skip (hK32 _ _ (wsk fun K34 hK34 => wsk fun K35 hK35 => wrl (mv A rfl rfl rfl λa A↦?_)))
 refine sdo A (zg Tryz.underlying22 rfl) λa A↦?_
 refine sdo (v := .bool false) A (qe rfl rfl (fun w => (zl w).trans (by rw [show (((((words (zi r n.2.2)).length : Nat) : Int) == 0)) = false from (beq_eq_false_iff_ne.2 (by omega))]))) λa A↦?_
 iterate 2 refine sdm A λa A↦?_
 refine sdo A (zg Tryz.underlying22 rfl) λa A↦?_
 refine sdo (v := .bool false) A (qe rfl rfl (fun w => (zl w).trans (by rw [show (((((words (zi r m.2.2)).length : Nat) : Int) == 0)) = false from (beq_eq_false_iff_ne.2 (by omega))]))) λa A↦?_
 refine sdk (v := .bool false) A λa A↦?_
 refine qa (hK35 _ _ (wp_cond_false (A.ev rfl) ?_))
 refine wp_skip (hK34 _ _ (wsk fun K36 hK36 => jc (S := fun w1 => St w w1 [(g29, [.bool ((rb (sgn (decide (m.1 = 45)) (zi r m.2.1)))), .slice zo21 ((words (sgn (decide (m.1 = 45)) (zi r m.2.1)).natAbs).length) zc22]), (g17, [.bool ((rb (sgn (decide (n.1 = 45)) (zi r n.2.1)))), .slice zo9 ((words (sgn (decide (n.1 = 45)) (zi r n.2.1)).natAbs).length) zc10]), (g4, [.int .u8 (((m.1 : Nat) : Int)), .string (bsL m.2.1), .string (bsL m.2.2)]), (g2, [.int .u8 (((n.1 : Nat) : Int)), .string (bsL n.2.1), .string (bsL n.2.2)])] [(zo23, words (zi r m.2.2)), (zo21, words (sgn (decide (m.1 = 45)) (zi r m.2.1)).natAbs), (zo11, words (zi r n.2.2)), (zo9, words (sgn (decide (n.1 = 45)) (zi r n.2.1)).natAbs)] []) (by kernel_rfl) ?_))
 replace V := V.drew
 refine qh A 0 rfl rfl rfl rfl hP (V.partD (.cons_cons _ (.cons_cons _ (.cons _ (.cons_cons _ (.cons_cons _ .slnil))))) 0 rfl (.refl _)) (fun w1 V => qk V RxE_isS_132 rfl 1 rfl (cs := [.bool ((rb (sgn (decide (n.1 = 45)) (zi r n.2.1)))), .slice zo9 ((words (sgn (decide (n.1 = 45)) (zi r n.2.1)).natAbs).length) zc10]) rfl rfl) λa A↦?_
 refine qh A 1 rfl rfl rfl rfl hP (V.partD (.cons_cons _ (.cons_cons _ (.cons _ (.cons_cons _ (.cons_cons _ .slnil))))) 0 rfl (.refl _)) (fun w1 V => qz rfl) λa A↦?_
 refine qh A 3 rfl rfl rfl rfl hP (V.partD (.cons_cons _ (.cons_cons _ (.cons _ (.cons_cons _ (.cons_cons _ .slnil))))) 0 rfl (.refl _)) (fun w1 V => qk V RxE_isS_132 rfl 0 rfl (cs := [.bool ((rb (sgn (decide (m.1 = 45)) (zi r m.2.1)))), .slice zo21 ((words (sgn (decide (m.1 = 45)) (zi r m.2.1)).natAbs).length) zc22]) rfl rfl) λa A↦?_
 refine qh A 4 rfl rfl rfl rfl hP (V.partD (.cons_cons _ (.cons_cons _ (.cons _ (.cons_cons _ (.cons_cons _ .slnil))))) 0 rfl (.refl _)) (fun w1 V => qz rfl) λa A↦?_
 refine qt (by kernel_rfl) (zf A 2 rfl rfl rfl rfl (qb  rfl rfl (fun w => by kernel_rfl)) (vp (x := (sgn (decide (n.1 = 45)) (zi r n.2.1))) (d := (zi r n.2.2)) ⟨(V.rd 3 rfl), hs13.nil, hs13.cap⟩ ⟨(V.rd 2 rfl), hs14.nil, hs14.cap⟩ (qki (Nat.le_trans (qge (jp h1).1).2 (by decide))) (Nat.le_trans (qge (jp h1).2).2 (by decide)) kn) ?_)
 rintro _ w41 ⟨f37_1, f37_c1, f37_2, f37_c2, rfl, hs38, hs39, hb40⟩
 replace V := V.call hb40
 replace V := V.addR hs38.rd
 replace V := V.addR hs39.rd
 refine ⟨_, rfl, (V.partD (.cons_cons _ (.cons_cons _ (.cons _ (.cons_cons _ (.cons_cons _ .slnil))))) 2 rfl (.refl _)), ?_⟩
 intro a A
 refine qt (by kernel_rfl) (zf A 5 rfl rfl rfl rfl (qb  rfl rfl (fun w => by kernel_rfl)) (vp (x := (sgn (decide (m.1 = 45)) (zi r m.2.1))) (d := (zi r m.2.2)) ⟨(V.rd 3 rfl), hs25.nil, hs25.cap⟩ ⟨(V.rd 2 rfl), hs26.nil, hs26.cap⟩ (qki (Nat.le_trans (qge (jp h2).1).2 (by decide))) (Nat.le_trans (qge (jp h2).2).2 (by decide)) km) ?_)
 rintro _ w46 ⟨f42_1, f42_c1, f42_2, f42_c2, rfl, hs43, hs44, hb45⟩
 replace V := V.call hb45
 replace V := V.addR hs43.rd
 replace V := V.addR hs44.rd
 refine ⟨_, rfl, (V.partD (.cons_cons _ (.cons_cons _ (.cons _ (.cons_cons _ (.cons_cons _ .slnil))))) 4 rfl (.refl _)), ?_⟩
 intro a A
 refine qh (v := .agg #[.bool ((rb (sgn (decide (n.1 = 45)) (zi r n.2.1)))), .slice f37_1 ((words (rt (sgn (decide (n.1 = 45)) (zi r n.2.1)) (zi r n.2.2))).length) f37_c1, .slice f37_2 ((words (rq (sgn (decide (n.1 = 45)) (zi r n.2.1)) (zi r n.2.2))).length) f37_c2, .bool ((rb (sgn (decide (m.1 = 45)) (zi r m.2.1)))), .slice f42_1 ((words (rt (sgn (decide (m.1 = 45)) (zi r m.2.1)) (zi r m.2.2))).length) f42_c1, .slice f42_2 ((words (rq (sgn (decide (m.1 = 45)) (zi r m.2.1)) (zi r m.2.2))).length) f42_c2]) A 6 rfl rfl rfl rfl hP (V.partD (.cons_cons _ (.cons_cons _ (.cons _ (.cons_cons _ (.cons_cons _ .slnil))))) 4 rfl (.refl _)) (fun w1 V => za rfl (fun w => by kernel_rfl)) λa A↦?_
 refine qt (by kernel_rfl) (zp (us := [.bool ((rb (sgn (decide (n.1 = 45)) (zi r n.2.1)))), .slice f37_1 ((words (rt (sgn (decide (n.1 = 45)) (zi r n.2.1)) (zi r n.2.2))).length) f37_c1, .slice f37_2 ((words (rq (sgn (decide (n.1 = 45)) (zi r n.2.1)) (zi r n.2.2))).length) f37_c2, .bool ((rb (sgn (decide (m.1 = 45)) (zi r m.2.1)))), .slice f42_1 ((words (rt (sgn (decide (m.1 = 45)) (zi r m.2.1)) (zi r m.2.2))).length) f42_c1, .slice f42_2 ((words (rq (sgn (decide (m.1 = 45)) (zi r m.2.1)) (zi r m.2.2))).length) f42_c2]) A V 7 rfl rfl rfl (qi rfl rfl rfl (by kernel_rfl) V 2 rfl rfl rfl) 2 rfl rfl rfl rfl ?_)
 intro w47 V
 refine ⟨(V.partD (.cons_cons _ (.cons_cons _ (.cons _ (.cons_cons _ (.cons_cons _ .slnil))))) 4 rfl (.refl _)), ?_⟩
 refine qh A 8 rfl rfl rfl rfl hP (V.partD (.cons_cons _ (.cons_cons _ (.cons _ (.cons_cons _ (.cons_cons _ .slnil))))) 4 rfl (.refl _)) (fun w1 V => zh rfl) λa A↦?_
 refine zn (by kernel_rfl) ?_
 refine hK36 _ _ (wp_ret (hret _ _ (en2 A rfl (qx V RxE_isS_26 rfl 2 rfl (cs := [.bool ((rb (sgn (decide (n.1 = 45)) (zi r n.2.1)))), .slice f37_1 ((words (rt (sgn (decide (n.1 = 45)) (zi r n.2.1)) (zi r n.2.2))).length) f37_c1, .slice f37_2 ((words (rq (sgn (decide (n.1 = 45)) (zi r n.2.1)) (zi r n.2.2))).length) f37_c2, .bool ((rb (sgn (decide (m.1 = 45)) (zi r m.2.1)))), .slice f42_1 ((words (rt (sgn (decide (m.1 = 45)) (zi r m.2.1)) (zi r m.2.2))).length) f42_c1, .slice f42_2 ((words (rq (sgn (decide (m.1 = 45)) (zi r m.2.1)) (zi r m.2.2))).length) f42_c2]) rfl rfl) (qj rfl) ?_)))
 rw [zyc h1 h2 kn km]
 exact ⟨f37_1, f37_c1, f37_2, f37_c2, f42_1, f42_c1, f42_2, f42_c2, rfl, ⟨⟨(V.rd 3 rfl), hs38.nil, hs38.cap⟩, ⟨(V.rd 2 rfl), hs39.nil, hs39.cap⟩, ⟨(V.rd 1 rfl), hs43.nil, hs43.cap⟩, ⟨(V.rd 0 rfl), hs44.nil, hs44.cap⟩⟩, V.bel⟩
theorem qrh {w : World} {r : Nat} {n m : Nl} (hr : RadN r) (hl1 : n.2.1.length ≤ 9223372036854775807) (hl2 : n.2.2.length ≤ 9223372036854775807) (hk1 : m.2.1.length ≤ 9223372036854775807) (hk2 : m.2.2.length ≤ 9223372036854775807) (h1 : xw r n = 0) (h2 : xw r m = 0) (kz : zi r n.2.2 = 0 ∨ zi r m.2.2 = 0) : Calls Tryz.prog 47 #[.agg #[.int .u8 (((n.1 : Nat) : Int)), .string (bsL n.2.1), .string (bsL n.2.2)], .agg #[.int .u8 (((m.1 : Nat) : Int)), .string (bsL m.2.1), .string (bsL m.2.2)], .int .i64 ((r : Nat) : Int)] w (AnsN w (ve r n m)) := by
 have jz : (words (zi r n.2.2)).length = 0 ∨ (words (zi r m.2.2)).length = 0 := by
  rcases kz with h | h
  ·
   left; rw [h, words_zero]; rfl
  ·
   right; rw [h, words_zero]; rfl
 have V : St w w [] [] [] := St.start w
 refine qy (l := [(0, .agg #[.int .u8 (((n.1 : Nat) : Int)), .string (bsL n.2.1), .string (bsL n.2.2)]), (1, .agg #[.int .u8 (((m.1 : Nat) : Int)), .string (bsL m.2.1), .string (bsL m.2.2)]), (2, .int .i64 (((r : Nat) : Int)))]) Tryz.func47 rfl Tryz.ntmps47 rfl rfl ?_
 intro Q hret hnorm hP a A
 refine wsk fun K1 hK1 => wrl (qn A V rfl rfl rfl pg (qw rfl rfl) rfl ?_)
 intro g2 w3 V a A
 refine qn A V rfl rfl rfl pg (qw rfl rfl) rfl ?_
 intro g4 w5 V a A
 refine qn (vs := [.bool false, .slice none 0 0, .slice none 0 0, .bool false, .slice none 0 0, .slice none 0 0]) (t := 26) A V rfl rfl rfl pg (ql (z := .agg #[.bool false, .slice none 0 0, .slice none 0 0, .bool false, .slice none 0 0, .slice none 0 0]) (by kernel_rfl) rfl) rfl ?_
 intro g6 w7 V a A
 refine sda A λa A↦?_
 refine qa (hK1 _ _ (wsk fun K8 hK8 => wrl (sdo A (qk V RxE_isS_88 rfl 2 rfl (cs := [.int .u8 (((n.1 : Nat) : Int)), .string (bsL n.2.1), .string (bsL n.2.2)]) rfl rfl) λa A↦?_)))
 refine sdm A λa A↦?_
 refine qg A rfl rfl rfl (qb  rfl rfl (fun w => by kernel_rfl)) (uq (n := n) hr hl1 hl2 (jp h1).1 (jp h1).2) ?_
 rintro _ w16 ⟨zo9, zc10, zo11, zc12, rfl, hs13, hs14, hb15⟩
 replace V := V.call hb15
 replace V := V.addR hs13.rd
 replace V := V.addR hs14.rd
 refine ⟨_, rfl, ?_⟩
 intro a A
 refine sdm A λa A↦?_
 iterate 3 refine sdo A (qm (vs := [.agg #[.bool ((rb (sgn (decide (n.1 = 45)) (zi r n.2.1)))), .slice zo9 ((words (sgn (decide (n.1 = 45)) (zi r n.2.1)).natAbs).length) zc10], .slice zo11 ((words (zi r n.2.2)).length) zc12, .int .i64 0]) rfl rfl) λa A↦?_
 refine qn (vs := [.bool false, .slice none 0 0]) (t := 132) A V rfl rfl rfl pg (ql (z := .agg #[.bool false, .slice none 0 0]) (by kernel_rfl) rfl) rfl ?_
 intro g17 w18 V a A
 refine qr (us := [.bool ((rb (sgn (decide (n.1 = 45)) (zi r n.2.1)))), .slice zo9 ((words (sgn (decide (n.1 = 45)) (zi r n.2.1)).natAbs).length) zc10]) A V rfl rfl (qi rfl rfl rfl (by kernel_rfl) V 0 rfl rfl rfl) 0 rfl rfl rfl rfl ?_
 intro w19 V
 iterate 2 refine sda A λa A↦?_
 refine qa (hK8 _ _ (wsk fun K20 hK20 => wrl (sdo A (qk V RxE_isS_88 rfl 2 rfl (cs := [.int .u8 (((m.1 : Nat) : Int)), .string (bsL m.2.1), .string (bsL m.2.2)]) rfl rfl) λa A↦?_)))
 refine sdm A λa A↦?_
 refine qg A rfl rfl rfl (qb  rfl rfl (fun w => by kernel_rfl)) (uq (n := m) hr hk1 hk2 (jp h2).1 (jp h2).2) ?_
 rintro _ w28 ⟨zo21, zc22, zo23, zc24, rfl, hs25, hs26, hb27⟩
 replace V := V.call hb27
 replace V := V.addR hs25.rd
 replace V := V.addR hs26.rd
 refine ⟨_, rfl, ?_⟩
 intro a A
 refine sdm A λa A↦?_
 iterate 3 refine sdo A (qm (vs := [.agg #[.bool ((rb (sgn (decide (m.1 = 45)) (zi r m.2.1)))), .slice zo21 ((words (sgn (decide (m.1 = 45)) (zi r m.2.1)).natAbs).length) zc22], .slice zo23 ((words (zi r m.2.2)).length) zc24, .int .i64 0]) rfl rfl) λa A↦?_
 refine qn (vs := [.bool false, .slice none 0 0]) (t := 132) A V rfl rfl rfl pg (ql (z := .agg #[.bool false, .slice none 0 0]) (by kernel_rfl) rfl) rfl ?_
 intro g29 w30 V a A
 refine qr (us := [.bool ((rb (sgn (decide (m.1 = 45)) (zi r m.2.1)))), .slice zo21 ((words (sgn (decide (m.1 = 45)) (zi r m.2.1)).natAbs).length) zc22]) A V rfl rfl (qi rfl rfl rfl (by kernel_rfl) V 0 rfl rfl rfl) 0 rfl rfl rfl rfl ?_
 intro w31 V
 iterate 2 refine sda A λa A↦?_
 refine qa (hK20 _ _ (wsk fun K32 hK32 => wsk fun K33 hK33 => wrl (mv A rfl rfl rfl λa A↦?_)))
 refine sdo (v := .bool false) A (qe rfl rfl (fun w => by kernel_rfl)) λa A↦?_
 iterate 2 refine sdm A λa A↦?_
 refine sdo (v := .bool false) A (qe rfl rfl (fun w => by kernel_rfl)) λa A↦?_
 refine sdk (v := .bool false) A λa A↦?_
 refine qa (hK33 _ _ (wp_cond_false (A.ev rfl) ?_))
 refine wp_skip (hK32 _ _ (wsk fun K34 hK34 => wsk fun K35 hK35 => wrl (mv A rfl rfl rfl λa A↦?_)))
 refine sdo A (zg Tryz.underlying22 rfl) λa A↦?_
 rcases tf (((((words (zi r n.2.2)).length : Nat) : Int) == 0)) with hb36 | hb36
 ·
  have hb36' := eq_of_beq hb36
  refine sdo (v := .bool true) A (qe rfl rfl (fun w => (zl w).trans (by rw [hb36]))) λa A↦?_
  refine sdm A λa A↦?_
  iterate 3 refine ze A rfl rfl rfl λa A↦?_
  refine sdk (v := .bool true) A λa A↦?_
  refine qa (hK35 _ _ (wp_cond_true (A.ev rfl) ?_))
  refine wsk fun K37 hK37 => wrl (sdo (v := .agg #[.bool false, .slice none 0 0, .slice none 0 0, .bool false, .slice none 0 0, .slice none 0 0]) A (za rfl (fun w => by kernel_rfl)) λa A↦?_)
  refine qr (us := [.bool false, .slice none 0 0, .slice none 0 0, .bool false, .slice none 0 0, .slice none 0 0]) A V rfl rfl (qi rfl rfl rfl (by kernel_rfl) V 2 rfl rfl rfl) 2 rfl rfl rfl rfl ?_
  intro w38 V
  refine sda A λa A↦?_
  refine qa (hK37 _ _ (wp_ret (hret _ _ (en2 A rfl (qx V RxE_isS_26 rfl 2 rfl (cs := [.bool false, .slice none 0 0, .slice none 0 0, .bool false, .slice none 0 0, .slice none 0 0]) rfl rfl) (qj rfl) ?_))))
  rw [qrg h1 h2 kz]
  exact ⟨none, 0, none, 0, none, 0, none, 0, rfl, ⟨Sc.none _, Sc.none _, Sc.none _, Sc.none _⟩, V.bel⟩
 ·
  have hb36' := ne_of_beq_false hb36
  refine sdo (v := .bool false) A (qe rfl rfl (fun w => (zl w).trans (by rw [hb36]))) λa A↦?_
  iterate 2 refine sdm A λa A↦?_
  refine sdo A (zg Tryz.underlying22 rfl) λa A↦?_
  refine sdo (v := .bool true) A (qe rfl rfl (fun w => (zl w).trans (by rw [show (((((words (zi r m.2.2)).length : Nat) : Int) == 0)) = true from (beq_iff_eq.2 (by omega))]))) λa A↦?_
  refine sdk (v := .bool true) A λa A↦?_
  refine qa (hK35 _ _ (wp_cond_true (A.ev rfl) ?_))
  refine wsk fun K39 hK39 => wrl (sdo (v := .agg #[.bool false, .slice none 0 0, .slice none 0 0, .bool false, .slice none 0 0, .slice none 0 0]) A (za rfl (fun w => by kernel_rfl)) λa A↦?_)
  refine qr (us := [.bool false, .slice none 0 0, .slice none 0 0, .bool false, .slice none 0 0, .slice none 0 0]) A V rfl rfl (qi rfl rfl rfl (by kernel_rfl) V 2 rfl rfl rfl) 2 rfl rfl rfl rfl ?_
  intro w40 V
  refine sda A λa A↦?_
  refine qa (hK39 _ _ (wp_ret (hret _ _ (en2 A rfl (qx V RxE_isS_26 rfl 2 rfl (cs := [.bool false, .slice none 0 0, .slice none 0 0, .bool false, .slice none 0 0, .slice none 0 0]) rfl rfl) (qj rfl) ?_))))
  rw [qrg h1 h2 kz]
  exact ⟨none, 0, none, 0, none, 0, none, 0, rfl, ⟨Sc.none _, Sc.none _, Sc.none _, Sc.none _⟩, V.bel⟩
theorem zeh {w : World} {r : Nat} {n m : Nl} (hr : RadN r) (hl1 : n.2.1.length ≤ 9223372036854775807) (hl2 : n.2.2.length ≤ 9223372036854775807) (hk1 : m.2.1.length ≤ 9223372036854775807) (hk2 : m.2.2.length ≤ 9223372036854775807) : Calls Tryz.prog 47 #[.agg #[.int .u8 (((n.1 : Nat) : Int)), .string (bsL n.2.1), .string (bsL n.2.2)], .agg #[.int .u8 (((m.1 : Nat) : Int)), .string (bsL m.2.1), .string (bsL m.2.2)], .int .i64 ((r : Nat) : Int)] w (AnsN w (ve r n m)) := by
 by_cases h1 : xw r n = 0
 ·
  by_cases h2 : xw r m = 0
  ·
   by_cases kn : zi r n.2.2 = 0
   ·
    exact qrh hr hl1 hl2 hk1 hk2 h1 h2 (.inl kn)
   ·
    by_cases km : zi r m.2.2 = 0
    ·
     exact qrh hr hl1 hl2 hk1 hk2 h1 h2 (.inr km)
    ·
     exact zeg hr hl1 hl2 hk1 hk2 h1 h2 kn km
  ·
   exact zef hr hl1 hl2 hk1 hk2 h1 h2
 ·
  by_cases h2 : xw r m = 0
  ·
   exact zee hr hl1 hl2 hk1 hk2 h1 h2
  ·
   exact zed hr hl1 hl2 hk1 hk2 h1 h2
theorem qvb (r : Nat) (l : List UInt8) : (nlD r l).2.1.length ≤ l.length ∧ (nlD r l).2.2.length ≤ l.length := by
 have e : (unS l).length ≤ l.length := by unfold unS; split; rw [List.length_drop]; omega; exact Nat.le_refl _
 have e1 : (qD r l).length ≤ l.length := by unfold qD; rw [List.length_drop]; omega
 unfold nlD
 refine ⟨?_, ?_⟩
 ·
  show (tpD r l).length ≤ _
  unfold tpD
  rw [List.length_take]; omega
 ·
  show (boD r l).length ≤ _
  unfold boD
  split
  ·
   rw [List.length_take, List.length_drop]; omega
  ·
   simp
theorem zyd (r : Nat) (l : List UInt8) : (reP r l).2.1.length ≤ l.length + 1 ∧ (reP r l).2.2.length ≤ l.length + 1 := by
 have h := qvb r l
 unfold reP
 split
 ·
  omega
 ·
  split
  ·
   exact ⟨by simp [nl0], by simp [nl0]⟩
  ·
   omega
theorem zye (r : Nat) (l : List UInt8) : (imP r l).2.1.length ≤ l.length + 1 ∧ (imP r l).2.2.length ≤ l.length + 1 := by
 have h := qvb r l
 have h1 := qvb r (reD r l)
 have h2 := quj r l
 unfold imP
 split
 ·
  exact ⟨by simp [nl0], by simp [nl0]⟩
 ·
  split
  ·
   omega
  ·
   omega
theorem qei {r k : Nat} {l b : List UInt8} (hr : RadN r) (hPx : jw false false r l = (b, k)) : qbe l ((r : Nat) : Int) = if okP k b = true then (if l.length ≤ 16384 then ve k (reP k b) (imP k b) else (Q6.zero, 4)) else (Q6.zero, 5) := by
 have h : vh ((r : Nat) : Int) = true := by rcases hr with h | h | h | h <;> subst h <;> decide
 unfold qbe
 rw [h, if_pos rfl, Int.toNat_natCast, hPx]
theorem qoc {r : Nat} (hr : RadN r) : vh ((r : Nat) : Int) = true := by rcases hr with h | h | h | h <;> subst h <;> decide
theorem zre {w : World} {r k : Nat} {l b : List UInt8} (hr : RadN r) (hl : l.length ≤ 9223372036854775807) (hPx : jw false false r l = (b, k)) : Calls Tryz.prog 14 #[.string (bsL l), .int .i64 ((r : Nat) : Int)] w (AnsN w (qbe l ((r : Nat) : Int))) := by
 have hk : RadN k := by have h := zqi hr false false l; rw [hPx] at h; exact h
 have hb : b.length ≤ l.length := by have h := zqj false false r l; rw [hPx] at h; exact h
 have q1 := zyd k b
 have q2 := zye k b
 have V : St w w [] [] [] := St.start w
 refine qy (l := [(0, .string (bsL l)), (1, .int .i64 (((r : Nat) : Int)))]) Tryz.func14 rfl Tryz.ntmps14 rfl rfl ?_
 intro Q hret hnorm hP a A
 refine wsk fun K1 hK1 => wrl (qn (vs := [.bool false, .slice none 0 0, .slice none 0 0, .bool false, .slice none 0 0, .slice none 0 0]) (t := 26) A V rfl rfl rfl pg (ql (z := .agg #[.bool false, .slice none 0 0, .slice none 0 0, .bool false, .slice none 0 0, .slice none 0 0]) (by kernel_rfl) rfl) rfl ?_)
 intro g2 w3 V a A
 refine sda A λa A↦?_
 refine qa (hK1 _ _ (wsk fun K4 hK4 => wsk fun K5 hK5 => wrl (mv A rfl rfl rfl λa A↦?_)))
 refine qg A rfl rfl rfl (qb  rfl rfl (fun w => by kernel_rfl)) (qah (qoc hr)) ?_
 rintro _ w7 ⟨rfl, hb6⟩
 replace V := V.call hb6
 refine ⟨_, rfl, ?_⟩
 intro a A
 refine sdo (v := .bool false) A (zk rfl zv) λa A↦?_
 refine qa (hK5 _ _ (wp_cond_false (A.ev rfl) ?_))
 refine wp_skip (hK4 _ _ (wsk fun K8 hK8 => wrl ?_))
 iterate 2 refine sdm A λa A↦?_
 refine qg A rfl rfl rfl (qb  rfl rfl (fun w => by kernel_rfl)) ((by have h := qld (w := w7) (r := r) (l := l) hl; rw [hPx] at h; exact h)) ?_
 rintro _ w10 ⟨rfl, hb9⟩
 replace V := V.call hb9
 refine ⟨_, rfl, ?_⟩
 intro a A
 refine sdm A λa A↦?_
 iterate 2 refine sdo A (qm (vs := [.string (bsL b), .int .i64 (((k : Nat) : Int))]) rfl rfl) λa A↦?_
 iterate 2 refine sda A λa A↦?_
 refine qa (hK8 _ _ (wsk fun K11 hK11 => wrl ?_))
 iterate 2 refine sdm A λa A↦?_
 refine qg A rfl rfl rfl (qb  rfl rfl (fun w => by kernel_rfl)) (qva (l := b) hk (by omega)) ?_
 rintro _ w13 ⟨rfl, hb12⟩
 replace V := V.call hb12
 refine ⟨_, rfl, ?_⟩
 intro a A
 refine sdm A λa A↦?_
 iterate 3 refine sdo A (qm (vs := [.agg #[.int .u8 ((((reP k b).1 : Nat) : Int)), .string (bsL ((reP k b).2.1)), .string (bsL ((reP k b).2.2))], .agg #[.int .u8 ((((imP k b).1 : Nat) : Int)), .string (bsL ((imP k b).2.1)), .string (bsL ((imP k b).2.2))], .bool (okP k b)]) rfl rfl) λa A↦?_
 refine qn (vs := [.int .u8 0, .string (bsL []), .string (bsL [])]) (t := 88) A V rfl rfl rfl pg (ql (z := .agg #[.int .u8 0, .string (bsL []), .string (bsL [])]) (by kernel_rfl) rfl) rfl ?_
 intro g14 w15 V a A
 refine qn (vs := [.int .u8 0, .string (bsL []), .string (bsL [])]) (t := 88) A V rfl rfl rfl pg (ql (z := .agg #[.int .u8 0, .string (bsL []), .string (bsL [])]) (by kernel_rfl) rfl) rfl ?_
 intro g16 w17 V a A
 refine qr (us := [.int .u8 ((((reP k b).1 : Nat) : Int)), .string (bsL ((reP k b).2.1)), .string (bsL ((reP k b).2.2))]) A V rfl rfl (qi rfl rfl rfl (by kernel_rfl) V 1 rfl rfl rfl) 1 rfl rfl rfl rfl ?_
 intro w18 V
 refine qr (us := [.int .u8 ((((imP k b).1 : Nat) : Int)), .string (bsL ((imP k b).2.1)), .string (bsL ((imP k b).2.2))]) A V rfl rfl (qi rfl rfl rfl (by kernel_rfl) V 0 rfl rfl rfl) 0 rfl rfl rfl rfl ?_
 intro w19 V
 refine sda A λa A↦?_
 refine qa (hK11 _ _ (wsk fun K20 hK20 => wsk fun K21 hK21 => wrl (mv A rfl rfl rfl λa A↦?_)))
 refine sdo (v := .bool (!(okP k b))) A (zk rfl zv) λa A↦?_
 refine qa (hK21 _ _ ?_)
 refine wp_cond_split (t := !(okP k b)) (A.ev rfl) (fun hc22 => ?_) (fun hc22 => ?_)
 ·
  refine wsk fun K23 hK23 => wrl (sdo (v := .agg #[.bool false, .slice none 0 0, .slice none 0 0, .bool false, .slice none 0 0, .slice none 0 0]) A (za rfl (fun w => by kernel_rfl)) λa A↦?_)
  refine qr (us := [.bool false, .slice none 0 0, .slice none 0 0, .bool false, .slice none 0 0, .slice none 0 0]) A V rfl rfl (qi rfl rfl rfl (by kernel_rfl) V 2 rfl rfl rfl) 2 rfl rfl rfl rfl ?_
  intro w24 V
  refine sda A λa A↦?_
  refine qa (hK23 _ _ (wp_ret (hret _ _ (en2 A rfl (qx V RxE_isS_26 rfl 2 rfl (cs := [.bool false, .slice none 0 0, .slice none 0 0, .bool false, .slice none 0 0, .slice none 0 0]) rfl rfl) (qj rfl) ?_))))
  rw [qei hr hPx, if_neg (by simpa using hc22)]
  exact ⟨none, 0, none, 0, none, 0, none, 0, rfl, ⟨Sc.none _, Sc.none _, Sc.none _, Sc.none _⟩, V.bel⟩
 ·
  refine wp_skip (hK20 _ _ (wsk fun K25 hK25 => wsk fun K26 hK26 => wrl (mv A rfl rfl rfl λa A↦?_)))
  refine sdo A (qii Tryz.underlying9 rfl) λa A↦?_
  rcases tf (decide (16384 < ((l.length : Nat) : Int))) with hb27 | hb27
  ·
   have hb27' := of_decide_eq_true hb27
   refine sdo (v := .bool true) A (qe rfl rfl (fun w => (ju w).trans (by rw [hb27]))) λa A↦?_
   refine qa (hK26 _ _ (wp_cond_true (A.ev rfl) ?_))
   refine wsk fun K28 hK28 => wrl (sdo (v := .agg #[.bool false, .slice none 0 0, .slice none 0 0, .bool false, .slice none 0 0, .slice none 0 0]) A (za rfl (fun w => by kernel_rfl)) λa A↦?_)
   refine qr (us := [.bool false, .slice none 0 0, .slice none 0 0, .bool false, .slice none 0 0, .slice none 0 0]) A V rfl rfl (qi rfl rfl rfl (by kernel_rfl) V 2 rfl rfl rfl) 2 rfl rfl rfl rfl ?_
   intro w29 V
   refine sda A λa A↦?_
   refine qa (hK28 _ _ (wp_ret (hret _ _ (en2 A rfl (qx V RxE_isS_26 rfl 2 rfl (cs := [.bool false, .slice none 0 0, .slice none 0 0, .bool false, .slice none 0 0, .slice none 0 0]) rfl rfl) (qj rfl) ?_))))
   rw [qei hr hPx, if_pos (by simpa using hc22), if_neg (by omega)]
   exact ⟨none, 0, none, 0, none, 0, none, 0, rfl, ⟨Sc.none _, Sc.none _, Sc.none _, Sc.none _⟩, V.bel⟩
  ·
   have hb27' := of_decide_eq_false hb27
   refine sdo (v := .bool false) A (qe rfl rfl (fun w => (ju w).trans (by rw [hb27]))) λa A↦?_
   refine qa (hK26 _ _ (wp_cond_false (A.ev rfl) ?_))
   refine wp_skip (hK25 _ _ (wsk fun K30 hK30 => wrl (sdo A (qk V RxE_isS_88 rfl 1 rfl (cs := [.int .u8 ((((reP k b).1 : Nat) : Int)), .string (bsL ((reP k b).2.1)), .string (bsL ((reP k b).2.2))]) rfl rfl) λa A↦?_)))
   refine sdo A (qk V RxE_isS_88 rfl 0 rfl (cs := [.int .u8 ((((imP k b).1 : Nat) : Int)), .string (bsL ((imP k b).2.1)), .string (bsL ((imP k b).2.2))]) rfl rfl) λa A↦?_
   refine sdm A λa A↦?_
   refine qg A rfl rfl rfl (qb  rfl rfl (fun w => by kernel_rfl)) (zeh hk (by omega) (by omega) (by omega) (by omega)) ?_
   rintro _ w34 ⟨p31_1, p31_c1, p31_2, p31_c2, p31_3, p31_c3, p31_4, p31_c4, rfl, hn32, hb33⟩
   replace V := V.call hb33
   replace V := V.addR hn32.s1.rd
   replace V := V.addR hn32.s2.rd
   replace V := V.addR hn32.s3.rd
   replace V := V.addR hn32.s4.rd
   refine ⟨_, rfl, ?_⟩
   intro a A
   iterate 2 refine sdo A (qm (vs := [.agg #[.bool ((ve k (reP k b) (imP k b)).1.b1), .slice p31_1 (((ve k (reP k b) (imP k b)).1.t1).length) p31_c1, .slice p31_2 (((ve k (reP k b) (imP k b)).1.q1).length) p31_c2, .bool ((ve k (reP k b) (imP k b)).1.b2), .slice p31_3 (((ve k (reP k b) (imP k b)).1.t2).length) p31_c3, .slice p31_4 (((ve k (reP k b) (imP k b)).1.q2).length) p31_c4], .int .i64 ((ve k (reP k b) (imP k b)).2)]) rfl rfl) λa A↦?_
   refine qr (us := [.bool ((ve k (reP k b) (imP k b)).1.b1), .slice p31_1 (((ve k (reP k b) (imP k b)).1.t1).length) p31_c1, .slice p31_2 (((ve k (reP k b) (imP k b)).1.q1).length) p31_c2, .bool ((ve k (reP k b) (imP k b)).1.b2), .slice p31_3 (((ve k (reP k b) (imP k b)).1.t2).length) p31_c3, .slice p31_4 (((ve k (reP k b) (imP k b)).1.q2).length) p31_c4]) A V rfl rfl (qi rfl rfl rfl (by kernel_rfl) V 2 rfl rfl rfl) 2 rfl rfl rfl rfl ?_
   intro w35 V
   refine sda A λa A↦?_
   refine qa (hK30 _ _ (wp_ret (hret _ _ (en2 A rfl (qx V RxE_isS_26 rfl 2 rfl (cs := [.bool ((ve k (reP k b) (imP k b)).1.b1), .slice p31_1 (((ve k (reP k b) (imP k b)).1.t1).length) p31_c1, .slice p31_2 (((ve k (reP k b) (imP k b)).1.q1).length) p31_c2, .bool ((ve k (reP k b) (imP k b)).1.b2), .slice p31_3 (((ve k (reP k b) (imP k b)).1.t2).length) p31_c3, .slice p31_4 (((ve k (reP k b) (imP k b)).1.q2).length) p31_c4]) rfl rfl) (qj rfl) ?_))))
   rw [qei hr hPx, if_pos (by simpa using hc22), if_pos (by omega)]
   exact ⟨p31_1, p31_c1, p31_2, p31_c2, p31_3, p31_c3, p31_4, p31_c4, rfl, ⟨⟨(V.rd 3 rfl), hn32.s1.nil, hn32.s1.cap⟩, ⟨(V.rd 2 rfl), hn32.s2.nil, hn32.s2.cap⟩, ⟨(V.rd 1 rfl), hn32.s3.nil, hn32.s3.cap⟩, ⟨(V.rd 0 rfl), hn32.s4.nil, hn32.s4.cap⟩⟩, V.bel⟩
theorem zei {w : World} {n : Int} {l : List UInt8} (hn : vh n = false) : Calls Tryz.prog 14 #[.string (bsL l), .int .i64 n] w (AnsN w (qbe l n)) := by
 have V : St w w [] [] [] := St.start w
 refine qy (l := [(0, .string (bsL l)), (1, .int .i64 n)]) Tryz.func14 rfl Tryz.ntmps14 rfl rfl ?_
 intro Q hret hnorm hP a A
 refine wsk fun K1 hK1 => wrl (qn (vs := [.bool false, .slice none 0 0, .slice none 0 0, .bool false, .slice none 0 0, .slice none 0 0]) (t := 26) A V rfl rfl rfl pg (ql (z := .agg #[.bool false, .slice none 0 0, .slice none 0 0, .bool false, .slice none 0 0, .slice none 0 0]) (by kernel_rfl) rfl) rfl ?_)
 intro g2 w3 V a A
 refine sda A λa A↦?_
 refine qa (hK1 _ _ (wsk fun K4 hK4 => wsk fun K5 hK5 => wrl (mv A rfl rfl rfl λa A↦?_)))
 refine qg A rfl rfl rfl (qb  rfl rfl (fun w => by kernel_rfl)) (qah hn) ?_
 rintro _ w7 ⟨rfl, hb6⟩
 replace V := V.call hb6
 refine ⟨_, rfl, ?_⟩
 intro a A
 refine sdo (v := .bool true) A (zk rfl zv) λa A↦?_
 refine qa (hK5 _ _ (wp_cond_true (A.ev rfl) ?_))
 refine wsk fun K8 hK8 => wrl (sdo (v := .agg #[.bool false, .slice none 0 0, .slice none 0 0, .bool false, .slice none 0 0, .slice none 0 0]) A (za rfl (fun w => by kernel_rfl)) λa A↦?_)
 refine qr (us := [.bool false, .slice none 0 0, .slice none 0 0, .bool false, .slice none 0 0, .slice none 0 0]) A V rfl rfl (qi rfl rfl rfl (by kernel_rfl) V 0 rfl rfl rfl) 0 rfl rfl rfl rfl ?_
 intro w9 V
 refine sda A λa A↦?_
 refine qa (hK8 _ _ (wp_ret (hret _ _ (en2 A rfl (qx V RxE_isS_26 rfl 0 rfl (cs := [.bool false, .slice none 0 0, .slice none 0 0, .bool false, .slice none 0 0, .slice none 0 0]) rfl rfl) (qj rfl) ?_))))
 rw [show qbe l n = (Q6.zero, 1) from by unfold qbe; rw [hn]; rfl]
 exact ⟨none, 0, none, 0, none, 0, none, 0, rfl, ⟨Sc.none _, Sc.none _, Sc.none _, Sc.none _⟩, V.bel⟩
theorem qri {w : World} {n : Int} {l : List UInt8} (hl : l.length ≤ 9223372036854775807) : Calls Tryz.prog 14 #[.string (bsL l), .int .i64 n] w (AnsN w (qbe l n)) := by
 cases h : vh n with
 | false => exact zei h
 | true =>
  obtain ⟨r, rfl, hr⟩ := zde h
  exact zre (b := (jw false false r l).1) (k := (jw false false r l).2) hr hl rfl
def pQ (r : Nat) (m : List UInt8) : List UInt8 := m.drop (nDg r m)
def pS (r : Nat) (m : List UInt8) : Bool := decide (btL (pQ r m) 0 = 47)
def pB (r : Nat) (m : List UInt8) : List UInt8 := (pQ r m).drop 1
def pT (r : Nat) (m : List UInt8) : List UInt8 := m.take (nDg r m)
def pU (r : Nat) (m : List UInt8) : List UInt8 := (pB r m).take (nDg r (pB r m))
def jb (r : Nat) (m : List UInt8) : Bool := decide (nDg r m ≠ 0) && (!(pS r m) || decide (nDg r (pB r m) ≠ 0))
def xt (r : Nat) (m : List UInt8) : Nat := if pS r m then nDg r m + 1 + nDg r (pB r m) else nDg r m
def jo (r : Nat) (m : List UInt8) : Int :=
 if pS r m then (if rdE r (pT r m) ≠ 0 ∨ rdE r (pU r m) ≠ 0 then 4 else if zi r (pU r m) = 0 then 3 else 0) else rdE r (pT r m)
def vf (r : Nat) (neg : Bool) (m : List UInt8) : Rat :=
 if jo r m = 0 then mkRat (sgn neg (zi r (pT r m))) (if pS r m then zi r (pU r m) else 1) else 0
def p0 (l : List UInt8) : Nat := if zj l then 1 else 0
def p1 (r : Nat) (l : List UInt8) : Nat := p0 l + xt r (l.drop (p0 l))
def m1 (r : Nat) (l : List UInt8) : List UInt8 := l.drop (p1 r l + 1)
def qbi (l : List UInt8) : Bool := decide (btL l 0 = 45)
def zlg (b : Bool) : Rat := if b then -1 else 1
def ug (e f : Int) : Int := if e = 4 ∨ f = 4 then 4 else if e ≠ 0 then e else f
/-- Is it one, its two parts, and its error. -/
def qbf (r : Nat) (l : List UInt8) : Bool × Rat × Rat × Int :=
 if (zj l && jj (l.drop 1)) = true then (true, 0, zlg (qbi l), 0)
 else if jb r (l.drop (p0 l)) = false then (false, 0, 0, 0)
 else if p1 r l = l.length then (true, vf r (zj l && qbi l) (l.drop (p0 l)), 0, jo r (l.drop (p0 l)))
 else if (zj l && jj (l.drop (p1 r l))) = true then (true, 0, vf r (zj l && qbi l) (l.drop (p0 l)), jo r (l.drop (p0 l)))
 else if zj (l.drop (p1 r l)) = false then (false, 0, 0, 0)
 else if jj (m1 r l) = true then (true, vf r (zj l && qbi l) (l.drop (p0 l)), zlg (qbi (l.drop (p1 r l))), jo r (l.drop (p0 l)))
 else if (jb r (m1 r l) && jj (l.drop (p1 r l + 1 + xt r (m1 r l)))) = false then (false, 0, 0, 0)
 else (true, vf r (zj l && qbi l) (l.drop (p0 l)), vf r (qbi (l.drop (p1 r l))) (m1 r l), ug (jo r (l.drop (p0 l))) (jo r (m1 r l)))
theorem qdb (l : List UInt8) : unS l = l.drop (p0 l) := by
 unfold unS p0
 by_cases h : zj l = true
 ·
  rw [if_pos h, if_pos h]
 ·
  rw [if_neg h, if_neg h, List.drop_zero]
/-- Digits, strokes, signs and units are told apart. -/
theorem qod {r : Nat} (hr : RadN r) : qbh r 43 = false ∧ qbh r 45 = false ∧ qbh r 47 = false ∧ qbh r 105 = false ∧ qbh r 73 = false ∧ qbh r 35 = false := by
 rcases hr with h | h | h | h <;> subst h <;> decide
theorem qej {m : List UInt8} (h : jj m = true) : m = [105] ∨ m = [73] := by
 unfold jj at h
 simpa using h
theorem qhh {r : Nat} (hr : RadN r) {m : List UInt8} (h : jj m = true) : nDg r m = 0 := by
 obtain ⟨_, _, _, h1, h2, _⟩ := qod hr
 rcases qej h with e | e <;> subst e
 ·
  exact qud h1
 ·
  exact qud h2
theorem qij {m : List UInt8} (h : jj m = true) : zj m = false := by
 rcases qej h with e | e <;> subst e <;> decide
theorem qvc {m : List UInt8} (h : jj m = true) : m ≠ [] := by
 rcases qej h with e | e <;> subst e <;> simp
theorem qD_eq (r : Nat) (l : List UInt8) : qD r l = pQ r (unS l) := rfl
theorem qvd (r : Nat) (l : List UInt8) : slD r l = (decide (nDg r (unS l) ≠ 0) && (pS r (unS l) && decide (nDg r (pB r (unS l)) ≠ 0))) := rfl
theorem tp_ne {r : Nat} {l : List UInt8} : tpD r l ≠ [] ↔ nDg r (unS l) ≠ 0 := by
 unfold tpD
 have h1 := qcj r (unS l)
 constructor
 ·
  intro h k; exact h (by rw [k]; rfl)
 ·
  intro h k
  have h2 : ((unS l).take (nDg r (unS l))).length = 0 := by rw [k]; rfl
  rw [List.length_take] at h2
  omega
theorem zrf {r : Nat} {l : List UInt8} (h : jb r (unS l) = true) : slD r l = pS r (unS l) := by
 unfold jb at h
 rw [qvd]
 cases hs : pS r (unS l) with
 | true =>
  rw [hs] at h
  simp at h
  simp [h]
 | false => simp
theorem zrg {r : Nat} {l : List UInt8} (h : jb r (unS l) = true) : reD r l = (unS l).drop (xt r (unS l)) := by
 unfold reD xt
 rw [zrf h]
 cases hs : pS r (unS l) with
 | true =>
  rw [if_pos rfl, if_pos rfl, qD_eq]
  unfold pB pQ
  rw [List.drop_drop, List.drop_drop]
  congr 1
  omega
 | false => rfl
theorem boD_ok {r : Nat} {l : List UInt8} (h : jb r (unS l) = true) : boD r l = if pS r (unS l) then pU r (unS l) else [] := by
 unfold boD
 rw [zrf h]
 rfl
theorem qoe {r : Nat} {l : List UInt8} (h : jb r (unS l) = true) : reD r l = l.drop (p1 r l) := by
 rw [zrg h, qdb, List.drop_drop]; rfl
/-- What is no fraction leaves a rest that is none, and no unit but at the sign. -/
theorem qdc {r : Nat} (hr : RadN r) {l : List UInt8} (h : jb r (unS l) = false) : reD r l = unS l ∧ nDg r (unS l) = 0 ∨ (nDg r (unS l) ≠ 0 ∧ btL (reD r l) 0 = 47) := by
 unfold jb at h
 by_cases h0 : nDg r (unS l) = 0
 ·
  left
  refine ⟨?_, h0⟩
  have : slD r l = false := by rw [qvd, decide_eq_false (by simpa using h0)]; rfl
  unfold reD
  rw [this]
  simp only [if_false, Bool.false_eq_true]
  unfold qD
  rw [h0, List.drop_zero]
 ·
  right
  rw [decide_eq_true h0] at h
  cases hs : pS r (unS l) with
  | false => rw [hs] at h; simp at h
  | true =>
   rw [hs] at h
   have h2 : nDg r (pB r (unS l)) = 0 := by simpa using h
   have : slD r l = false := by rw [qvd, decide_eq_false (show ¬ nDg r (pB r (unS l)) ≠ 0 from by simpa using h2)]; simp
   refine ⟨h0, ?_⟩
   unfold reD
   rw [this]
   exact of_decide_eq_true hs
theorem qrj {r : Nat} (hr : RadN r) {m : List UInt8} (h : btL m 0 = 47) : m ≠ [] ∧ jj m = false ∧ zj m = false := by
 refine ⟨?_, ?_, ?_⟩
 ·
  rintro rfl; simp [btL] at h
 ·
  cases hu : jj m with
  | false => rfl
  | true => rcases qej hu with e | e <;> subst e <;> simp [btL] at h
 ·
  unfold zj; rw [h]; rfl
theorem zyf {r : Nat} (hr : RadN r) {l : List UInt8} (h : jb r (unS l) = false) (hu : (zj l && jj (unS l)) = false) : okP r l = false := by
 rcases qdc hr h with ⟨k1, k2⟩ | ⟨k1, k2⟩
 ·
  have ht : tpD r l = [] := by
   by_cases e : tpD r l = []
   ·
    exact e
   ·
    exact absurd k2 (tp_ne.1 e)
  unfold okP
  rw [k1]
  by_cases h1 : unS l = []
  ·
   rw [if_pos h1, ht]; rfl
  ·
   rw [if_neg h1]
   cases h2 : jj (unS l) with
   | true => rw [if_pos rfl]; rw [h2] at hu; simpa using hu
   | false => rw [ht]; rfl
 ·
  obtain ⟨j1, j2, j3⟩ := qrj hr k2
  unfold okP
  rw [if_neg j1, j2, j3]
  simp
theorem uh {l : List UInt8} (h : zj l = true) : unS l = l.drop 1 := by unfold unS; rw [if_pos h]
theorem qof {l : List UInt8} : (zj l && jj (l.drop 1)) = (zj l && jj (unS l)) := by
 cases h : zj l with
 | true => rw [uh h]
 | false => rfl
theorem qzd {r : Nat} {m : List UInt8} (h : jb r m = true) : nDg r m ≠ 0 := by
 unfold jb at h
 simp at h
 exact h.1
theorem qhi {r : Nat} {l : List UInt8} (h : jb r (unS l) = true) : reD r l = [] ↔ p1 r l = l.length := by
 rw [qoe h]
 have h1 := qcj r (unS l)
 have e : p1 r l ≤ l.length := by
  unfold p1
  rw [← qdb]
  have hu : (unS l).length + p0 l ≤ l.length ∨ l = [] := by
   rw [qdb, List.length_drop]
   unfold p0
   by_cases hs : zj l = true
   ·
    rw [if_pos hs]
    cases l with
    | nil => right; rfl
    | cons a t => left; simp
   ·
    rw [if_neg hs]; left; omega
  rcases hu with hu | hu
  ·
   unfold xt
   split
   ·
    rename_i hs
    have hs' : btL (pQ r (unS l)) 0 = 47 := of_decide_eq_true hs
    have k1 := btL_in (l := pQ r (unS l)) (i := 0) (by omega)
    have k2 := qcj r (pB r (unS l))
    unfold pB at k2
    rw [List.length_drop] at k2
    have k3 : (pQ r (unS l)).length = (unS l).length - nDg r (unS l) := by unfold pQ; rw [List.length_drop]
    unfold pB
    omega
   ·
    omega
  ·
   subst hu
   have := qzd h
   simp [unS, zj, btL, nDg] at this
 rw [List.drop_eq_nil_iff]
 omega
theorem zyg {r : Nat} (hr : RadN r) (l : List UInt8) : (qbf r l).1 = okP r l := by
 unfold qbf
 rw [qof, ← qdb]
 by_cases h1 : (zj l && jj (unS l)) = true
 ·
  rw [if_pos h1]
  simp only [Bool.and_eq_true] at h1
  have hn := qhh hr h1.2
  have hb : jb r (unS l) = false := by unfold jb; rw [hn]; rfl
  rcases qdc hr hb with ⟨k1, k2⟩ | ⟨k1, k2⟩
  ·
   unfold okP
   rw [k1, if_neg (qvc h1.2), if_pos h1.2, h1.1]
  ·
   exact absurd hn k1
 ·
  rw [if_neg h1]
  have h1 := Bool.eq_false_iff.2 h1
  by_cases h2 : jb r (unS l) = false
  ·
   rw [if_pos h2, zyf hr h2 h1]
  ·
   rw [if_neg h2]
   have h2 : jb r (unS l) = true := by simpa using h2
   have ht : decide (tpD r l ≠ []) = true := decide_eq_true (tp_ne.2 (qzd h2))
   have hr1 := qoe h2
   unfold okP
   rw [ht]
   by_cases h3 : p1 r l = l.length
   ·
    rw [if_pos h3, if_pos ((qhi h2).2 h3)]
   ·
    rw [if_neg h3, if_neg (fun k => h3 ((qhi h2).1 k)), hr1]
    cases h4 : jj (l.drop (p1 r l)) with
    | true =>
     cases h5 : zj l with
     | true => simp
     | false =>
      have := qij h4
      simp [this]
    | false =>
     simp only [Bool.and_false, Bool.false_eq_true, if_false]
     cases h5 : zj (l.drop (p1 r l)) with
     | false => simp
     | true =>
      simp only [Bool.true_eq_false, if_false, Bool.true_and]
      have e6 : m1 r l = unS (l.drop (p1 r l)) := by unfold m1; rw [uh h5, List.drop_drop]
      by_cases h6 : jj (m1 r l) = true
      ·
       rw [if_pos h6]
       have hn := qhh hr h6
       rw [e6] at hn h6
       have hb : jb r (unS (l.drop (p1 r l))) = false := by unfold jb; rw [hn]; rfl
       rcases qdc hr hb with ⟨k1, k2⟩ | ⟨k1, k2⟩
       ·
        rw [k1, h6]
       ·
        exact absurd hn k1
      ·
       rw [if_neg h6]
       have h6 := Bool.eq_false_iff.2 h6
       by_cases h7 : jb r (m1 r l) = true
       ·
        have h7' := h7
        rw [e6] at h7'
        rw [zrg h7', ← e6, h7]
        have e8 : (m1 r l).drop (xt r (m1 r l)) = l.drop (p1 r l + 1 + xt r (m1 r l)) := by unfold m1; rw [List.drop_drop]
        rw [e8]
        cases jj (l.drop (p1 r l + 1 + xt r (m1 r l))) <;> rfl
       ·
        have h7 := Bool.eq_false_iff.2 h7
        rw [h7]
        simp only [Bool.false_and, if_true]
        rw [e6] at h7 h6
        rcases qdc hr h7 with ⟨k1, k2⟩ | ⟨k1, k2⟩
        ·
         rw [k1, h6]
        ·
         exact ((qrj hr k2).2.1).symm
def nE (r : Nat) (n : Nl) : Int := if xw r n ≠ 0 then 4 else if zi r n.2.2 = 0 then 3 else 0
theorem zej (r : Nat) (n m : Nl) : ve r n m = if ug (nE r n) (nE r m) = 0 then (Q6.rat (qhg r n) (qhg r m), 0) else (Q6.zero, ug (nE r n) (nE r m)) := by
 unfold ve ug nE
 by_cases h1 : xw r n = 0 <;> by_cases h2 : xw r m = 0 <;> by_cases h3 : zi r n.2.2 = 0 <;> by_cases h4 : zi r m.2.2 = 0 <;> simp [h1, h2, h3, h4]
theorem qgf {e : Int} (h : e = 0 ∨ e = 3 ∨ e = 4) : ug e 0 = e ∧ ug 0 e = e := by
 unfold ug
 rcases h with h | h | h <;> subst h <;> decide
theorem qog {r : Nat} (hr : 2 ≤ r) : numeralS r ⟨#[48]⟩ = true ∧ tval r ⟨#[48]⟩ 1 = 0 := by
 have hb : byteAt ⟨#[48]⟩ 0 = 48 := rfl
 constructor
 ·
  refine (numeralS_iff r _).2 ⟨by decide, fun i hi => ?_⟩
  have e : i = 0 := by
   have : (⟨#[48]⟩ : ByteArray).size = 1 := rfl
   omega
  rw [e, hb]
  show 0 < r
  omega
 ·
  show 0 * r + dvn 36 (byteAt ⟨#[48]⟩ 0) = 0
  rw [hb, Nat.zero_mul]
  rfl
theorem nl0_e {r : Nat} (hr : RadN r) : nE r nl0 = 0 ∧ qhg r nl0 = 0 := by
 have h2 : 2 ≤ r := by rcases hr with h | h | h | h <;> omega
 have h36 : r ≤ 36 := by rcases hr with h | h | h | h <;> omega
 obtain ⟨k1, k2⟩ := qog h2
 have e0 : zi r [48] = 0 := by
  unfold zi
  rw [if_neg (by simp)]
  exact k2
 have e1 : rdE r [48] = 0 := by
  unfold rdE
  rw [if_neg (by simp)]
  unfold readS
  rw [if_pos (decide_eq_true (by omega)), Int.toNat_natCast, if_pos (show numeralS r (bsL [48]) = true from k1), if_pos (by rw [xj]; decide)]
  rw [show tval r (bsL [48]) (bsL [48]).size = 0 from k2]
  unfold fitS
  rw [words_zero, if_pos (by decide)]
 have e2 : zi r [] = 1 := rfl
 have e3 : rdE r [] = 0 := rfl
 constructor
 ·
  unfold nE xw nl0
  simp only [e1, e2, e3]
  rfl
 ·
  unfold qhg nl0
  simp only [e0, e2]
  rfl
theorem zrh (l : List UInt8) : decide (sgB l = 45) = (zj l && qbi l) := by
 unfold sgB qbi
 cases h : zj l with
 | true => rw [if_pos rfl]; simp
 | false => rfl
theorem zhe {r : Nat} {l : List UInt8} (h : nDg r (unS l) = 0) (hs : zj l = true) : nE r (nlD r l) = 0 ∧ qhg r (nlD r l) = zlg (qbi l) := by
 have e1 : tpD r l = [] := by unfold tpD; rw [h]; rfl
 have e2 : boD r l = [] := by
  unfold boD
  rw [qvd, decide_eq_false (show ¬ nDg r (unS l) ≠ 0 from by simpa using h)]
  rfl
 have e3 := zrh l
 rw [hs, Bool.true_and] at e3
 constructor
 ·
  unfold nE xw nlD
  simp only [e1, e2]
  rfl
 ·
  unfold qhg nlD
  simp only [e1, e2, e3]
  unfold zlg
  rw [show zi r ([] : List UInt8) = 1 from rfl]
  cases qbi l <;> decide +kernel
theorem zri {r : Nat} {m : List UInt8} : ∀ i, i < (m.take (nDg r m)).length → dvn 36 (btL (m.take (nDg r m)) i) < r := by
 intro i hi
 have h1 := qcj r m
 rw [List.length_take] at hi
 have := zdd r m i (by omega)
 unfold btL at this ⊢
 rw [List.getD_eq_getElem?_getD] at this ⊢
 rw [List.getElem?_take, if_pos (by omega)]
 exact this
theorem zhf {r : Nat} (hr : RadN r) (m : List UInt8) : rdE r (m.take (nDg r m)) = 0 ∨ rdE r (m.take (nDg r m)) = 4 := by
 unfold rdE
 split
 ·
  exact .inl rfl
 ·
  rename_i h
  exact zld (by rcases hr with h | h | h | h <;> omega) (by rcases hr with h | h | h | h <;> omega) h zri
theorem zhg {r : Nat} (hr : RadN r) {l : List UInt8} (h : jb r (unS l) = true) : nE r (nlD r l) = jo r (unS l) ∧ (jo r (unS l) = 0 → qhg r (nlD r l) = vf r (zj l && qbi l) (unS l)) := by
 have e1 : (nlD r l).2.1 = pT r (unS l) := rfl
 have e2 : (nlD r l).2.2 = if pS r (unS l) then pU r (unS l) else [] := boD_ok h
 have e3 : decide ((nlD r l).1 = 45) = (zj l && qbi l) := zrh l
 have e4 : rdE r ([] : List UInt8) = 0 := rfl
 have e5 : zi r ([] : List UInt8) = 1 := rfl
 have k1 : rdE r (pT r (unS l)) = 0 ∨ rdE r (pT r (unS l)) = 4 := zhf hr _
 constructor
 ·
  unfold nE xw jo
  rw [e1, e2]
  cases hs : pS r (unS l) with
  | true =>
   simp only [if_true]
   by_cases a1 : rdE r (pT r (unS l)) = 0 <;> by_cases a2 : rdE r (pU r (unS l)) = 0 <;> simp [a1, a2]
  | false =>
   simp only [Bool.false_eq_true, if_false, e4, e5]
   rcases k1 with k | k <;> rw [k] <;> rfl
 ·
  intro h0
  unfold vf qhg
  rw [if_pos h0, e1, e2, e3]
  cases hs : pS r (unS l) with
  | true => rfl
  | false => simp only [Bool.false_eq_true, if_false, e5]
theorem qdd {r : Nat} (hr : RadN r) (m : List UInt8) : jo r m = 0 ∨ jo r m = 3 ∨ jo r m = 4 := by
 unfold jo
 split
 ·
  split
  ·
   exact .inr (.inr rfl)
  ·
   split
   ·
    exact .inr (.inl rfl)
   ·
    exact .inl rfl
 ·
  rcases zhf hr m with k | k
  ·
   exact .inl k
  ·
   exact .inr (.inr k)
theorem qhj {r : Nat} {n m : Nl} {U V : Rat} {E e1 e2 : Int} (h1 : nE r n = e1) (h2 : nE r m = e2) (hE : ug e1 e2 = E) (hu : E = 0 → qhg r n = U) (hv : E = 0 → qhg r m = V) : ve r n m = if E = 0 then (Q6.rat U V, 0) else (Q6.zero, E) := by
 rw [zej, h1, h2, hE]
 by_cases h : E = 0
 ·
  rw [if_pos h, if_pos h, hu h, hv h]
 ·
  rw [if_neg h, if_neg h]
theorem qoh {e f : Int} (he : e = 0 ∨ e = 3 ∨ e = 4) (hf : f = 0 ∨ f = 3 ∨ f = 4) (h : ug e f = 0) : e = 0 ∧ f = 0 := by
 unfold ug at h
 rcases he with he | he | he <;> rcases hf with hf | hf | hf <;> subst he hf <;> simp at h ⊢
theorem zrj {r : Nat} (hr : RadN r) {l : List UInt8} {U V : Rat} {E : Int} (h : qbf r l = (true, U, V, E)) : ve r (reP r l) (imP r l) = if E = 0 then (Q6.rat U V, 0) else (Q6.zero, E) := by
 unfold qbf at h
 rw [qof, ← qdb] at h
 obtain ⟨z1, z2⟩ := nl0_e hr
 by_cases h1 : (zj l && jj (unS l)) = true
 ·
  rw [if_pos h1] at h
  simp only [Prod.mk.injEq, true_and] at h
  obtain ⟨rfl, rfl, rfl⟩ := h
  simp only [Bool.and_eq_true] at h1
  have hn := qhh hr h1.2
  have hb : jb r (unS l) = false := by unfold jb; rw [hn]; rfl
  rcases qdc hr hb with ⟨k1, k2⟩ | ⟨k1, k2⟩
  ·
   obtain ⟨a1, a2⟩ := zhe hn h1.1
   have f1 : reP r l = nl0 := by unfold reP; rw [k1, if_neg (qvc h1.2), if_pos h1.2]
   have f2 : imP r l = nlD r l := by unfold imP; rw [k1, if_neg (qvc h1.2), if_pos h1.2]
   rw [f1, f2]
   exact qhj z1 a1 rfl (fun _ => z2) (fun _ => a2)
  ·
   exact absurd hn k1
 ·
  rw [if_neg h1] at h
  by_cases h2 : jb r (unS l) = false
  ·
   rw [if_pos h2] at h; simp at h
  ·
   rw [if_neg h2] at h
   have h2 : jb r (unS l) = true := by simpa using h2
   have hr1 := qoe h2
   obtain ⟨a1, a2⟩ := zhg hr h2
   have ac := qdd hr (unS l)
   by_cases h3 : p1 r l = l.length
   ·
    rw [if_pos h3] at h
    simp only [Prod.mk.injEq, true_and] at h
    obtain ⟨rfl, rfl, rfl⟩ := h
    have f0 := (qhi h2).2 h3
    have f1 : reP r l = nlD r l := by unfold reP; rw [if_pos f0]
    have f2 : imP r l = nl0 := by unfold imP; rw [if_pos f0]
    rw [f1, f2]
    exact qhj a1 z1 (qgf ac).1 a2 (fun _ => z2)
   ·
    rw [if_neg h3] at h
    have f0 : ¬ reD r l = [] := fun k => h3 ((qhi h2).1 k)
    by_cases h4 : (zj l && jj (l.drop (p1 r l))) = true
    ·
     rw [if_pos h4] at h
     simp only [Prod.mk.injEq, true_and] at h
     obtain ⟨rfl, rfl, rfl⟩ := h
     simp only [Bool.and_eq_true] at h4
     have f1 : reP r l = nl0 := by unfold reP; rw [if_neg f0, hr1, if_pos h4.2]
     have f2 : imP r l = nlD r l := by unfold imP; rw [if_neg f0, hr1, if_pos h4.2]
     rw [f1, f2]
     exact qhj z1 a1 (qgf ac).2 (fun _ => z2) a2
    ·
     rw [if_neg h4] at h
     by_cases h5 : zj (l.drop (p1 r l)) = false
     ·
      rw [if_pos h5] at h; simp at h
     ·
      rw [if_neg h5] at h
      have h5 : zj (l.drop (p1 r l)) = true := by simpa using h5
      have hu : jj (l.drop (p1 r l)) = false := by
       cases k : jj (l.drop (p1 r l)) with
       | false => rfl
       | true => rw [qij k] at h5; cases h5
      have e6 : m1 r l = unS (l.drop (p1 r l)) := by unfold m1; rw [uh h5, List.drop_drop]
      have f1 : reP r l = nlD r l := by unfold reP; rw [if_neg f0, hr1, hu]; rfl
      have f2 : imP r l = nlD r (l.drop (p1 r l)) := by unfold imP; rw [if_neg f0, hr1, hu]; rfl
      by_cases h6 : jj (m1 r l) = true
      ·
       rw [if_pos h6] at h
       simp only [Prod.mk.injEq, true_and] at h
       obtain ⟨rfl, rfl, rfl⟩ := h
       rw [e6] at h6
       obtain ⟨b1, b2⟩ := zhe (qhh hr h6) h5
       rw [f1, f2]
       exact qhj a1 b1 (qgf ac).1 a2 (fun _ => b2)
      ·
       rw [if_neg h6] at h
       by_cases h7 : (jb r (m1 r l) && jj (l.drop (p1 r l + 1 + xt r (m1 r l)))) = false
       ·
        rw [if_pos h7] at h; simp at h
       ·
        rw [if_neg h7] at h
        have h8 : jb r (m1 r l) = true := by
         cases k : jb r (m1 r l) with
         | true => rfl
         | false => rw [k] at h7; exact absurd rfl h7
        simp only [Prod.mk.injEq, true_and] at h
        obtain ⟨rfl, rfl, rfl⟩ := h
        rw [e6] at h8 ⊢
        obtain ⟨b1, b2⟩ := zhg hr h8
        have bc := qdd hr (unS (l.drop (p1 r l)))
        rw [h5, Bool.true_and] at b2
        rw [f1, f2]
        exact qhj a1 b1 rfl (fun k => a2 (qoh ac bc k).1) (fun k => b2 (qoh ac bc k).2)
def tD (a : List Nat) (r : Nat) : List UInt8 := (textS a (r : Int)).1.data.toList
def szL (r : Nat) (t q : List Nat) : List UInt8 := tD t r ++ (if q = [1] then [] else 47 :: tD q r)
def xl (r : Nat) (b : Bool) (t q : List Nat) : List UInt8 := (if b then [45] else []) ++ szL r t q
def imL (r : Nat) (b : Bool) (t q : List Nat) : List UInt8 := (if b then [45] else [43]) ++ (if t = [1] ∧ q = [1] then [] else szL r t q)
def vj (r : Nat) (q : Q6) : List UInt8 :=
 if q.t2.length = 0 then xl r q.b1 q.t1 q.q1 else (if q.t1.length = 0 then [] else xl r q.b1 q.t1 q.q1) ++ (imL r q.b2 q.t2 q.q2 ++ [105])
theorem zhi (a : List Nat) (r : Nat) : bsL (tD a r) = (textS a (r : Int)).1 := bsL_of _
theorem qpa (a : List Nat) (r : Nat) : (tD a r).length = (textS a (r : Int)).1.size := by rw [← zhi, xj]
theorem qze {r : Nat} (hr : 2 ≤ r) : ∀ n x, x ≤ n → (digs r x).length ≤ bl x := by
 intro n
 induction n with
 | zero =>
  intro x hx
  have e : x = 0 := by omega
  subst e
  rw [digs_zero]
  simp
 | succ n ih =>
  intro x hx
  by_cases h0 : x = 0
  ·
   subst h0; rw [digs_zero]; simp
  ·
   rw [digs_pos hr h0, List.length_cons]
   have h1 := ih (x / r) (by
    have : x / r < x := Nat.div_lt_self (by omega) (by omega)
    omega)
   have h2 := zyh hr h0
   omega
theorem qde {a : List Nat} {r : Nat} (hr : RadN r) (hd : Dig a) : (tD a r).length ≤ 16385 := by
 rw [qpa]
 have h2 : 2 ≤ r := by rcases hr with h | h | h | h <;> omega
 have h36 : r ≤ 36 := by rcases hr with h | h | h | h <;> omega
 unfold textS
 by_cases hs : sound a = true
 ·
  obtain ⟨ea, na⟩ := sound_words hd hs
  rw [hs, decide_eq_true (show (2 : Int) ≤ (r : Int) ∧ (r : Int) ≤ 36 from by omega), Int.toNat_natCast]
  simp only [if_true]
  split
  ·
   decide
  ·
   show (txt r (val a)).size ≤ _
   rw [ur]
   have h3 := qze h2 (val a) (val a) (Nat.le_refl _)
   have h4 : bl (val a) ≤ 32 * a.length := bl_le.2 (by rw [← pw_two]; exact words_length_iff.1 (by rw [← ea]; exact Nat.le_refl _))
   omega
 ·
  have hs := Bool.eq_false_iff.2 hs
  rw [hs]
  show (0 : Nat) ≤ 16385
  omega
theorem qpb {r : Nat} (hr : RadN r) {t q : List Nat} (ht : Dig t) (hq : Dig q) : (szL r t q).length ≤ 40000 := by
 have h1 := qde hr ht
 have h2 := qde hr hq
 unfold szL
 split
 ·
  simp only [List.append_nil]; omega
 ·
  simp only [List.length_append, List.length_cons]; omega
/-! ### Digits -/
structure DgT (r x : Nat) (l : List UInt8) : Prop where
 ne : l ≠ []
 dig : ∀ b ∈ l, qbh r b = true
 rd : l.length ≤ 16384 → rdE r l = 0 ∧ zi r l = x
theorem dgT {r x : Nat} (hr : RadN r) (hx : (words x).length ≤ 512) : DgT r x (tD (words x) r) := by
 have h2 : 2 ≤ r := by rcases hr with h | h | h | h <;> omega
 have h36 : r ≤ 36 := by rcases hr with h | h | h | h <;> omega
 have hs := words_sound hx
 have hdr : decide ((2 : Int) ≤ (r : Int) ∧ (r : Int) ≤ 36) = true := decide_eq_true (by omega)
 have hv : val (words x) = x := val_words x
 have hne : (textS (words x) (r : Int)).1.size ≠ 0 ∧ ∀ i, i < (textS (words x) (r : Int)).1.size → dvn 36 (byteAt (textS (words x) (r : Int)).1 i) < r := by
  unfold textS
  rw [hs, hdr, hv, Int.toNat_natCast]
  simp only [if_true]
  split
  ·
   exact (numeralS_iff r _).1 (qog h2).1
  ·
   rename_i h0
   show (txt r x).size ≠ 0 ∧ ∀ i, i < (txt r x).size → dvn 36 (byteAt (txt r x) i) < r
   rw [ur]
   refine ⟨zhh h2 h0, fun i hi => ?_⟩
   have h := qoj (r := r) (x := x) h2 h36 hi
   rw [h.1]
   exact h.2
 have hne2 : tD (words x) r ≠ [] := fun k => hne.1 (by rw [← qpa, k]; rfl)
 refine ⟨hne2, ?_, ?_⟩
 ·
  intro b hb
  obtain ⟨i, hi, e⟩ := List.mem_iff_getElem.1 hb
  have h := hne.2 i (by rw [← qpa]; exact hi)
  rw [← zhi, qng] at h
  unfold btL at h
  rw [List.getD_eq_getElem?_getD, List.getElem?_eq_getElem hi, e] at h
  exact decide_eq_true h
 ·
  intro hl
  have h := zli (words_dig x) hs hdr (by rw [← qpa]; exact hl)
  rw [← zhi] at h
  have h0 : (readS (bsL (tD (words x) r)) (r : Int)).2 = 0 := by rw [h]
  obtain ⟨k1, k2⟩ := qyi h0
  rw [h] at k1
  unfold rdE zi
  rw [if_neg hne2, if_neg hne2]
  refine ⟨h0, ?_⟩
  have k3 := congrArg Prod.fst k1
  exact (words_inj k3).symm
/-! ### A fraction at the beginning of a text -/
theorem zsc {r : Nat} {a b : List UInt8} (ha : ∀ x ∈ a, qbh r x = true) (hb : nDg r b = 0) : pT r (a ++ b) = a ∧ pQ r (a ++ b) = b := by
 unfold pT pQ
 rw [qag ha hb]
 simp
def Ends (r : Nat) (l : List UInt8) : Prop := nDg r l = 0 ∧ btL l 0 ≠ 47
theorem zsd (r : Nat) : Ends r [] := ⟨rfl, by decide⟩
theorem qlh {r : Nat} {b : UInt8} {t : List UInt8} (h : qbh r b = false) (h2 : b.toNat ≠ 47) : Ends r (b :: t) := ⟨qud h, h2⟩
theorem zse {r x d : Nat} (hr : RadN r) (hx : (words x).length ≤ 512) (hd : (words d).length ≤ 512) (hd0 : d ≠ 0) {rest : List UInt8} (he : Ends r rest) (hl : (szL r (words x) (words d) ++ rest).length ≤ 16384) (neg : Bool) :
  jb r (szL r (words x) (words d) ++ rest) = true ∧ xt r (szL r (words x) (words d) ++ rest) = (szL r (words x) (words d)).length ∧ jo r (szL r (words x) (words d) ++ rest) = 0 ∧ vf r neg (szL r (words x) (words d) ++ rest) = mkRat (sgn neg x) d := by
 have tx := dgT hr hx
 have td := dgT hr hd
 have k47 : qbh r 47 = false := (qod hr).2.2.1
 have hne := tx.ne
 have hnl : (tD (words x) r).length ≠ 0 := fun k => hne (List.length_eq_zero_iff.1 k)
 by_cases h1 : words d = [1]
 ·
  have e : szL r (words x) (words d) = tD (words x) r := by unfold szL; rw [if_pos h1, List.append_nil]
  have hd1 : d = 1 := words_inj (h1.trans jt.symm)
  rw [e] at hl ⊢
  obtain ⟨e1, e2⟩ := zsc tx.dig he.1
  have en : nDg r (tD (words x) r ++ rest) = (tD (words x) r).length := qag tx.dig he.1
  have es : pS r (tD (words x) r ++ rest) = false := by unfold pS; rw [e2]; exact decide_eq_false he.2
  obtain ⟨f1, f2⟩ := tx.rd (by rw [List.length_append] at hl; omega)
  have ee : jo r (tD (words x) r ++ rest) = 0 := by unfold jo; rw [es, e1]; exact f1
  refine ⟨?_, ?_, ee, ?_⟩
  ·
   unfold jb; rw [en, es, decide_eq_true hnl]; rfl
  ·
   unfold xt; rw [es, en]; rfl
  ·
   unfold vf; rw [if_pos ee, es, e1, f2, hd1]; rfl
 ·
  have e : szL r (words x) (words d) ++ rest = tD (words x) r ++ (47 :: (tD (words d) r ++ rest)) := by unfold szL; rw [if_neg h1]; simp
  have el : (szL r (words x) (words d)).length = (tD (words x) r).length + 1 + (tD (words d) r).length := by unfold szL; rw [if_neg h1]; simp; omega
  rw [e] at hl ⊢
  have hn0 : nDg r (47 :: (tD (words d) r ++ rest)) = 0 := qud k47
  obtain ⟨e1, e2⟩ := zsc tx.dig hn0
  have en : nDg r (tD (words x) r ++ (47 :: (tD (words d) r ++ rest))) = (tD (words x) r).length := qag tx.dig hn0
  have es : pS r (tD (words x) r ++ (47 :: (tD (words d) r ++ rest))) = true := by unfold pS; rw [e2]; exact decide_eq_true rfl
  have eb : pB r (tD (words x) r ++ (47 :: (tD (words d) r ++ rest))) = tD (words d) r ++ rest := by unfold pB; rw [e2]; rfl
  have em : nDg r (tD (words d) r ++ rest) = (tD (words d) r).length := qag td.dig he.1
  have eu : pU r (tD (words x) r ++ (47 :: (tD (words d) r ++ rest))) = tD (words d) r := by unfold pU; rw [eb, em]; simp
  have hml : (tD (words d) r).length ≠ 0 := fun k => td.ne (List.length_eq_zero_iff.1 k)
  simp only [List.length_append, List.length_cons] at hl
  obtain ⟨f1, f2⟩ := tx.rd (by omega)
  obtain ⟨g1, g2⟩ := td.rd (by omega)
  have ee : jo r (tD (words x) r ++ (47 :: (tD (words d) r ++ rest))) = 0 := by
   unfold jo
   rw [es, e1, eu, if_pos rfl, if_neg (by rintro (k | k); exact k f1; exact k g1), g2, if_neg hd0]
  refine ⟨?_, ?_, ee, ?_⟩
  ·
   unfold jb; rw [en, es, eb, em, decide_eq_true hnl, decide_eq_true hml]; rfl
  ·
   unfold xt; rw [es, en, eb, em, el]; rfl
  ·
   unfold vf; rw [if_pos ee, es, e1, eu, f2, g2]; rfl
theorem qpc {r x d : Nat} (hr : RadN r) (hx : (words x).length ≤ 512) (rest : List UInt8) : zj (szL r (words x) (words d) ++ rest) = false ∧ btL (szL r (words x) (words d) ++ rest) 0 ≠ 35 ∧ jj (szL r (words x) (words d) ++ rest) = false ∧ (szL r (words x) (words d)).length ≠ 0 := by
 have tx := dgT hr hx
 obtain ⟨k1, k2, k3, k4, k5, k6⟩ := qod hr
 obtain ⟨b, t, e⟩ : ∃ b t, tD (words x) r = b :: t := by
  cases h : tD (words x) r with
  | nil => exact absurd h tx.ne
  | cons b t => exact ⟨b, t, rfl⟩
 have hb : qbh r b = true := tx.dig b (by rw [e]; simp)
 obtain ⟨t', e'⟩ : ∃ t', szL r (words x) (words d) = b :: t' := by unfold szL; rw [e]; exact ⟨_, rfl⟩
 rw [e']
 have ne : ∀ c : UInt8, qbh r c = false → b ≠ c := fun c hc k => by rw [k, hc] at hb; cases hb
 have nn : ∀ c : UInt8, qbh r c = false → b.toNat ≠ c.toNat := fun c hc k => ne c hc (UInt8.toNat_inj.1 k)
 refine ⟨?_, ?_, ?_, by simp⟩
 ·
  unfold zj
  show (decide (b.toNat = 43) || decide (b.toNat = 45)) = false
  rw [decide_eq_false (show ¬ b.toNat = 43 from nn 43 k1), decide_eq_false (show ¬ b.toNat = 45 from nn 45 k2)]
  rfl
 ·
  exact nn 35 k6
 ·
  unfold jj
  rw [decide_eq_false (fun k => ne 105 k4 (by simp at k; exact k.1)), decide_eq_false (fun k => ne 73 k5 (by simp at k; exact k.1))]
  rfl
def szR (r : Nat) (u : Rat) : List UInt8 := szL r (words u.num.natAbs) (words u.den)
theorem zhj (u : Rat) : mkRat (sgn (rb u.num) u.num.natAbs) u.den = u := by rw [qih, Rat.mkRat_self]
theorem qja {r : Nat} (hr : RadN r) {u : Rat} (hu : jy u) {rest : List UInt8} (he : Ends r rest) (hl : (szR r u ++ rest).length ≤ 16384) :
  jb r (szR r u ++ rest) = true ∧ xt r (szR r u ++ rest) = (szR r u).length ∧ jo r (szR r u ++ rest) = 0 ∧ vf r (rb u.num) (szR r u ++ rest) = u := by
 obtain ⟨h1, h2, h3, h4⟩ := zse hr hu.1 hu.2 u.den_nz he hl (rb u.num)
 rw [zhj] at h4
 exact ⟨h1, h2, h3, h4⟩
/-- A number with a sign ahead of it (or none where it is not below 0), and what stands behind it. -/
structure Head (r : Nat) (u : Rat) (rest l : List UInt8) : Prop where
 unit : (zj l && jj (l.drop 1)) = false
 ok : jb r (l.drop (p0 l)) = true
 err : jo r (l.drop (p0 l)) = 0
 val : vf r (zj l && qbi l) (l.drop (p0 l)) = u
 back : l.drop (p1 r l) = rest
 len : p1 r l + rest.length = l.length
 hash : btL l 0 ≠ 35
theorem qsa {r : Nat} (hr : RadN r) {u : Rat} (hu : jy u) {rest : List UInt8} (he : Ends r rest) (hl : (szR r u ++ rest).length ≤ 16384) {s : UInt8} (hs : s.toNat = 45 ∧ rb u.num = true ∨ s.toNat = 43 ∧ rb u.num = false) : Head r u rest (s :: (szR r u ++ rest)) ∧ zj (s :: (szR r u ++ rest)) = true := by
 obtain ⟨h1, h2, h3, h4⟩ := qja hr hu he hl
 obtain ⟨f1, f2, f3, f4⟩ := qpc (d := u.den) hr hu.1 rest
 have e0 : btL (s :: (szR r u ++ rest)) 0 = s.toNat := rfl
 have es : zj (s :: (szR r u ++ rest)) = true := by unfold zj; rw [e0]; rcases hs with h | h <;> rw [h.1] <;> rfl
 have en : qbi (s :: (szR r u ++ rest)) = rb u.num := by unfold qbi; rw [e0]; rcases hs with h | h <;> rw [h.1, h.2] <;> rfl
 have ep : p0 (s :: (szR r u ++ rest)) = 1 := by unfold p0; rw [es]; rfl
 have ed : (s :: (szR r u ++ rest)).drop 1 = szR r u ++ rest := rfl
 have e1 : p1 r (s :: (szR r u ++ rest)) = 1 + (szR r u).length := by unfold p1; rw [ep, ed, h2]
 refine ⟨⟨?_, ?_, ?_, ?_, ?_, ?_, ?_⟩, es⟩
 ·
  rw [ed, show jj (szR r u ++ rest) = false from f3, Bool.and_false]
 ·
  rw [ep, ed]; exact h1
 ·
  rw [ep, ed]; exact h3
 ·
  rw [ep, ed, es, en, Bool.true_and]; exact h4
 ·
  rw [e1, Nat.add_comm, List.drop_succ_cons, List.drop_left]
 ·
  rw [e1]; simp; omega
 ·
  rw [e0]; rcases hs with h | h <;> rw [h.1] <;> decide
theorem zlj {r : Nat} (hr : RadN r) {u : Rat} (hu : jy u) {rest : List UInt8} (he : Ends r rest) (hl : (szR r u ++ rest).length ≤ 16384) (hb : rb u.num = false) : Head r u rest (szR r u ++ rest) := by
 obtain ⟨h1, h2, h3, h4⟩ := qja hr hu he hl
 obtain ⟨f1, f2, f3, f4⟩ := qpc (d := u.den) hr hu.1 rest
 have es : zj (szR r u ++ rest) = false := f1
 have ep : p0 (szR r u ++ rest) = 0 := by unfold p0; rw [es]; rfl
 have ed : (szR r u ++ rest).drop 0 = szR r u ++ rest := rfl
 have e1 : p1 r (szR r u ++ rest) = (szR r u).length := by unfold p1; rw [ep, ed, h2, Nat.zero_add]
 refine ⟨?_, ?_, ?_, ?_, ?_, ?_, f2⟩
 ·
  rw [es]; rfl
 ·
  rw [ep, ed]; exact h1
 ·
  rw [ep, ed]; exact h3
 ·
  rw [ep, ed, es, Bool.false_and, ← hb]; exact h4
 ·
  rw [e1, List.drop_left]
 ·
  rw [e1]; simp
theorem qsb {r : Nat} (hr : RadN r) {u : Rat} (hu : jy u) {rest : List UInt8} (he : Ends r rest) (hl : (xl r (rb u.num) (words u.num.natAbs) (words u.den) ++ rest).length ≤ 16384) : Head r u rest (xl r (rb u.num) (words u.num.natAbs) (words u.den) ++ rest) := by
 unfold xl at hl ⊢
 cases hb : rb u.num with
 | true =>
  rw [hb] at hl
  simp only [if_true, List.append_assoc, List.length_append, List.length_cons, List.length_nil] at hl ⊢
  exact (qsa hr hu he (s := 45) (by rw [List.length_append]; show (szL r _ _).length + _ ≤ _; omega) (.inl ⟨rfl, hb⟩)).1
 | false =>
  rw [hb] at hl
  simp only [Bool.false_eq_true, if_false, List.nil_append] at hl ⊢
  exact zlj hr hu he hl hb
theorem zsf {v : Rat} (h : words v.num.natAbs = [1] ∧ words v.den = [1]) : v = zlg (rb v.num) := by
 have h1 : v.num.natAbs = 1 := words_inj (h.1.trans jt.symm)
 have h2 : v.den = 1 := words_inj (h.2.trans jt.symm)
 have h3 := zhj v
 rw [h1, h2] at h3
 rw [← h3]
 unfold zlg
 cases rb v.num with
 | true => rw [show mkRat (sgn true 1) 1 = -1 from by decide +kernel]; decide +kernel
 | false => rw [show mkRat (sgn false 1) 1 = 1 from by decide +kernel]; decide +kernel
theorem zia (r : Nat) (v : Rat) : ∃ s : UInt8, (s.toNat = 45 ∧ rb v.num = true ∨ s.toNat = 43 ∧ rb v.num = false) ∧ imL r (rb v.num) (words v.num.natAbs) (words v.den) ++ [105] = s :: ((if words v.num.natAbs = [1] ∧ words v.den = [1] then [] else szR r v) ++ [105]) := by
 unfold imL
 cases hb : rb v.num with
 | true => exact ⟨45, .inl ⟨rfl, rfl⟩, by simp [szR]⟩
 | false => exact ⟨43, .inr ⟨rfl, rfl⟩, by simp [szR]⟩
theorem zib {s : UInt8} {b : Bool} {t : List UInt8} (hs : s.toNat = 45 ∧ b = true ∨ s.toNat = 43 ∧ b = false) : zj (s :: t) = true ∧ qbi (s :: t) = b ∧ btL (s :: t) 0 ≠ 35 := by
 have e0 : btL (s :: t) 0 = s.toNat := rfl
 unfold zj qbi
 rw [e0]
 rcases hs with ⟨h, rfl⟩ | ⟨h, rfl⟩ <;> rw [h] <;> decide
theorem zic : jj [105] = true := rfl
theorem zyi {r : Nat} (hr : RadN r) {v : Rat} (hv : jy v) (hl : (imL r (rb v.num) (words v.num.natAbs) (words v.den) ++ [105]).length ≤ 16384) : qbf r (imL r (rb v.num) (words v.num.natAbs) (words v.den) ++ [105]) = (true, 0, v, 0) ∧ btL (imL r (rb v.num) (words v.num.natAbs) (words v.den) ++ [105]) 0 ≠ 35 := by
 obtain ⟨s, hs, e⟩ := zia r v
 rw [e] at hl ⊢
 obtain ⟨g1, g2, g3⟩ := zib (t := (if words v.num.natAbs = [1] ∧ words v.den = [1] then [] else szR r v) ++ [105]) hs
 refine ⟨?_, g3⟩
 by_cases h1 : words v.num.natAbs = [1] ∧ words v.den = [1]
 ·
  rw [if_pos h1] at g1 g2 ⊢
  unfold qbf
  rw [g1, show jj ((s :: ([] ++ [105])).drop 1) = true from rfl, g2, ← zsf h1]
  rfl
 ·
  rw [if_neg h1] at hl g1 g2 ⊢
  have he : Ends r [105] := qlh (qod hr).2.2.2.1 (by decide)
  obtain ⟨H, hg⟩ := qsa hr hv he (s := s) (by simp only [List.length_cons] at hl; omega) hs
  have hlen := H.len
  simp only [List.length_cons, List.length_nil] at hlen
  unfold qbf
  rw [H.unit, H.ok, H.err, H.val, H.back, hg, zic]
  have h3 : ¬ p1 r (s :: (szR r v ++ [105])) = (s :: (szR r v ++ [105])).length := by simp only [List.length_cons]; omega
  rw [if_neg h3]
  rfl
theorem zma {r : Nat} (hr : RadN r) {u : Rat} (hu : jy u) (hl : (xl r (rb u.num) (words u.num.natAbs) (words u.den)).length ≤ 16384) : qbf r (xl r (rb u.num) (words u.num.natAbs) (words u.den)) = (true, u, 0, 0) ∧ btL (xl r (rb u.num) (words u.num.natAbs) (words u.den)) 0 ≠ 35 := by
 have H := qsb hr hu (zsd r) (by rw [List.append_nil]; exact hl)
 rw [List.append_nil] at H
 have hlen := H.len
 simp only [List.length_nil, Nat.add_zero] at hlen
 refine ⟨?_, H.hash⟩
 unfold qbf
 rw [H.unit, H.ok, H.err, H.val, if_pos hlen]
 rfl
theorem zmb {r : Nat} (hr : RadN r) {u v : Rat} (hu : jy u) (hv : jy v) (hl : (xl r (rb u.num) (words u.num.natAbs) (words u.den) ++ (imL r (rb v.num) (words v.num.natAbs) (words v.den) ++ [105])).length ≤ 16384) :
  qbf r (xl r (rb u.num) (words u.num.natAbs) (words u.den) ++ (imL r (rb v.num) (words v.num.natAbs) (words v.den) ++ [105])) = (true, u, v, 0) ∧ btL (xl r (rb u.num) (words u.num.natAbs) (words u.den) ++ (imL r (rb v.num) (words v.num.natAbs) (words v.den) ++ [105])) 0 ≠ 35 := by
 obtain ⟨s, hs, e⟩ := zia r v
 rw [e] at hl ⊢
 obtain ⟨g1, g2, g3⟩ := zib (t := (if words v.num.natAbs = [1] ∧ words v.den = [1] then [] else szR r v) ++ [105]) hs
 obtain ⟨k1, k2, k3, k4, k5, k6⟩ := qod hr
 have he : Ends r (s :: ((if words v.num.natAbs = [1] ∧ words v.den = [1] then [] else szR r v) ++ [105])) := by
  rcases hs with ⟨h, _⟩ | ⟨h, _⟩
  ·
   rw [show s = 45 from UInt8.toNat_inj.1 h]; exact qlh k2 (by decide)
  ·
   rw [show s = 43 from UInt8.toNat_inj.1 h]; exact qlh k1 (by decide)
 have H := qsb hr hu he hl
 have hlen := H.len
 refine ⟨?_, H.hash⟩
 have hm : m1 r (xl r (rb u.num) (words u.num.natAbs) (words u.den) ++ (s :: ((if words v.num.natAbs = [1] ∧ words v.den = [1] then [] else szR r v) ++ [105]))) = (if words v.num.natAbs = [1] ∧ words v.den = [1] then [] else szR r v) ++ [105] := by
  unfold m1
  rw [← List.drop_drop, H.back]
  rfl
 have h3 : ¬ p1 r (xl r (rb u.num) (words u.num.natAbs) (words u.den) ++ (s :: ((if words v.num.natAbs = [1] ∧ words v.den = [1] then [] else szR r v) ++ [105]))) = (xl r (rb u.num) (words u.num.natAbs) (words u.den) ++ (s :: ((if words v.num.natAbs = [1] ∧ words v.den = [1] then [] else szR r v) ++ [105]))).length := by
  simp only [List.length_cons] at hlen ⊢
  omega
 have h4 : jj (s :: ((if words v.num.natAbs = [1] ∧ words v.den = [1] then [] else szR r v) ++ [105])) = false := by
  cases k : jj (s :: ((if words v.num.natAbs = [1] ∧ words v.den = [1] then [] else szR r v) ++ [105])) with
  | false => rfl
  | true => rw [qij k] at g1; cases g1
 have tail : ∀ n, (xl r (rb u.num) (words u.num.natAbs) (words u.den) ++ (s :: ((if words v.num.natAbs = [1] ∧ words v.den = [1] then [] else szR r v) ++ [105]))).drop (p1 r (xl r (rb u.num) (words u.num.natAbs) (words u.den) ++ (s :: ((if words v.num.natAbs = [1] ∧ words v.den = [1] then [] else szR r v) ++ [105]))) + 1 + n) = ((if words v.num.natAbs = [1] ∧ words v.den = [1] then [] else szR r v) ++ [105]).drop n := by
  intro n
  rw [← List.drop_drop, ← List.drop_drop, H.back]
  rfl
 unfold qbf
 rw [H.unit, H.ok, H.err, H.val, if_neg h3, H.back, h4, g1, g2, hm, tail, Bool.and_false]
 by_cases h1 : words v.num.natAbs = [1] ∧ words v.den = [1]
 ·
  rw [if_pos h1, ← zsf h1]
  rfl
 ·
  rw [if_neg h1] at hl ⊢
  have he2 : Ends r [105] := qlh k4 (by decide)
  have hl2 : (szR r v ++ [105]).length ≤ 16384 := by
   simp only [List.length_append, List.length_cons] at hl ⊢
   omega
  obtain ⟨j1, j2, j3, j4⟩ := qja hr hv he2 hl2
  obtain ⟨f1, f2, f3, f4⟩ := qpc (d := v.den) hr hv.1 [105]
  rw [show jj (szR r v ++ [105]) = false from f3, j1, j2, j3, j4, List.drop_left, zic]
  rfl
theorem zsg {u : Rat} : (words u.num.natAbs).length = 0 ↔ u = 0 := by
 constructor
 ·
  intro h
  have h1 : ¬ u.num.natAbs ≠ 0 := fun k => by have := kb.2 k; omega
  have h2 : u.num = 0 := by omega
  exact Rat.num_eq_zero.1 h2
 ·
  rintro rfl; rw [show (0 : Rat).num.natAbs = 0 from rfl, words_zero]; rfl
theorem zmc {r : Nat} (hr : RadN r) {u v : Rat} (hu : jy u) (hv : jy v) (hl : (vj r (Q6.rat u v)).length ≤ 16384) : qbf r (vj r (Q6.rat u v)) = (true, u, v, 0) ∧ btL (vj r (Q6.rat u v)) 0 ≠ 35 := by
 have e : vj r (Q6.rat u v) = if (words v.num.natAbs).length = 0 then xl r (rb u.num) (words u.num.natAbs) (words u.den) else (if (words u.num.natAbs).length = 0 then [] else xl r (rb u.num) (words u.num.natAbs) (words u.den)) ++ (imL r (rb v.num) (words v.num.natAbs) (words v.den) ++ [105]) := rfl
 rw [e] at hl ⊢
 by_cases h1 : (words v.num.natAbs).length = 0
 ·
  rw [if_pos h1] at hl ⊢
  have := zsg.1 h1
  subst this
  exact zma hr hu hl
 ·
  rw [if_neg h1] at hl ⊢
  by_cases h2 : (words u.num.natAbs).length = 0
  ·
   rw [if_pos h2, List.nil_append] at hl ⊢
   have := zsg.1 h2
   subst this
   exact zyi hr hv hl
  ·
   rw [if_neg h2] at hl ⊢
   exact zmb hr hu hv hl
theorem zmd {r : Nat} (hr : RadN r) {u v : Rat} (hu : jy u) (hv : jy v) (hl : (vj r (Q6.rat u v)).length ≤ 16384) : qbe (vj r (Q6.rat u v)) ((r : Nat) : Int) = (Q6.rat u v, 0) := by
 obtain ⟨h1, h2⟩ := zmc hr hu hv hl
 have hok : okP r (vj r (Q6.rat u v)) = true := by rw [← zyg hr, h1]
 rw [qei hr (qnj h2), if_pos hok, if_pos hl, zrj hr h1, if_pos rfl]
theorem tD_few {x r n : Nat} (hr : RadN r) (hx : (words x).length ≤ 512) (h : bl x ≤ n) : (tD (words x) r).length ≤ n + 1 := by
  rw [qpa]
  have h2 : 2 ≤ r := by rcases hr with h | h | h | h <;> omega
  have h36 : r ≤ 36 := by rcases hr with h | h | h | h <;> omega
  unfold textS
  rw [zy hx, decide_eq_true (show (2 : Int) ≤ (r : Int) ∧ (r : Int) ≤ 36 from by omega), Int.toNat_natCast]
  simp only [if_true, val_words]
  split
  · show 1 ≤ n + 1
    omega
  · show (txt r x).size ≤ _
    rw [ur]
    have h3 := qze h2 x x (Nat.le_refl _)
    omega
theorem qzf {b : Bool} {x : Nat} (hx : (words x).length ≤ 512) (hb : b.toNat ≤ x) (hbl : bl (x - b.toNat) ≤ 500) : (vj 16 (Q6.whole b x)).length ≤ 600 := by
  have hy := bl_le.1 hbl
  have hbx : bl x ≤ 501 := by
    refine bl_le.2 ?_
    obtain ⟨E, hE⟩ : ∃ E, E = 500 := ⟨_, rfl⟩
    rw [← hE] at hy
    rw [show (501 : Nat) = E + 1 from by omega, Nat.pow_succ]
    have hp := Nat.two_pow_pos E
    have : b.toNat ≤ 1 := by cases b <;> decide
    omega
  have h := tD_few (r := 16) (.inr (.inr (.inr rfl))) hx hbx
  unfold vj xl szL
  simp only [Q6.whole, List.length_nil, if_true, List.append_nil, List.length_append]
  cases b <;> simp <;> omega
theorem zme {b : Bool} {x : Nat} (hx : (words x).length ≤ 512) (hb : b.toNat ≤ x) (hbl : bl (x - b.toNat) ≤ 500) : qbe (vj 16 (Q6.whole b x)) 16 = (Q6.whole b x, 0) := by
  have hl := qzf hx hb hbl
  rw [qee hb] at hl ⊢
  exact zmd (r := 16) (.inr (.inr (.inr rfl))) (qaf hx) yn (by omega)
theorem zid : (mkRat 12 8).num = 3 := by decide +kernel
theorem zie : (mkRat 12 8).den = 2 := by decide +kernel
theorem zyj : words 3 = [3] := ub (by decide) (by decide)
theorem qzg : words 2 = [2] := ub (by decide) (by decide)
def vi : Q6 := Q6.rat (mkRat 12 8) 0
theorem zif : jy (mkRat 12 8) := by
  unfold jy
  rw [zid, zie]
  show (words 3).length ≤ 512 ∧ (words 2).length ≤ 512
  rw [zyj, qzg]
  decide
theorem zza {x : Nat} (h0 : x ≠ 0) (h : x < 10) : digs 10 x = [x] := by
  rw [digs_pos (by decide) h0, Nat.mod_eq_of_lt h, Nat.div_eq_of_lt h, digs_zero]
theorem tD_1 {x : Nat} (h0 : x ≠ 0) (h : x < 10) : tD (words x) 10 = [(dch x).toUInt8] := by
  have hw : words x = [x] := ub (by omega) (by omega)
  have hx : (words x).length ≤ 512 := by rw [hw]; show 1 ≤ 512; decide
  unfold tD textS
  rw [zy hx, decide_eq_true (show (2 : Int) ≤ ((10 : Nat) : Int) ∧ ((10 : Nat) : Int) ≤ 36 from by decide), Int.toNat_natCast]
  simp only [if_true, val_words]
  rw [if_neg h0]
  unfold txt
  rw [zza h0 h]
  rfl
theorem qpd : vj 10 vi = [51, 47, 50] := by
  unfold vj vi xl szL Q6.rat
  simp only [zid, zie]
  rw [show (3 : Int).natAbs = 3 from rfl, show (0 : Rat).num.natAbs = 0 from rfl, words_zero]
  rw [tD_1 (x := 3) (by decide) (by decide), tD_1 (x := 2) (by decide) (by decide), qzg]
  rfl
theorem qpe {l : List UInt8} {x : Nat} (hn : numeralS 10 (bsL l) = true) (hsz : l.length ≤ 16384) (hv : tval 10 (bsL l) l.length = x) (hx : (words x).length ≤ 512) : readS (bsL l) ((10 : Nat) : Int) = (words x, 0) := by
  unfold readS
  rw [if_pos (by decide), Int.toNat_natCast, if_pos hn, xj, if_pos hsz, hv]
  unfold fitS
  rw [if_pos hx]
theorem zfa {l : List UInt8} {x : Nat} (hl : l ≠ []) (hn : readS (bsL l) ((10 : Nat) : Int) = (words x, 0)) : rdE 10 l = 0 := by
  unfold rdE
  rw [if_neg hl]
  exact (congrArg Prod.snd hn)
theorem qjb {x : Nat} (h : x < 4294967296) : (words x).length ≤ 512 := by
  by_cases h0 : x = 0
  · subst h0; rw [words_zero]; decide
  · rw [ub h0 h]; show 1 ≤ 512; decide
theorem zsh : qbe [49, 50, 47, 56] 10 = (vi, 0) := by
  have r1 : rdE 10 [49, 50] = 0 := zfa (by decide) (qpe (x := 12) (by decide +kernel) (by decide) (by decide +kernel) (qjb (by decide)))
  have r2 : rdE 10 [56] = 0 := zfa (by decide) (qpe (x := 8) (by decide +kernel) (by decide) (by decide +kernel) (qjb (by decide)))
  have r3 : rdE 10 [48] = 0 := zfa (by decide) (qpe (x := 0) (by decide +kernel) (by decide) (by decide +kernel) (qjb (by decide)))
  have r4 : rdE 10 [] = 0 := rfl
  have n1 : zi 10 [49, 50] = 12 := by decide +kernel
  have n2 : zi 10 [56] = 8 := by decide +kernel
  have n3 : zi 10 [48] = 0 := by decide +kernel
  have n4 : zi 10 [] = 1 := rfl
  have hp : jw false false 10 [49, 50, 47, 56] = ([49, 50, 47, 56], 10) := by decide +kernel
  have hok : okP 10 [49, 50, 47, 56] = true := by decide +kernel
  have hre : reP 10 [49, 50, 47, 56] = (0, [49, 50], [56]) := by decide +kernel
  have him : imP 10 [49, 50, 47, 56] = (0, [48], []) := by decide +kernel
  unfold qbe
  rw [if_pos (by decide), show (10 : Int).toNat = 10 from rfl, hp]
  show (if okP 10 [49, 50, 47, 56] = true then _ else _) = _
  rw [if_pos hok, if_pos (by decide)]
  show ve 10 (reP 10 [49, 50, 47, 56]) (imP 10 [49, 50, 47, 56]) = _
  rw [hre, him]
  unfold ve xw qhg
  simp only [r1, r2, r3, r4, n1, n2, n3, n4]
  rw [if_neg (by simp), if_neg (by decide)]
  rfl
theorem BiP_is1_77 : Is1 Tryz.prog 77 := ⟨⟨_, Tryz.underlying77, rfl⟩, by kernel_rfl⟩
theorem BiP_isS_26 : IsS Tryz.prog 26 6 := ⟨⟨_, Tryz.underlying26⟩, by kernel_rfl⟩
theorem BiP_isS_62 : IsS Tryz.prog 62 2 := ⟨⟨_, Tryz.underlying62⟩, by kernel_rfl⟩
theorem zzj {k : Nat} (hk : k < 32) : 2 ^ k - 1 < 4294967296 := by
 have h3 : 2 ^ k ≤ 2 ^ 31 := Nat.pow_le_pow_right (by decide) (by omega)
 have h4 : (2 : Nat) ^ 31 = 2147483648 := rfl
 omega
theorem zui {b : Bool} {y c n : Nat} (hn : (c + 32 - 1) / 32 = n + 1) (hr : 0 < c % 32) : val ((ko b y (n + 1)).set n ((ko b y (n + 1)).getD n 0 &&& (2 ^ (c % 32) - 1))) = fld b y 0 c := by
 rw [zpa (yt _ _ _) (vn _ _ _), pw_two, ← Nat.pow_add, show 32 * n + c % 32 = c from by omega]
 exact qnb (by omega)
theorem jaa {b : Bool} {y c : Nat} (hr : ¬ 0 < c % 32) : val (ko b y ((c + 32 - 1) / 32)) = fld b y 0 c := by
 have h1 := qnb (b := b) (y := y) (n := (c + 32 - 1) / 32) (c := c) (by omega)
 have h2 := val_lt (yt b y ((c + 32 - 1) / 32))
 rw [vn, pw_two, show 32 * ((c + 32 - 1) / 32) = c from by omega] at h2
 rw [← h1, Nat.mod_eq_of_lt h2]
theorem qpj {w : World} {b : Bool} {ro : Option Addr} {rc y c : Nat} (hr : Rd w ro (words y)) (hy : (words y).length ≤ 600) (hc : c ≤ 16384) : Calls Tryz.prog 32 #[.agg #[.bool b, .slice ro (words y).length rc], .int .i64 ((c : Nat) : Int)] w (Row1 w (words (fld b y 0 c))) := by
 have V : St w w [] [] [] := St.start w
 refine qy (l := [(0, .agg #[.bool b, .slice ro ((words y).length) rc]), (1, .int .i64 (((c : Nat) : Int)))]) Tryz.func32 rfl Tryz.ntmps32 rfl rfl ?_
 intro Q hret hnorm hP a A
 refine wsk fun K1 hK1 => wrl (qn A V rfl rfl rfl pg (qw rfl rfl) rfl ?_)
 intro g2 w3 V a A
 refine sda A λa A↦?_
 refine qa (hK1 _ _ (wsk fun K4 hK4 => wrl (sdm A λa A↦?_)))
 refine sdo (v := .int .i64 (((c + 32 : Nat) : Int))) A (qe rfl rfl (fun w => (qea (uk (by omega) (by omega)) w).trans (by rw [show (((c : Nat) : Int) + 32 : Int) = ((c + 32 : Nat) : Int) from by omega]))) λa A↦?_
 refine sdo (v := .int .i64 (((c + 32 - 1 : Nat) : Int))) A (qe rfl rfl (fun w => (qle (uk (by omega) (by omega)) w).trans (by rw [show (((c + 32 : Nat) : Int) - 1 : Int) = ((c + 32 - 1 : Nat) : Int) from by omega]))) λa A↦?_
 refine sdo (v := .int .i64 ((((c + 32 - 1) / 32 : Nat) : Int))) A (qe rfl rfl (zxd (by omega))) λa A↦?_
 refine qwe (m := (c + 32 - 1) / 32) A V rfl rfl rfl (qqg Tryz.underlying22 (by kernel_rfl) rfl rfl (by omega)) (by omega) ?_
 intro g5 w6 V a A
 refine sda A λa A↦?_
 refine qa (hK4 _ _ (wsk fun K7 hK7 => wsk fun K8 hK8 => wrl (sdm A λa A↦?_)))
 refine sdo A (zg Tryz.underlying22 rfl) λa A↦?_
 refine sdm A λa A↦?_
 refine qa (hK8 _ _ (wp_block (js (fun m a w1 => ∃ (i : Nat) (l : List Nat), m = (c + 32 - 1) / 32 - i ∧ (i ≤ (c + 32 - 1) / 32 ∧ l.length = (c + 32 - 1) / 32 ∧ ∀ j, j < i → l.getD j 0 = rwd b y j) ∧ Sl a 42 [(0, .agg #[.bool b, .slice ro ((words y).length) rc]), (1, .int .i64 (((c : Nat) : Int))), (2, .pointer (some ⟨g2, 0, none⟩)), (4, .slice none 0 0), (5, .slice (some ⟨g5, 0, none⟩) ((c + 32 - 1) / 32) ((c + 32 - 1) / 32)), (8, .int .i64 (((c : Nat) : Int))), (9, .int .i64 (((c + 32 : Nat) : Int))), (10, .int .i64 (((c + 32 - 1 : Nat) : Int))), (11, .int .i64 ((((c + 32 - 1) / 32 : Nat) : Int))), (12, .slice (some ⟨g5, 0, none⟩) ((c + 32 - 1) / 32) ((c + 32 - 1) / 32)), (13, .slice (some ⟨g5, 0, none⟩) ((c + 32 - 1) / 32) ((c + 32 - 1) / 32)), (14, .int .i64 ((((c + 32 - 1) / 32 : Nat) : Int))), (15, .int .i64 (((i : Nat) : Int)))] ∧ St w w1 [(g2, [.bool b, .slice ro ((words y).length) rc])] [] [(some ⟨g5, 0, none⟩, (c + 32 - 1) / 32, l)]) _ ⟨0, List.replicate ((c + 32 - 1) / 32) 0, rfl, ⟨Nat.zero_le _, by simp, fun j hj => by omega⟩, A.keep _ ⟨rfl, rfl, rfl, rfl, rfl, rfl, rfl, rfl, rfl, rfl, rfl, rfl, rfl, trivial⟩, V⟩ ?_)))
 clear V A
 rintro m a w9 ⟨i, l, rfl, hinv11, A, V⟩ K10 hK10
 obtain ⟨hle9, hinv9, hinv8⟩ := hinv11
 have hdig9 := (V.row 0 rfl).dig
 refine wsk fun K12 hK12 => wrl ?_
 rcases tf (decide (((i : Nat) : Int) < (((c + 32 - 1) / 32 : Nat) : Int))) with hb13 | hb13
 ·
  have hb13' := of_decide_eq_true hb13
  refine sdo (v := .bool true) A (qe rfl rfl (fun w => (zt w).trans (by rw [hb13]))) λa A↦?_
  refine qa (hK12 _ _ (wsk fun K14 hK14 => wp_cond_true (A.ev rfl) ?_))
  refine wp_skip (hK14 _ _ (wsk fun K15 hK15 => wp_block (wsk fun K16 hK16 => wrl (sdm A λa A↦?_))))
  refine sda A λa A↦?_
  refine qa (hK16 _ _ (wrl ?_))
  iterate 2 refine sdm A λa A↦?_
  refine sdo A (qk V BiP_isS_62 rfl 0 rfl (cs := [.bool b, .slice ro ((words y).length) rc]) rfl rfl) λa A↦?_
  refine sdm A λa A↦?_
  refine qg A rfl rfl rfl (qb  rfl rfl (fun w => by kernel_rfl)) (qch (hr.below V.bel) (by omega)) ?_
  rintro _ w18 ⟨rfl, hb17⟩
  have hS0 := V
  replace V := V.call hb17
  refine ⟨_, rfl, ?_⟩
  intro a A
  have hi22 : i < l.length := by first | omega | (simp only [List.length_set]; omega)
  refine sdo (v := .pointer (some ⟨g5, 0 + i, none⟩)) A (zw (k := i) Tryz.underlying22 (by kernel_rfl) rfl rfl (by omega) rfl (by omega)) λa A↦?_
  refine zwb (us' := l.set i (rwd b y i)) A V rfl rfl (qme (d := rwd b y i) (by kernel_rfl) rfl rfl V 0 rfl hi22) 0 rfl (qcg _ _ _) rfl ?_
  intro w23 V
  refine qa (hK15 _ _ (wrl (sdo (v := .int .i64 (((i + 1 : Nat) : Int))) A (qe rfl rfl (fun w => (qea (uk (by omega) (by omega)) w).trans (by rw [show (((i : Nat) : Int) + 1 : Int) = ((i + 1 : Nat) : Int) from by omega]))) λa A↦?_)))
  refine sdm A λa A↦?_
  refine qa ?_
  refine hK10 _ _ _ (by omega) ⟨i + 1, l.set i (rwd b y i), rfl, ⟨by omega, by rw [List.length_set]; exact hinv9, fun j hj => by rw [qxg _ _ _ _ (by omega)]; split; rename_i h; subst h; rfl; exact hinv8 j (by omega)⟩, A.keep _ ⟨rfl, rfl, rfl, rfl, rfl, rfl, rfl, rfl, rfl, rfl, rfl, rfl, rfl, trivial⟩, V⟩
 ·
  have hb13' := of_decide_eq_false hb13
  refine sdo (v := .bool false) A (qe rfl rfl (fun w => (zt w).trans (by rw [hb13]))) λa A↦?_
  refine qa (hK12 _ _ (wsk fun K24 hK24 => wp_cond_false (A.ev rfl) ?_))
  refine wp_exit (hK7 _ _ (wsk fun K25 hK25 => wsk fun K26 hK26 => wrl (sdm A λa A↦?_)))
  refine sdo (v := .int .i64 (((c % 32 : Nat) : Int))) A (qe rfl rfl (zxe (by omega))) λa A↦?_
  refine sda A λa A↦?_
  refine qa (hK26 _ _ (wsk fun K27 hK27 => wrl (sdm A λa A↦?_)))
  rcases tf (decide (0 < ((c % 32 : Nat) : Int))) with hb28 | hb28
  ·
   have hb28' := of_decide_eq_true hb28
   refine sdo (v := .bool true) A (qe rfl rfl (fun w => (ju w).trans (by rw [hb28]))) λa A↦?_
   refine qa (hK27 _ _ (wp_cond_true (A.ev rfl) ?_))
   refine jc (S := fun w1 => St w w1 [(g2, [.bool b, .slice ro ((words y).length) rc])] [] []) (by kernel_rfl) ?_
   replace V := V.drew
   refine qh A 0 rfl rfl rfl rfl hP (V.partD (.refl _) 0 rfl (.cons _ .slnil)) (fun w1 V => qz rfl) λa A↦?_
   refine qh A 1 rfl rfl rfl rfl hP (V.partD (.refl _) 0 rfl (.cons _ .slnil)) (fun w1 V => qz rfl) λa A↦?_
   refine qh (v := .int .i64 ((((c + 32 - 1) / 32 : Nat) : Int))) A 2 rfl rfl rfl rfl hP (V.partD (.refl _) 0 rfl (.cons _ .slnil)) (fun w1 V => zg Tryz.underlying22 rfl) λa A↦?_
   refine qh (v := .int .i64 ((((c + 32 - 1) / 32 - 1 : Nat) : Int))) A 3 rfl rfl rfl rfl hP (V.partD (.refl _) 0 rfl (.cons _ .slnil)) (fun w1 V => qe rfl rfl (fun w => (qle (uk (by omega) (by omega)) w).trans (by rw [show ((((c + 32 - 1) / 32 : Nat) : Int) - 1 : Int) = (((c + 32 - 1) / 32 - 1 : Nat) : Int) from by omega]))) λa A↦?_
   have hi32 : (c + 32 - 1) / 32 - 1 < l.length := by first | omega | (simp only [List.length_set]; omega)
   refine qh (v := .pointer (some ⟨g5, 0 + ((c + 32 - 1) / 32 - 1), none⟩)) A 4 rfl rfl rfl rfl hP (V.partD (.refl _) 0 rfl (.cons _ .slnil)) (fun w1 V => zw (k := (c + 32 - 1) / 32 - 1) Tryz.underlying22 (by kernel_rfl) rfl rfl (by omega) rfl (by omega)) λa A↦?_
   refine qh A 6 rfl rfl rfl rfl hP (V.partD (.refl _) 0 rfl (.cons _ .slnil)) (fun w1 V => qz rfl) λa A↦?_
   refine qh (v := .int .u32 (((1 * 2 ^ (c % 32) : Nat) : Int))) A 7 rfl rfl rfl rfl hP (V.partD (.refl _) 0 rfl (.cons _ .slnil)) (fun w1 V => qe rfl rfl (zxf (x := 1) (by decide) (by omega))) λa A↦?_
   refine qh (v := .int .u32 (((2 ^ (c % 32) - 1 : Nat) : Int))) A 8 rfl rfl rfl rfl hP (V.partD (.refl _) 0 rfl (.cons _ .slnil)) (fun w1 V => qe rfl rfl (zpb (by omega))) λa A↦?_
   refine qt (by kernel_rfl) (qgj (v := .int .u32 (((l.getD ((c + 32 - 1) / 32 - 1) 0 : Nat) : Int))) A 5 rfl rfl rfl rfl (yj (V.row 0 rfl).rd rfl hi32 BiP_is1_77 rfl) (V.partD (.refl _) 0 rfl (.cons _ .slnil)) ?_)
   intro a A
   refine qh (v := .int .u32 (((l.getD ((c + 32 - 1) / 32 - 1) 0 &&& (2 ^ (c % 32) - 1) : Nat) : Int))) A 9 rfl rfl rfl rfl hP (V.partD (.refl _) 0 rfl (.cons _ .slnil)) (fun w1 V => qe rfl rfl (zwf (Dig.getD hdig9 _) (zzj (by omega)))) λa A↦?_
   have hi36 : (c + 32 - 1) / 32 - 1 < l.length := by first | omega | (simp only [List.length_set]; omega)
   refine qh (v := .pointer (some ⟨g5, 0 + ((c + 32 - 1) / 32 - 1), none⟩)) A 10 rfl rfl rfl rfl hP (V.partD (.refl _) 0 rfl (.cons _ .slnil)) (fun w1 V => zw (k := (c + 32 - 1) / 32 - 1) Tryz.underlying22 (by kernel_rfl) rfl rfl (by omega) rfl (by omega)) λa A↦?_
   refine qt (by kernel_rfl) (zng (us' := l.set ((c + 32 - 1) / 32 - 1) (l.getD ((c + 32 - 1) / 32 - 1) 0 &&& (2 ^ (c % 32) - 1))) A V 11 rfl rfl rfl (qme (d := l.getD ((c + 32 - 1) / 32 - 1) 0 &&& (2 ^ (c % 32) - 1)) (by kernel_rfl) rfl rfl V 0 rfl hi36) 0 rfl (Nat.lt_of_le_of_lt Nat.and_le_left (Dig.getD (V.row 0 rfl).dig _)) rfl ?_)
   intro w37 V
   refine ⟨(V.partD (.refl _) 0 rfl (.cons _ .slnil)), ?_⟩
   refine zn (by kernel_rfl) ?_
   refine hK25 _ _ (wsk fun K38 hK38 => wrl (sdm A λa A↦?_))
   refine qg A rfl rfl rfl (qb  rfl rfl (fun w => by kernel_rfl)) (qga (V.row 0 rfl) (by first | exact hinv9 | (rw [List.length_set]; exact hinv9)) (by omega)) ?_
   rintro _ w41 ⟨rfl, ho39, hw40⟩
   have hw9 := xp hw40
   have ho9 := ho39.below hw9
   have hS0 := V
   replace V := V.call hw9
   replace V : St w w41 [(g2, [.bool b, .slice ro ((words y).length) rc])] [] [(some ⟨g5, 0, none⟩, (c + 32 - 1) / 32, words (val (l.set ((c + 32 - 1) / 32 - 1) (l.getD ((c + 32 - 1) / 32 - 1) 0 &&& (2 ^ (c % 32) - 1)))))] := V.retake 0 rfl ho9
   refine ⟨_, rfl, ?_⟩
   intro a A
   refine sda A λa A↦?_
   refine qa (hK38 _ _ (wp_ret (hret _ _ (en1 A rfl (qj rfl) ?_))))
   have hi9 : i = (c + 32 - 1) / 32 := by omega
   subst hi9
   have el : l = ko b y ((c + 32 - 1) / 32) := list_of_getD (by rw [vn]; exact hinv9) (fun j hj => by rw [qhd (by omega)]; exact hinv8 j (by omega))
   subst el
   obtain ⟨n9, hn9⟩ : ∃ n9, (c + 32 - 1) / 32 = n9 + 1 := ⟨(c + 32 - 1) / 32 - 1, by omega⟩
   have ev := zui (b := b) (y := y) hn9 (by omega)
   have e9 : (c + 32 - 1) / 32 - 1 = n9 := by omega
   rw [← hn9, ← e9] at ev
   rw [← ev]
   exact ⟨_, _, rfl, V.row 0 rfl, V.bel⟩
  ·
   have hb28' := of_decide_eq_false hb28
   refine sdo (v := .bool false) A (qe rfl rfl (fun w => (ju w).trans (by rw [hb28]))) λa A↦?_
   refine qa (hK27 _ _ (wp_cond_false (A.ev rfl) ?_))
   refine wp_skip (hK25 _ _ (wsk fun K42 hK42 => wrl (sdm A λa A↦?_)))
   refine qg A rfl rfl rfl (qb  rfl rfl (fun w => by kernel_rfl)) (qga (V.row 0 rfl) (by first | exact hinv9 | (rw [List.length_set]; exact hinv9)) (by omega)) ?_
   rintro _ w45 ⟨rfl, ho43, hw44⟩
   have hw9 := xp hw44
   have ho9 := ho43.below hw9
   have hS0 := V
   replace V := V.call hw9
   replace V : St w w45 [(g2, [.bool b, .slice ro ((words y).length) rc])] [] [(some ⟨g5, 0, none⟩, (c + 32 - 1) / 32, words (val (l)))] := V.retake 0 rfl ho9
   refine ⟨_, rfl, ?_⟩
   intro a A
   refine sda A λa A↦?_
   refine qa (hK42 _ _ (wp_ret (hret _ _ (en1 A rfl (qj rfl) ?_))))
   have hi9 : i = (c + 32 - 1) / 32 := by omega
   subst hi9
   have el : l = ko b y ((c + 32 - 1) / 32) := list_of_getD (by rw [vn]; exact hinv9) (fun j hj => by rw [qhd (by omega)]; exact hinv8 j (by omega))
   subst el
   rw [← jaa (b := b) (y := y) (c := c) (by omega)]
   exact ⟨_, _, rfl, V.row 0 rfl, V.bel⟩
theorem zad {w : World} {q : Q6} {a1 a2 a3 a4 : Option Addr} {ac1 ac2 ac3 ac4 : Nat} (ha : Nm w q a1 ac1 a2 ac2 a3 ac3 a4 ac4) (hl : LenQ q) {s e : Int} (hw : (ji q != 0) = true) : Calls Tryz.prog 9 #[jx q a1 ac1 a2 ac2 a3 ac3 a4 ac4, .int .i64 s, .int .i64 e] w (AnsN w (ky q s e)) := by
 have V : St w w [] [(a4, q.q2), (a3, q.t2), (a2, q.q1), (a1, q.t1)] [] := ((((St.start w).addR ha.s1.rd).addR ha.s2.rd).addR ha.s3.rd).addR ha.s4.rd
 refine qy (l := [(0, .agg #[.bool q.b1, .slice a1 q.t1.length ac1, .slice a2 q.q1.length ac2, .bool q.b2, .slice a3 q.t2.length ac3, .slice a4 q.q2.length ac4]), (1, .int .i64 s), (2, .int .i64 e)]) Tryz.func9 rfl Tryz.ntmps9 rfl rfl ?_
 intro Q hret hnorm hP a A
 refine wsk fun K1 hK1 => wrl (qn A V rfl rfl rfl pg (qw rfl rfl) rfl ?_)
 intro g2 w3 V a A
 refine qn (vs := [.bool false, .slice none 0 0, .slice none 0 0, .bool false, .slice none 0 0, .slice none 0 0]) (t := 26) A V rfl rfl rfl pg (ql (z := .agg #[.bool false, .slice none 0 0, .slice none 0 0, .bool false, .slice none 0 0, .slice none 0 0]) (by kernel_rfl) rfl) rfl ?_
 intro g4 w5 V a A
 refine sda A λa A↦?_
 refine qa (hK1 _ _ (wsk fun K6 hK6 => wsk fun K7 hK7 => wrl (sdo A (qk V BiP_isS_26 rfl 1 rfl (cs := [.bool q.b1, .slice a1 q.t1.length ac1, .slice a2 q.q1.length ac2, .bool q.b2, .slice a3 q.t2.length ac3, .slice a4 q.q2.length ac4]) rfl rfl) λa A↦?_)))
 refine qn (vs := [.bool q.b1, .slice a1 q.t1.length ac1, .slice a2 q.q1.length ac2, .bool q.b2, .slice a3 q.t2.length ac3, .slice a4 q.q2.length ac4]) (t := 26) A V rfl rfl rfl (fun g => .slice (some ⟨g, 0, none⟩) 1 1) (zx rfl (by kernel_rfl)) rfl ?_
 intro g8 w9 V a A
 refine qg A rfl rfl rfl (qb  rfl rfl (fun w => by kernel_rfl)) (kf (show Nm _ q a1 ac1 a2 ac2 a3 ac3 a4 ac4 from ⟨⟨(V.rd 3 rfl), ha.s1.nil, ha.s1.cap⟩, ⟨(V.rd 2 rfl), ha.s2.nil, ha.s2.cap⟩, ⟨(V.rd 1 rfl), ha.s3.nil, ha.s3.cap⟩, ⟨(V.rd 0 rfl), ha.s4.nil, ha.s4.cap⟩⟩) hl (V.blk 0 rfl) rfl) ?_
 rintro _ w11 ⟨rfl, hb10⟩
 replace V := V.call hb10
 refine ⟨_, rfl, ?_⟩
 intro a A
 refine sda A λa A↦?_
 refine qa (hK7 _ _ (wsk fun K12 hK12 => wrl (sdm A λa A↦?_)))
 refine sdo (v := .bool true) A (qe rfl rfl (fun w => (jd w).trans (by rw [show ((ji q != 0)) = true from hw]))) λa A↦?_
 refine qa (hK12 _ _ (wp_cond_true (A.ev rfl) ?_))
 refine wsk fun K13 hK13 => wrl (sdo (v := .agg #[.bool false, .slice none 0 0, .slice none 0 0, .bool false, .slice none 0 0, .slice none 0 0]) A (za rfl (fun w => by kernel_rfl)) λa A↦?_)
 refine sdm A λa A↦?_
 refine qr (us := [.bool false, .slice none 0 0, .slice none 0 0, .bool false, .slice none 0 0, .slice none 0 0]) A V rfl rfl (qi rfl rfl rfl (by kernel_rfl) V 1 rfl rfl rfl) 1 rfl rfl rfl rfl ?_
 intro w14 V
 refine sda A λa A↦?_
 refine qa (hK13 _ _ (wp_ret (hret _ _ (en2 A rfl (qx V BiP_isS_26 rfl 1 rfl (cs := [.bool false, .slice none 0 0, .slice none 0 0, .bool false, .slice none 0 0, .slice none 0 0]) rfl rfl) (qj rfl) ?_))))
 rw [zda hw]
 exact ⟨none, 0, none, 0, none, 0, none, 0, rfl, ⟨(Sc.none _), (Sc.none _), (Sc.none _), (Sc.none _)⟩, V.bel⟩
theorem zae {w : World} {b : Bool} {x : Nat} {a1 a2 a3 a4 : Option Addr} {ac1 ac2 ac3 ac4 : Nat} (ha : Nm w (Q6.whole b x) a1 ac1 a2 ac2 a3 ac3 a4 ac4) (hl : LenQ (Q6.whole b x)) {s e : Int} (hw : ji (Q6.whole b x) = 0) (hx : (words x).length ≤ 512) (hb : b.toNat ≤ x) (hs : s < 0 ∨ e < s ∨ 16384 < e) : Calls Tryz.prog 9 #[jx (Q6.whole b x) a1 ac1 a2 ac2 a3 ac3 a4 ac4, .int .i64 s, .int .i64 e] w (AnsN w (ky (Q6.whole b x) s e)) := by
 have V : St w w [] [(a4, [1]), (a3, []), (a2, [1]), (a1, words x)] [] := ((((St.start w).addR ha.s1.rd).addR ha.s2.rd).addR ha.s3.rd).addR ha.s4.rd
 refine qy (l := [(0, .agg #[.bool b, .slice a1 ((words x).length) ac1, .slice a2 1 ac2, .bool false, .slice a3 0 ac3, .slice a4 1 ac4]), (1, .int .i64 s), (2, .int .i64 e)]) Tryz.func9 rfl Tryz.ntmps9 rfl rfl ?_
 intro Q hret hnorm hP a A
 refine wsk fun K1 hK1 => wrl (qn A V rfl rfl rfl pg (qw rfl rfl) rfl ?_)
 intro g2 w3 V a A
 refine qn (vs := [.bool false, .slice none 0 0, .slice none 0 0, .bool false, .slice none 0 0, .slice none 0 0]) (t := 26) A V rfl rfl rfl pg (ql (z := .agg #[.bool false, .slice none 0 0, .slice none 0 0, .bool false, .slice none 0 0, .slice none 0 0]) (by kernel_rfl) rfl) rfl ?_
 intro g4 w5 V a A
 refine sda A λa A↦?_
 refine qa (hK1 _ _ (wsk fun K6 hK6 => wsk fun K7 hK7 => wrl (sdo A (qk V BiP_isS_26 rfl 1 rfl (cs := [.bool b, .slice a1 ((words x).length) ac1, .slice a2 1 ac2, .bool false, .slice a3 0 ac3, .slice a4 1 ac4]) rfl rfl) λa A↦?_)))
 refine qn (vs := [.bool b, .slice a1 ((words x).length) ac1, .slice a2 1 ac2, .bool false, .slice a3 0 ac3, .slice a4 1 ac4]) (t := 26) A V rfl rfl rfl (fun g => .slice (some ⟨g, 0, none⟩) 1 1) (zx rfl (by kernel_rfl)) rfl ?_
 intro g8 w9 V a A
 refine qg A rfl rfl rfl (qb  rfl rfl (fun w => by kernel_rfl)) (kf (show Nm _ (Q6.whole b x) a1 ac1 a2 ac2 a3 ac3 a4 ac4 from ⟨⟨(V.rd 3 rfl), ha.s1.nil, ha.s1.cap⟩, ⟨(V.rd 2 rfl), ha.s2.nil, ha.s2.cap⟩, ⟨(V.rd 1 rfl), ha.s3.nil, ha.s3.cap⟩, ⟨(V.rd 0 rfl), ha.s4.nil, ha.s4.cap⟩⟩) hl (V.blk 0 rfl) hw) ?_
 rintro _ w11 ⟨rfl, hb10⟩
 replace V := V.call hb10
 refine ⟨_, rfl, ?_⟩
 intro a A
 refine sda A λa A↦?_
 refine qa (hK7 _ _ (wsk fun K12 hK12 => wrl (sdm A λa A↦?_)))
 refine sdo (v := .bool false) A (qe rfl rfl (fun w => by kernel_rfl)) λa A↦?_
 refine qa (hK12 _ _ (wp_cond_false (A.ev rfl) ?_))
 refine wp_skip (hK6 _ _ (wsk fun K13 hK13 => wsk fun K14 hK14 => wrl (sdm A λa A↦?_)))
 rcases tf (decide (s < 0)) with hb15 | hb15
 ·
  have hb15' := of_decide_eq_true hb15
  refine sdo (v := .bool true) A (qe rfl rfl (fun w => (zt w).trans (by rw [hb15]))) λa A↦?_
  refine sdm A λa A↦?_
  iterate 3 refine ze A rfl rfl rfl λa A↦?_
  refine sdk (v := .bool true) A λa A↦?_
  refine sdm A λa A↦?_
  iterate 2 refine ze A rfl rfl rfl λa A↦?_
  refine sdk (v := .bool true) A λa A↦?_
  refine qa (hK14 _ _ (wp_cond_true (A.ev rfl) ?_))
  refine wsk fun K16 hK16 => wrl (sdo (v := .agg #[.bool false, .slice none 0 0, .slice none 0 0, .bool false, .slice none 0 0, .slice none 0 0]) A (za rfl (fun w => by kernel_rfl)) λa A↦?_)
  refine qr (us := [.bool false, .slice none 0 0, .slice none 0 0, .bool false, .slice none 0 0, .slice none 0 0]) A V rfl rfl (qi rfl rfl rfl (by kernel_rfl) V 1 rfl rfl rfl) 1 rfl rfl rfl rfl ?_
  intro w17 V
  refine sda A λa A↦?_
  refine qa (hK16 _ _ (wp_ret (hret _ _ (en2 A rfl (qx V BiP_isS_26 rfl 1 rfl (cs := [.bool false, .slice none 0 0, .slice none 0 0, .bool false, .slice none 0 0, .slice none 0 0]) rfl rfl) (qj rfl) ?_))))
  rw [qgb hw (by omega)]
  exact ⟨none, 0, none, 0, none, 0, none, 0, rfl, ⟨(Sc.none _), (Sc.none _), (Sc.none _), (Sc.none _)⟩, V.bel⟩
 ·
  have hb15' := of_decide_eq_false hb15
  refine sdo (v := .bool false) A (qe rfl rfl (fun w => (zt w).trans (by rw [hb15]))) λa A↦?_
  iterate 3 refine sdm A λa A↦?_
  rcases tf (decide (e < s)) with hb18 | hb18
  ·
   have hb18' := of_decide_eq_true hb18
   refine sdo (v := .bool true) A (qe rfl rfl (fun w => (zt w).trans (by rw [hb18]))) λa A↦?_
   refine sdk (v := .bool true) A λa A↦?_
   refine sdm A λa A↦?_
   iterate 2 refine ze A rfl rfl rfl λa A↦?_
   refine sdk (v := .bool true) A λa A↦?_
   refine qa (hK14 _ _ (wp_cond_true (A.ev rfl) ?_))
   refine wsk fun K19 hK19 => wrl (sdo (v := .agg #[.bool false, .slice none 0 0, .slice none 0 0, .bool false, .slice none 0 0, .slice none 0 0]) A (za rfl (fun w => by kernel_rfl)) λa A↦?_)
   refine qr (us := [.bool false, .slice none 0 0, .slice none 0 0, .bool false, .slice none 0 0, .slice none 0 0]) A V rfl rfl (qi rfl rfl rfl (by kernel_rfl) V 1 rfl rfl rfl) 1 rfl rfl rfl rfl ?_
   intro w20 V
   refine sda A λa A↦?_
   refine qa (hK19 _ _ (wp_ret (hret _ _ (en2 A rfl (qx V BiP_isS_26 rfl 1 rfl (cs := [.bool false, .slice none 0 0, .slice none 0 0, .bool false, .slice none 0 0, .slice none 0 0]) rfl rfl) (qj rfl) ?_))))
   rw [qgb hw (by omega)]
   exact ⟨none, 0, none, 0, none, 0, none, 0, rfl, ⟨(Sc.none _), (Sc.none _), (Sc.none _), (Sc.none _)⟩, V.bel⟩
  ·
   have hb18' := of_decide_eq_false hb18
   refine sdo (v := .bool false) A (qe rfl rfl (fun w => (zt w).trans (by rw [hb18]))) λa A↦?_
   refine sdk (v := .bool false) A λa A↦?_
   iterate 2 refine sdm A λa A↦?_
   refine sdo (v := .bool true) A (qe rfl rfl (fun w => (ju w).trans (by rw [show (decide (16384 < e)) = true from (decide_eq_true (by omega))]))) λa A↦?_
   refine sdk (v := .bool true) A λa A↦?_
   refine qa (hK14 _ _ (wp_cond_true (A.ev rfl) ?_))
   refine wsk fun K21 hK21 => wrl (sdo (v := .agg #[.bool false, .slice none 0 0, .slice none 0 0, .bool false, .slice none 0 0, .slice none 0 0]) A (za rfl (fun w => by kernel_rfl)) λa A↦?_)
   refine qr (us := [.bool false, .slice none 0 0, .slice none 0 0, .bool false, .slice none 0 0, .slice none 0 0]) A V rfl rfl (qi rfl rfl rfl (by kernel_rfl) V 1 rfl rfl rfl) 1 rfl rfl rfl rfl ?_
   intro w22 V
   refine sda A λa A↦?_
   refine qa (hK21 _ _ (wp_ret (hret _ _ (en2 A rfl (qx V BiP_isS_26 rfl 1 rfl (cs := [.bool false, .slice none 0 0, .slice none 0 0, .bool false, .slice none 0 0, .slice none 0 0]) rfl rfl) (qj rfl) ?_))))
   rw [qgb hw (by omega)]
   exact ⟨none, 0, none, 0, none, 0, none, 0, rfl, ⟨(Sc.none _), (Sc.none _), (Sc.none _), (Sc.none _)⟩, V.bel⟩
theorem qdj {w : World} {b : Bool} {x : Nat} {a1 a2 a3 a4 : Option Addr} {ac1 ac2 ac3 ac4 : Nat} (ha : Nm w (Q6.whole b x) a1 ac1 a2 ac2 a3 ac3 a4 ac4) (hl : LenQ (Q6.whole b x)) {S E : Nat} (h1 : S ≤ E) (h2 : E ≤ 16384) (hw : ji (Q6.whole b x) = 0) (hx : (words x).length ≤ 512) (hb : b.toNat ≤ x) : Calls Tryz.prog 9 #[jx (Q6.whole b x) a1 ac1 a2 ac2 a3 ac3 a4 ac4, .int .i64 ((S : Nat) : Int), .int .i64 ((E : Nat) : Int)] w (AnsN w (ky (Q6.whole b x) (S : Int) (E : Int))) := by
 have V : St w w [] [(a4, [1]), (a3, []), (a2, [1]), (a1, words x)] [] := ((((St.start w).addR ha.s1.rd).addR ha.s2.rd).addR ha.s3.rd).addR ha.s4.rd
 refine qy (l := [(0, .agg #[.bool b, .slice a1 ((words x).length) ac1, .slice a2 1 ac2, .bool false, .slice a3 0 ac3, .slice a4 1 ac4]), (1, .int .i64 (((S : Nat) : Int))), (2, .int .i64 (((E : Nat) : Int)))]) Tryz.func9 rfl Tryz.ntmps9 rfl rfl ?_
 intro Q hret hnorm hP a A
 refine wsk fun K1 hK1 => wrl (qn A V rfl rfl rfl pg (qw rfl rfl) rfl ?_)
 intro g2 w3 V a A
 refine qn (vs := [.bool false, .slice none 0 0, .slice none 0 0, .bool false, .slice none 0 0, .slice none 0 0]) (t := 26) A V rfl rfl rfl pg (ql (z := .agg #[.bool false, .slice none 0 0, .slice none 0 0, .bool false, .slice none 0 0, .slice none 0 0]) (by kernel_rfl) rfl) rfl ?_
 intro g4 w5 V a A
 refine sda A λa A↦?_
 refine qa (hK1 _ _ (wsk fun K6 hK6 => wsk fun K7 hK7 => wrl (sdo A (qk V BiP_isS_26 rfl 1 rfl (cs := [.bool b, .slice a1 ((words x).length) ac1, .slice a2 1 ac2, .bool false, .slice a3 0 ac3, .slice a4 1 ac4]) rfl rfl) λa A↦?_)))
 refine qn (vs := [.bool b, .slice a1 ((words x).length) ac1, .slice a2 1 ac2, .bool false, .slice a3 0 ac3, .slice a4 1 ac4]) (t := 26) A V rfl rfl rfl (fun g => .slice (some ⟨g, 0, none⟩) 1 1) (zx rfl (by kernel_rfl)) rfl ?_
 intro g8 w9 V a A
 refine qg A rfl rfl rfl (qb  rfl rfl (fun w => by kernel_rfl)) (kf (show Nm _ (Q6.whole b x) a1 ac1 a2 ac2 a3 ac3 a4 ac4 from ⟨⟨(V.rd 3 rfl), ha.s1.nil, ha.s1.cap⟩, ⟨(V.rd 2 rfl), ha.s2.nil, ha.s2.cap⟩, ⟨(V.rd 1 rfl), ha.s3.nil, ha.s3.cap⟩, ⟨(V.rd 0 rfl), ha.s4.nil, ha.s4.cap⟩⟩) hl (V.blk 0 rfl) hw) ?_
 rintro _ w11 ⟨rfl, hb10⟩
 replace V := V.call hb10
 refine ⟨_, rfl, ?_⟩
 intro a A
 refine sda A λa A↦?_
 refine qa (hK7 _ _ (wsk fun K12 hK12 => wrl (sdm A λa A↦?_)))
 refine sdo (v := .bool false) A (qe rfl rfl (fun w => by kernel_rfl)) λa A↦?_
 refine qa (hK12 _ _ (wp_cond_false (A.ev rfl) ?_))
 refine wp_skip (hK6 _ _ (wsk fun K13 hK13 => wsk fun K14 hK14 => wrl (sdm A λa A↦?_)))
 refine sdo (v := .bool false) A (qe rfl rfl (fun w => (zt w).trans (by rw [show (decide (((S : Nat) : Int) < 0)) = false from (decide_eq_false (by omega))]))) λa A↦?_
 iterate 3 refine sdm A λa A↦?_
 refine sdo (v := .bool false) A (qe rfl rfl (fun w => (zt w).trans (by rw [show (decide (((E : Nat) : Int) < ((S : Nat) : Int))) = false from (decide_eq_false (by omega))]))) λa A↦?_
 refine sdk (v := .bool false) A λa A↦?_
 iterate 2 refine sdm A λa A↦?_
 refine sdo (v := .bool false) A (qe rfl rfl (fun w => (ju w).trans (by rw [show (decide (16384 < ((E : Nat) : Int))) = false from (decide_eq_false (by omega))]))) λa A↦?_
 refine sdk (v := .bool false) A λa A↦?_
 refine qa (hK14 _ _ (wp_cond_false (A.ev rfl) ?_))
 refine wp_skip (hK13 _ _ (wsk fun K15 hK15 => wrl (sdo A (qk V BiP_isS_26 rfl 2 rfl (cs := [.bool b, .slice a1 ((words x).length) ac1, .slice a2 1 ac2, .bool false, .slice a3 0 ac3, .slice a4 1 ac4]) rfl rfl) λa A↦?_)))
 refine qg A rfl rfl rfl (qb  rfl rfl (fun w => by kernel_rfl)) (ym (show Nm _ (Q6.whole b x) a1 ac1 a2 ac2 a3 ac3 a4 ac4 from ⟨⟨(V.rd 3 rfl), ha.s1.nil, ha.s1.cap⟩, ⟨(V.rd 2 rfl), ha.s2.nil, ha.s2.cap⟩, ⟨(V.rd 1 rfl), ha.s3.nil, ha.s3.cap⟩, ⟨(V.rd 0 rfl), ha.s4.nil, ha.s4.cap⟩⟩) hx hb) ?_
 rintro _ w20 ⟨ro16, rc17, rfl, hs18, hb19⟩
 replace V := V.call hb19
 replace V := V.addR hs18.rd
 refine ⟨_, rfl, ?_⟩
 intro a A
 refine sdm A λa A↦?_
 refine qg A rfl rfl rfl (qb  rfl rfl (fun w => by kernel_rfl)) ((show Calls Tryz.prog 31 #[.agg #[.bool b, .slice ro16 (words (x - b.toNat)).length rc17], .int .i64 ((S : Nat) : Int)] _ _ from qxa (n := ((S : Nat) : Int)) ⟨(V.rd 0 rfl), hs18.nil, hs18.cap⟩ (qad hx) (by omega) (by omega))) ?_
 rintro _ w25 ⟨ro21, rc22, rfl, hs23, hb24⟩
 replace V := V.call hb24
 replace V := V.addR hs23.rd
 refine ⟨_, rfl, ?_⟩
 intro a A
 iterate 2 refine sdm A λa A↦?_
 refine sdo (v := .int .i64 (((E - S : Nat) : Int))) A (qe rfl rfl (fun w => (qle (uk (by omega) (by omega)) w).trans (by rw [show (((E : Nat) : Int) - ((S : Nat) : Int) : Int) = ((E - S : Nat) : Int) from by omega]))) λa A↦?_
 refine qg A rfl rfl rfl (qb  rfl rfl (fun w => by kernel_rfl)) (qpj (c := E - S) (V.rd 0 rfl) (Nat.le_trans (va (qad hx)) (by decide)) (by omega)) ?_
 rintro _ w30 ⟨ro26, rc27, rfl, ho28, hb29⟩
 replace V := V.call hb29
 replace V := V.addR ho28.rd
 refine ⟨_, rfl, ?_⟩
 intro a A
 refine qg A rfl rfl rfl (qb  rfl rfl (fun w => by kernel_rfl)) (qfj false ⟨(V.rd 0 rfl), ho28.nocap, ho28.caps⟩) ?_
 rintro _ w34 ⟨p31_1, p31_c1, p31_2, p31_c2, p31_3, p31_c3, p31_4, p31_c4, rfl, hn32, hb33⟩
 replace V := V.call hb33
 replace V := V.addR hn32.s1.rd
 replace V := V.addR hn32.s2.rd
 replace V := V.addR hn32.s3.rd
 replace V := V.addR hn32.s4.rd
 refine ⟨_, rfl, ?_⟩
 intro a A
 refine qr (us := [.bool false, .slice p31_1 ((words (fld b ((x - b.toNat) / 2 ^ S) 0 (E - S))).length) p31_c1, .slice p31_2 1 p31_c2, .bool false, .slice p31_3 0 p31_c3, .slice p31_4 1 p31_c4]) A V rfl rfl (qi rfl rfl rfl (by kernel_rfl) V 1 rfl rfl rfl) 1 rfl rfl rfl rfl ?_
 intro w35 V
 refine sda A λa A↦?_
 refine qa (hK15 _ _ (wp_ret (hret _ _ (en2 A rfl (qx V BiP_isS_26 rfl 1 rfl (cs := [.bool false, .slice p31_1 ((words (fld b ((x - b.toNat) / 2 ^ S) 0 (E - S))).length) p31_c1, .slice p31_2 1 p31_c2, .bool false, .slice p31_3 0 p31_c3, .slice p31_4 1 p31_c4]) rfl rfl) (qj rfl) ?_))))
 rw [qed hw h1 h2, ← qxi]
 exact ⟨p31_1, p31_c1, p31_2, p31_c2, p31_3, p31_c3, p31_4, p31_c4, rfl, ⟨⟨(V.rd 3 rfl), hn32.s1.nil, hn32.s1.cap⟩, ⟨(V.rd 2 rfl), hn32.s2.nil, hn32.s2.cap⟩, ⟨(V.rd 1 rfl), hn32.s3.nil, hn32.s3.cap⟩, ⟨(V.rd 0 rfl), hn32.s4.nil, hn32.s4.cap⟩⟩, V.bel⟩
theorem RxI_is1_22 : Is1 Tryz.prog 22 := ⟨⟨_, Tryz.underlying22, rfl⟩, by kernel_rfl⟩
theorem RxI_is1_4 : Is1 Tryz.prog 4 := ⟨⟨_, Tryz.underlying4, rfl⟩, by kernel_rfl⟩
theorem RxI_fld_24_0 : FieldAt Tryz.prog 24 0 0 := ⟨_, _, Tryz.underlying24, rfl, rfl, by kernel_rfl⟩
theorem RxI_fld_24_1 : FieldAt Tryz.prog 24 1 1 := ⟨_, _, Tryz.underlying24, rfl, rfl, by kernel_rfl⟩
theorem RxI_fld_24_2 : FieldAt Tryz.prog 24 2 2 := ⟨_, _, Tryz.underlying24, rfl, rfl, by kernel_rfl⟩
theorem RxI_fld_26_0 : FieldAt Tryz.prog 26 0 0 := ⟨_, _, Tryz.underlying26, rfl, rfl, by kernel_rfl⟩
theorem RxI_fld_26_1 : FieldAt Tryz.prog 26 1 3 := ⟨_, _, Tryz.underlying26, rfl, rfl, by kernel_rfl⟩
theorem RxI_isS_24 : IsS Tryz.prog 24 3 := ⟨⟨_, Tryz.underlying24⟩, by kernel_rfl⟩
theorem RxI_isS_26 : IsS Tryz.prog 26 6 := ⟨⟨_, Tryz.underlying26⟩, by kernel_rfl⟩
def sgL (b : Bool) : List UInt8 := if b then [45] else [43]
def unL (r : Nat) (t q : List Nat) : List UInt8 := if t = [1] ∧ q = [1] then [] else szL r t q
theorem zuj (r : Nat) (b : Bool) (t q : List Nat) : imL r b t q = sgL b ++ unL r t q := rfl
theorem jae (b : Bool) : (sgL b).length = 1 := by cases b <;> rfl
theorem unL_len {r : Nat} (hr : RadN r) {t q : List Nat} (ht : Dig t) (hq : Dig q) : (unL r t q).length ≤ 40000 := by
 unfold unL
 split
 ·
  simp
 ·
  exact qpb hr ht hq
theorem qtb {r : Nat} (hr : RadN r) {b : Bool} {t q : List Nat} (ht : Dig t) (hq : Dig q) : (xl r b t q).length ≤ 40001 := by
 have h := qpb hr ht hq
 unfold xl
 rw [List.length_append]
 cases b <;> simp <;> omega
theorem qtc {w : World} {ao : Option Addr} {a : List Nat} {r : Nat} (ca : Nat) (ha : Rd w ao a) (la : a.length ≤ 9223372036854775807) (hr : RadN r) : Calls Tryz.prog 131 #[.slice ao a.length ca, .int .i64 ((r : Nat) : Int)] w fun e w' => e = .returned (.tuple #[.string (bsL (tD a r)), .int .i64 (textS a (r : Int)).2]) ∧ Below w.heap.size w w' := by
 rw [zhi]
 exact text_any ca _ ha la (by omega) (by rcases hr with h | h | h | h <;> subst h <;> decide)
theorem qfd {w : World} {b : Bool} {t q : List Nat} {r : Nat} {a1 a2 : Option Addr} {ac1 ac2 : Nat} (ha1 : Sc w a1 ac1 t) (ha2 : Sc w a2 ac2 q) (hr : RadN r) (l1 : t.length ≤ 9223372036854775807) (l2 : q.length ≤ 9223372036854775807) : Calls Tryz.prog 90 #[.agg #[.bool b, .slice a1 t.length ac1, .slice a2 q.length ac2], .int .i64 (((r : Nat) : Int))] w fun e w' => e = .returned (.string (bsL (szL r t q))) ∧ Below w.heap.size w w' := by
 have d1 := qde hr ha1.rd.dig
 have d2 := qde hr ha2.rd.dig
 have d3 := qpb hr ha1.rd.dig ha2.rd.dig
 have V : St w w [] [(a2, q), (a1, t)] [] := ((St.start w).addR ha1.rd).addR ha2.rd
 refine qy (l := [(0, .agg #[.bool b, .slice a1 t.length ac1, .slice a2 q.length ac2]), (1, .int .i64 (((r : Nat) : Int)))]) Tryz.func90 rfl Tryz.ntmps90 rfl rfl ?_
 intro Q hret hnorm hP a A
 refine wsk fun K1 hK1 => wrl (qn A V rfl rfl rfl pg (qw rfl rfl) rfl ?_)
 intro g2 w3 V a A
 refine sda A λa A↦?_
 refine qa (hK1 _ _ (wsk fun K4 hK4 => wrl (sdo (v := .pointer (some ⟨g2, 1, none⟩)) A (qf RxI_fld_24_1 rfl rfl) λa A↦?_)))
 refine sdo A (qs V RxI_is1_22 rfl 0 rfl rfl) λa A↦?_
 refine sdm A λa A↦?_
 refine qg A rfl rfl rfl (qb  rfl rfl (fun w => by kernel_rfl)) (qtc ac1 (V.rd 1 rfl) l1 hr) ?_
 rintro _ w6 ⟨rfl, hb5⟩
 replace V := V.call hb5
 refine ⟨_, rfl, ?_⟩
 intro a A
 refine sdm A λa A↦?_
 iterate 2 refine sdo A (qm (vs := [.string (bsL (tD t r)), .int .i64 ((textS t (r : Int)).2)]) rfl rfl) λa A↦?_
 iterate 2 refine sda A λa A↦?_
 refine qa (hK4 _ _ (wsk fun K7 hK7 => wsk fun K8 hK8 => wrl (sdo (v := .pointer (some ⟨g2, 2, none⟩)) A (qf RxI_fld_24_2 rfl rfl) λa A↦?_)))
 refine sdo A (qs V RxI_is1_22 rfl 0 rfl rfl) λa A↦?_
 rcases tf (decide (q = [1])) with hb9 | hb9
 ·
  have hb9' := of_decide_eq_true hb9
  refine qg A rfl rfl rfl (qb  rfl rfl (fun w => by kernel_rfl)) (vm _ (V.rd 0 rfl) l2 hb9) ?_
  rintro _ w11 ⟨rfl, hb10⟩
  replace hb10 := xp hb10
  replace V := V.call hb10
  refine ⟨_, rfl, ?_⟩
  intro a A
  refine qa (hK8 _ _ (wp_cond_true (A.ev rfl) ?_))
  refine wsk fun K12 hK12 => wrl (mv A rfl rfl rfl λa A↦?_)
  refine sda A λa A↦?_
  refine qa (hK12 _ _ (wp_ret (hret _ _ (en1 A rfl (qj rfl) ?_))))
  exact ⟨by rw [show szL r t q = tD t r from by unfold szL; rw [if_pos hb9']; simp] <;> rfl, V.bel⟩
 ·
  have hb9' := of_decide_eq_false hb9
  refine qg A rfl rfl rfl (qb  rfl rfl (fun w => by kernel_rfl)) (vm _ (V.rd 0 rfl) l2 hb9) ?_
  rintro _ w14 ⟨rfl, hb13⟩
  replace hb13 := xp hb13
  replace V := V.call hb13
  refine ⟨_, rfl, ?_⟩
  intro a A
  refine qa (hK8 _ _ (wp_cond_false (A.ev rfl) ?_))
  refine wp_skip (hK7 _ _ (wsk fun K15 hK15 => wrl (sdo (v := .pointer (some ⟨g2, 2, none⟩)) A (qf RxI_fld_24_2 rfl rfl) λa A↦?_)))
  refine sdo A (qs V RxI_is1_22 rfl 0 rfl rfl) λa A↦?_
  refine sdm A λa A↦?_
  refine qg A rfl rfl rfl (qb  rfl rfl (fun w => by kernel_rfl)) (qtc ac2 (V.rd 0 rfl) l2 hr) ?_
  rintro _ w17 ⟨rfl, hb16⟩
  replace V := V.call hb16
  refine ⟨_, rfl, ?_⟩
  intro a A
  refine sdm A λa A↦?_
  iterate 2 refine sdo A (qm (vs := [.string (bsL (tD q r)), .int .i64 ((textS q (r : Int)).2)]) rfl rfl) λa A↦?_
  iterate 2 refine sda A λa A↦?_
  refine qa (hK15 _ _ (wsk fun K18 hK18 => wrl (mv A rfl rfl rfl λa A↦?_)))
  refine sdo (v := .string (bsL (tD t r ++ ([47])))) A (qe rfl rfl (un (a := tD t r) (b := [47]) (by first | omega | (simp only [List.length_append, List.length_cons, List.length_nil]; omega)))) λa A↦?_
  refine sdm A λa A↦?_
  refine sdo (v := .string (bsL (tD t r ++ ([47]) ++ (tD q r)))) A (qe rfl rfl (un (a := tD t r ++ ([47])) (b := tD q r) (by first | omega | (simp only [List.length_append, List.length_cons, List.length_nil]; omega)))) λa A↦?_
  refine sda A λa A↦?_
  refine qa (hK18 _ _ (wp_ret (hret _ _ (en1 A rfl (qj rfl) ?_))))
  exact ⟨by rw [show szL r t q = tD t r ++ ([47]) ++ (tD q r) from by unfold szL; rw [if_neg hb9']; simp] <;> rfl, V.bel⟩
theorem qtd {w : World} {b : Bool} {t q : List Nat} {r : Nat} {a1 a2 : Option Addr} {ac1 ac2 : Nat} (ha1 : Sc w a1 ac1 t) (ha2 : Sc w a2 ac2 q) (hr : RadN r) (l1 : t.length ≤ 9223372036854775807) (l2 : q.length ≤ 9223372036854775807) : Calls Tryz.prog 42 #[.agg #[.bool b, .slice a1 t.length ac1, .slice a2 q.length ac2], .int .i64 (((r : Nat) : Int))] w fun e w' => e = .returned (.string (bsL (xl r b t q))) ∧ Below w.heap.size w w' := by
 have d1 := qde hr ha1.rd.dig
 have d2 := qde hr ha2.rd.dig
 have d3 := qpb hr ha1.rd.dig ha2.rd.dig
 have V : St w w [] [(a2, q), (a1, t)] [] := ((St.start w).addR ha1.rd).addR ha2.rd
 refine qy (l := [(0, .agg #[.bool b, .slice a1 t.length ac1, .slice a2 q.length ac2]), (1, .int .i64 (((r : Nat) : Int)))]) Tryz.func42 rfl Tryz.ntmps42 rfl rfl ?_
 intro Q hret hnorm hP a A
 refine wsk fun K1 hK1 => wrl (qn A V rfl rfl rfl pg (qw rfl rfl) rfl ?_)
 intro g2 w3 V a A
 refine sda A λa A↦?_
 refine qa (hK1 _ _ (wsk fun K4 hK4 => wsk fun K5 hK5 => wrl (sdo (v := .pointer (some ⟨g2, 0, none⟩)) A (qf RxI_fld_24_0 rfl rfl) λa A↦?_)))
 refine sdo A (qs V RxI_is1_4 rfl 0 rfl rfl) λa A↦?_
 refine qa (hK5 _ _ ?_)
 refine wp_cond_split (t := b) (A.ev rfl) (fun hc6 => ?_) (fun hc6 => ?_)
 ·
  refine wsk fun K7 hK7 => wrl (sdo A (qk V RxI_isS_24 rfl 0 rfl (cs := [.bool b, .slice a1 t.length ac1, .slice a2 q.length ac2]) rfl rfl) λa A↦?_)
  refine sdm A λa A↦?_
  refine qg A rfl rfl rfl (qb  rfl rfl (fun w => by kernel_rfl)) (qfd ⟨(V.rd 1 rfl), ha1.nil, ha1.cap⟩ ⟨(V.rd 0 rfl), ha2.nil, ha2.cap⟩ hr l1 l2) ?_
  rintro _ w9 ⟨rfl, hb8⟩
  replace V := V.call hb8
  refine ⟨_, rfl, ?_⟩
  intro a A
  refine sdo (v := .string (bsL ([45] ++ (szL r t q)))) A (qe rfl rfl (un (a := [45]) (b := szL r t q) (by first | omega | (simp only [List.length_append, List.length_cons, List.length_nil]; omega)))) λa A↦?_
  refine sda A λa A↦?_
  refine qa (hK7 _ _ (wp_ret (hret _ _ (en1 A rfl (qj rfl) ?_))))
  exact ⟨by rw [show xl r b t q = [45] ++ (szL r t q) from by unfold xl; rw [hc6]; rfl] <;> rfl, V.bel⟩
 ·
  refine wp_skip (hK4 _ _ (wsk fun K10 hK10 => wrl (sdo A (qk V RxI_isS_24 rfl 0 rfl (cs := [.bool b, .slice a1 t.length ac1, .slice a2 q.length ac2]) rfl rfl) λa A↦?_)))
  refine sdm A λa A↦?_
  refine qg A rfl rfl rfl (qb  rfl rfl (fun w => by kernel_rfl)) (qfd ⟨(V.rd 1 rfl), ha1.nil, ha1.cap⟩ ⟨(V.rd 0 rfl), ha2.nil, ha2.cap⟩ hr l1 l2) ?_
  rintro _ w12 ⟨rfl, hb11⟩
  replace V := V.call hb11
  refine ⟨_, rfl, ?_⟩
  intro a A
  refine sda A λa A↦?_
  refine qa (hK10 _ _ (wp_ret (hret _ _ (en1 A rfl (qj rfl) ?_))))
  exact ⟨by rw [show xl r b t q = szL r t q from by unfold xl; rw [hc6]; rfl] <;> rfl, V.bel⟩
theorem zga {w : World} {b : Bool} {t q : List Nat} {r : Nat} {a1 a2 : Option Addr} {ac1 ac2 : Nat} (ha1 : Sc w a1 ac1 t) (ha2 : Sc w a2 ac2 q) (hr : RadN r) (l1 : t.length ≤ 9223372036854775807) (l2 : q.length ≤ 9223372036854775807) : Calls Tryz.prog 43 #[.agg #[.bool b, .slice a1 t.length ac1, .slice a2 q.length ac2]] w fun e w' => e = .returned (.string (bsL (sgL b))) ∧ Below w.heap.size w w' := by
 have V : St w w [] [(a2, q), (a1, t)] [] := ((St.start w).addR ha1.rd).addR ha2.rd
 refine qy (l := [(0, .agg #[.bool b, .slice a1 t.length ac1, .slice a2 q.length ac2])]) Tryz.func43 rfl Tryz.ntmps43 rfl rfl ?_
 intro Q hret hnorm hP a A
 refine wsk fun K1 hK1 => wrl (qn A V rfl rfl rfl pg (qw rfl rfl) rfl ?_)
 intro g2 w3 V a A
 refine sda A λa A↦?_
 refine qa (hK1 _ _ (wsk fun K4 hK4 => wsk fun K5 hK5 => wrl (sdo (v := .pointer (some ⟨g2, 0, none⟩)) A (qf RxI_fld_24_0 rfl rfl) λa A↦?_)))
 refine sdo A (qs V RxI_is1_4 rfl 0 rfl rfl) λa A↦?_
 refine qa (hK5 _ _ ?_)
 refine wp_cond_split (t := b) (A.ev rfl) (fun hc6 => ?_) (fun hc6 => ?_)
 ·
  refine wsk fun K7 hK7 => wrl (sda A λa A↦?_)
  refine qa (hK7 _ _ (wp_ret (hret _ _ (en1 A rfl (qj rfl) ?_))))
  exact ⟨by rw [show sgL b = [45] from by unfold sgL; rw [hc6]; rfl] <;> rfl, V.bel⟩
 ·
  refine wp_skip (hK4 _ _ (wsk fun K8 hK8 => wrl (sda A λa A↦?_)))
  refine qa (hK8 _ _ (wp_ret (hret _ _ (en1 A rfl (qj rfl) ?_))))
  exact ⟨by rw [show sgL b = [43] from by unfold sgL; rw [hc6]; rfl] <;> rfl, V.bel⟩
theorem zgb {w : World} {b : Bool} {t q : List Nat} {r : Nat} {a1 a2 : Option Addr} {ac1 ac2 : Nat} (ha1 : Sc w a1 ac1 t) (ha2 : Sc w a2 ac2 q) (hr : RadN r) (l1 : t.length ≤ 9223372036854775807) (l2 : q.length ≤ 9223372036854775807) : Calls Tryz.prog 44 #[.agg #[.bool b, .slice a1 t.length ac1, .slice a2 q.length ac2], .int .i64 (((r : Nat) : Int))] w fun e w' => e = .returned (.string (bsL (unL r t q))) ∧ Below w.heap.size w w' := by
 have d1 := qde hr ha1.rd.dig
 have d2 := qde hr ha2.rd.dig
 have d3 := qpb hr ha1.rd.dig ha2.rd.dig
 have V : St w w [] [(a2, q), (a1, t)] [] := ((St.start w).addR ha1.rd).addR ha2.rd
 refine qy (l := [(0, .agg #[.bool b, .slice a1 t.length ac1, .slice a2 q.length ac2]), (1, .int .i64 (((r : Nat) : Int)))]) Tryz.func44 rfl Tryz.ntmps44 rfl rfl ?_
 intro Q hret hnorm hP a A
 refine wsk fun K1 hK1 => wrl (qn A V rfl rfl rfl pg (qw rfl rfl) rfl ?_)
 intro g2 w3 V a A
 refine sda A λa A↦?_
 refine qa (hK1 _ _ (wsk fun K4 hK4 => wsk fun K5 hK5 => wrl (sdo (v := .pointer (some ⟨g2, 1, none⟩)) A (qf RxI_fld_24_1 rfl rfl) λa A↦?_)))
 refine sdo A (qs V RxI_is1_22 rfl 0 rfl rfl) λa A↦?_
 rcases tf (decide (t = [1])) with hb6 | hb6
 ·
  have hb6' := of_decide_eq_true hb6
  refine qg A rfl rfl rfl (qb  rfl rfl (fun w => by kernel_rfl)) (vm _ (V.rd 1 rfl) l1 hb6) ?_
  rintro _ w8 ⟨rfl, hb7⟩
  replace hb7 := xp hb7
  replace V := V.call hb7
  refine ⟨_, rfl, ?_⟩
  intro a A
  refine sdm A λa A↦?_
  refine sdo (v := .pointer (some ⟨g2, 2, none⟩)) A (qf RxI_fld_24_2 rfl rfl) λa A↦?_
  refine sdo A (qs V RxI_is1_22 rfl 0 rfl rfl) λa A↦?_
  rcases tf (decide (q = [1])) with hb9 | hb9
  ·
   have hb9' := of_decide_eq_true hb9
   refine qg A rfl rfl rfl (qb  rfl rfl (fun w => by kernel_rfl)) (vm _ (V.rd 0 rfl) l2 hb9) ?_
   rintro _ w11 ⟨rfl, hb10⟩
   replace hb10 := xp hb10
   replace V := V.call hb10
   refine ⟨_, rfl, ?_⟩
   intro a A
   refine sdk (v := .bool true) A λa A↦?_
   refine qa (hK5 _ _ (wp_cond_true (A.ev rfl) ?_))
   refine wsk fun K12 hK12 => wrl (sda A λa A↦?_)
   refine qa (hK12 _ _ (wp_ret (hret _ _ (en1 A rfl (qj rfl) ?_))))
   exact ⟨by rw [show unL r t q = [] from by unfold unL; simp [hb6', hb9']] <;> rfl, V.bel⟩
  ·
   have hb9' := of_decide_eq_false hb9
   refine qg A rfl rfl rfl (qb  rfl rfl (fun w => by kernel_rfl)) (vm _ (V.rd 0 rfl) l2 hb9) ?_
   rintro _ w14 ⟨rfl, hb13⟩
   replace hb13 := xp hb13
   replace V := V.call hb13
   refine ⟨_, rfl, ?_⟩
   intro a A
   refine sdk (v := .bool false) A λa A↦?_
   refine qa (hK5 _ _ (wp_cond_false (A.ev rfl) ?_))
   refine wp_skip (hK4 _ _ (wsk fun K15 hK15 => wrl (sdo A (qk V RxI_isS_24 rfl 0 rfl (cs := [.bool b, .slice a1 t.length ac1, .slice a2 q.length ac2]) rfl rfl) λa A↦?_)))
   refine sdm A λa A↦?_
   refine qg A rfl rfl rfl (qb  rfl rfl (fun w => by kernel_rfl)) (qfd ⟨(V.rd 1 rfl), ha1.nil, ha1.cap⟩ ⟨(V.rd 0 rfl), ha2.nil, ha2.cap⟩ hr l1 l2) ?_
   rintro _ w17 ⟨rfl, hb16⟩
   replace V := V.call hb16
   refine ⟨_, rfl, ?_⟩
   intro a A
   refine sda A λa A↦?_
   refine qa (hK15 _ _ (wp_ret (hret _ _ (en1 A rfl (qj rfl) ?_))))
   exact ⟨by rw [show unL r t q = szL r t q from by unfold unL; simp [hb6', hb9']] <;> rfl, V.bel⟩
 ·
  have hb6' := of_decide_eq_false hb6
  refine qg A rfl rfl rfl (qb  rfl rfl (fun w => by kernel_rfl)) (vm _ (V.rd 1 rfl) l1 hb6) ?_
  rintro _ w19 ⟨rfl, hb18⟩
  replace hb18 := xp hb18
  replace V := V.call hb18
  refine ⟨_, rfl, ?_⟩
  intro a A
  refine sdm A λa A↦?_
  iterate 3 refine ze A rfl rfl rfl λa A↦?_
  refine sdk (v := .bool false) A λa A↦?_
  refine qa (hK5 _ _ (wp_cond_false (A.ev rfl) ?_))
  refine wp_skip (hK4 _ _ (wsk fun K20 hK20 => wrl (sdo A (qk V RxI_isS_24 rfl 0 rfl (cs := [.bool b, .slice a1 t.length ac1, .slice a2 q.length ac2]) rfl rfl) λa A↦?_)))
  refine sdm A λa A↦?_
  refine qg A rfl rfl rfl (qb  rfl rfl (fun w => by kernel_rfl)) (qfd ⟨(V.rd 1 rfl), ha1.nil, ha1.cap⟩ ⟨(V.rd 0 rfl), ha2.nil, ha2.cap⟩ hr l1 l2) ?_
  rintro _ w22 ⟨rfl, hb21⟩
  replace V := V.call hb21
  refine ⟨_, rfl, ?_⟩
  intro a A
  refine sda A λa A↦?_
  refine qa (hK20 _ _ (wp_ret (hret _ _ (en1 A rfl (qj rfl) ?_))))
  exact ⟨by rw [show unL r t q = szL r t q from by unfold unL; simp [hb6']] <;> rfl, V.bel⟩
theorem qte {w : World} {q : Q6} {a1 a2 a3 a4 : Option Addr} {ac1 ac2 ac3 ac4 : Nat} (ha : Nm w q a1 ac1 a2 ac2 a3 ac3 a4 ac4) (hl : LenQ q) {r : Nat} (hr : RadN r) (hs : je q = true) : Calls Tryz.prog 13 #[jx q a1 ac1 a2 ac2 a3 ac3 a4 ac4, .int .i64 (((r : Nat) : Int))] w fun e w' => e = .returned (.tuple #[.string (bsL (vj r q)), .int .i64 0]) ∧ Below w.heap.size w w' := by
 have d1 := qtb hr (b := q.b1) ha.s1.rd.dig ha.s2.rd.dig
 have d2 := qtb hr (b := q.b2) ha.s3.rd.dig ha.s4.rd.dig
 have d3 := jae q.b2
 have d4 := unL_len hr ha.s3.rd.dig ha.s4.rd.dig
 have V : St w w [] [(a4, q.q2), (a3, q.t2), (a2, q.q1), (a1, q.t1)] [] := ((((St.start w).addR ha.s1.rd).addR ha.s2.rd).addR ha.s3.rd).addR ha.s4.rd
 refine qy (l := [(0, .agg #[.bool q.b1, .slice a1 q.t1.length ac1, .slice a2 q.q1.length ac2, .bool q.b2, .slice a3 q.t2.length ac3, .slice a4 q.q2.length ac4]), (1, .int .i64 (((r : Nat) : Int)))]) Tryz.func13 rfl Tryz.ntmps13 rfl rfl ?_
 intro Q hret hnorm hP a A
 refine wsk fun K1 hK1 => wrl (qn A V rfl rfl rfl pg (qw rfl rfl) rfl ?_)
 intro g2 w3 V a A
 iterate 2 refine sda A λa A↦?_
 refine qa (hK1 _ _ (wsk fun K4 hK4 => wsk fun K5 hK5 => wrl (sdo A (qk V RxI_isS_26 rfl 0 rfl (cs := [.bool q.b1, .slice a1 q.t1.length ac1, .slice a2 q.q1.length ac2, .bool q.b2, .slice a3 q.t2.length ac3, .slice a4 q.q2.length ac4]) rfl rfl) λa A↦?_)))
 refine qg A rfl rfl rfl (qb  rfl rfl (fun w => by kernel_rfl)) (jf (show Nm _ _ a1 ac1 a2 ac2 a3 ac3 a4 ac4 from ⟨⟨(V.rd 3 rfl), ha.s1.nil, ha.s1.cap⟩, ⟨(V.rd 2 rfl), ha.s2.nil, ha.s2.cap⟩, ⟨(V.rd 1 rfl), ha.s3.nil, ha.s3.cap⟩, ⟨(V.rd 0 rfl), ha.s4.nil, ha.s4.cap⟩⟩) hl hs) ?_
 rintro _ w7 ⟨rfl, hb6⟩
 replace V := V.call hb6
 refine ⟨_, rfl, ?_⟩
 intro a A
 refine sdo (v := .bool false) A (zk rfl zv) λa A↦?_
 refine qa (hK5 _ _ (wp_cond_false (A.ev rfl) ?_))
 refine wp_skip (hK4 _ _ (wsk fun K8 hK8 => wsk fun K9 hK9 => wrl (mv A rfl rfl rfl λa A↦?_)))
 refine qg A rfl rfl rfl (qb  rfl rfl (fun w => by kernel_rfl)) (qah (qoc hr)) ?_
 rintro _ w11 ⟨rfl, hb10⟩
 replace V := V.call hb10
 refine ⟨_, rfl, ?_⟩
 intro a A
 refine sdo (v := .bool false) A (zk rfl zv) λa A↦?_
 refine qa (hK9 _ _ (wp_cond_false (A.ev rfl) ?_))
 refine wp_skip (hK8 _ _ (wsk fun K12 hK12 => wsk fun K13 hK13 => wrl (sdo A (qk V RxI_isS_26 rfl 0 rfl (cs := [.bool q.b1, .slice a1 q.t1.length ac1, .slice a2 q.q1.length ac2, .bool q.b2, .slice a3 q.t2.length ac3, .slice a4 q.q2.length ac4]) rfl rfl) λa A↦?_)))
 rcases tf (decide (q.t2.length = 0)) with hb14 | hb14
 ·
  have hb14' := of_decide_eq_true hb14
  refine qg A rfl rfl rfl (qb  rfl rfl (fun w => by kernel_rfl)) (yy hl hb14) ?_
  rintro _ w16 ⟨rfl, hb15⟩
  replace V := V.call hb15
  refine ⟨_, rfl, ?_⟩
  intro a A
  refine qa (hK13 _ _ (wp_cond_true (A.ev rfl) ?_))
  refine wsk fun K17 hK17 => wrl (sdo (v := .pointer (some ⟨g2, 0, none⟩)) A (qf RxI_fld_26_0 rfl rfl) λa A↦?_)
  refine sdo A (qk V RxI_isS_24 rfl 0 rfl (cs := [.bool q.b1, .slice a1 q.t1.length ac1, .slice a2 q.q1.length ac2]) rfl rfl) λa A↦?_
  refine sdm A λa A↦?_
  refine qg A rfl rfl rfl (qb  rfl rfl (fun w => by kernel_rfl)) (qtd (b := q.b1) (t := q.t1) (q := q.q1) (r := r) ⟨(V.rd 3 rfl), ha.s1.nil, ha.s1.cap⟩ ⟨(V.rd 2 rfl), ha.s2.nil, ha.s2.cap⟩ hr hl.l1 hl.l2) ?_
  rintro _ w19 ⟨rfl, hb18⟩
  replace V := V.call hb18
  refine ⟨_, rfl, ?_⟩
  intro a A
  iterate 2 refine sda A λa A↦?_
  refine qa (hK17 _ _ (wp_ret (hret _ _ (en2 A rfl (qj rfl) (qj rfl) ?_))))
  exact ⟨by rw [show vj r q = xl r q.b1 q.t1 q.q1 from by unfold vj; rw [if_pos hb14']] <;> rfl, V.bel⟩
 ·
  have hb14' := of_decide_eq_false hb14
  refine qg A rfl rfl rfl (qb  rfl rfl (fun w => by kernel_rfl)) (yy hl hb14) ?_
  rintro _ w21 ⟨rfl, hb20⟩
  replace V := V.call hb20
  refine ⟨_, rfl, ?_⟩
  intro a A
  refine qa (hK13 _ _ (wp_cond_false (A.ev rfl) ?_))
  refine wp_skip (hK12 _ _ (wsk fun K22 hK22 => jc (S := fun w1 => St w w1 [(g2, [.bool q.b1, .slice a1 q.t1.length ac1, .slice a2 q.q1.length ac2, .bool q.b2, .slice a3 q.t2.length ac3, .slice a4 q.q2.length ac4])] [(a4, q.q2), (a3, q.t2), (a2, q.q1), (a1, q.t1)] []) (by kernel_rfl) ?_))
  replace V := V.drew
  refine qh (v := .pointer (some ⟨g2, 3, none⟩)) A 0 rfl rfl rfl rfl hP V (fun w1 V => qf RxI_fld_26_1 rfl rfl) λa A↦?_
  refine qh A 1 rfl rfl rfl rfl hP V (fun w1 V => qk V RxI_isS_24 rfl 0 rfl (cs := [.bool q.b2, .slice a3 q.t2.length ac3, .slice a4 q.q2.length ac4]) rfl rfl) λa A↦?_
  refine qh (v := .pointer (some ⟨g2, 3, none⟩)) A 3 rfl rfl rfl rfl hP V (fun w1 V => qf RxI_fld_26_1 rfl rfl) λa A↦?_
  refine qh A 4 rfl rfl rfl rfl hP V (fun w1 V => qk V RxI_isS_24 rfl 0 rfl (cs := [.bool q.b2, .slice a3 q.t2.length ac3, .slice a4 q.q2.length ac4]) rfl rfl) λa A↦?_
  refine qh A 5 rfl rfl rfl rfl hP V (fun w1 V => qz rfl) λa A↦?_
  refine qt (by kernel_rfl) (zf A 2 rfl rfl rfl rfl (qb  rfl rfl (fun w => by kernel_rfl)) (zga (b := q.b2) (t := q.t2) (q := q.q2) (r := r) ⟨(V.rd 1 rfl), ha.s3.nil, ha.s3.cap⟩ ⟨(V.rd 0 rfl), ha.s4.nil, ha.s4.cap⟩ hr hl.l3 hl.l4) ?_)
  rintro _ w24 ⟨rfl, hb23⟩
  replace V := V.call hb23
  refine ⟨_, rfl, V, ?_⟩
  intro a A
  refine qt (by kernel_rfl) (zf A 6 rfl rfl rfl rfl (qb  rfl rfl (fun w => by kernel_rfl)) (zgb (b := q.b2) (t := q.t2) (q := q.q2) (r := r) ⟨(V.rd 1 rfl), ha.s3.nil, ha.s3.cap⟩ ⟨(V.rd 0 rfl), ha.s4.nil, ha.s4.cap⟩ hr hl.l3 hl.l4) ?_)
  rintro _ w26 ⟨rfl, hb25⟩
  replace V := V.call hb25
  refine ⟨_, rfl, V, ?_⟩
  intro a A
  refine qh (v := .string (bsL (sgL q.b2 ++ (unL r q.t2 q.q2)))) A 7 rfl rfl rfl rfl hP V (fun w1 V => qe rfl rfl (un (a := sgL q.b2) (b := unL r q.t2 q.q2) (by first | omega | (simp only [List.length_append, List.length_cons, List.length_nil]; omega)))) λa A↦?_
  refine qh (v := .string (bsL (sgL q.b2 ++ (unL r q.t2 q.q2) ++ ([105])))) A 8 rfl rfl rfl rfl hP V (fun w1 V => qe rfl rfl (un (a := sgL q.b2 ++ (unL r q.t2 q.q2)) (b := [105]) (by first | omega | (simp only [List.length_append, List.length_cons, List.length_nil]; omega)))) λa A↦?_
  refine qh A 9 rfl rfl rfl rfl hP V (fun w1 V => zh rfl) λa A↦?_
  refine zn (by kernel_rfl) ?_
  refine hK22 _ _ (wsk fun K27 hK27 => wsk fun K28 hK28 => wrl (sdo (v := .pointer (some ⟨g2, 0, none⟩)) A (qf RxI_fld_26_0 rfl rfl) λa A↦?_))
  refine sdo (v := .pointer (some ⟨g2, 1, none⟩)) A (qf RxI_fld_24_1 rfl rfl) λa A↦?_
  refine sdo A (qs V RxI_is1_22 rfl 0 rfl rfl) λa A↦?_
  refine sdo A (zg Tryz.underlying22 rfl) λa A↦?_
  rcases tf ((((q.t1.length : Nat) : Int) == 0)) with hb29 | hb29
  ·
   have hb29' := eq_of_beq hb29
   refine sdo (v := .bool true) A (qe rfl rfl (fun w => (zl w).trans (by rw [hb29]))) λa A↦?_
   refine qa (hK28 _ _ (wp_cond_true (A.ev rfl) ?_))
   refine wsk fun K30 hK30 => wrl (mv A rfl rfl rfl λa A↦?_)
   iterate 2 refine sda A λa A↦?_
   refine qa (hK30 _ _ (wp_ret (hret _ _ (en2 A rfl (qj rfl) (qj rfl) ?_))))
   exact ⟨by rw [show vj r q = sgL q.b2 ++ (unL r q.t2 q.q2) ++ ([105]) from by unfold vj; rw [if_neg hb14', if_pos (show q.t1.length = 0 from by omega)]; first | rfl | simp only [List.nil_append, zuj]] <;> rfl, V.bel⟩
  ·
   have hb29' := ne_of_beq_false hb29
   refine sdo (v := .bool false) A (qe rfl rfl (fun w => (zl w).trans (by rw [hb29]))) λa A↦?_
   refine qa (hK28 _ _ (wp_cond_false (A.ev rfl) ?_))
   refine wp_skip (hK27 _ _ (wsk fun K31 hK31 => wrl (sdo (v := .pointer (some ⟨g2, 0, none⟩)) A (qf RxI_fld_26_0 rfl rfl) λa A↦?_)))
   refine sdo A (qk V RxI_isS_24 rfl 0 rfl (cs := [.bool q.b1, .slice a1 q.t1.length ac1, .slice a2 q.q1.length ac2]) rfl rfl) λa A↦?_
   refine sdm A λa A↦?_
   refine qg A rfl rfl rfl (qb  rfl rfl (fun w => by kernel_rfl)) (qtd (b := q.b1) (t := q.t1) (q := q.q1) (r := r) ⟨(V.rd 3 rfl), ha.s1.nil, ha.s1.cap⟩ ⟨(V.rd 2 rfl), ha.s2.nil, ha.s2.cap⟩ hr hl.l1 hl.l2) ?_
   rintro _ w33 ⟨rfl, hb32⟩
   replace V := V.call hb32
   refine ⟨_, rfl, ?_⟩
   intro a A
   refine sdm A λa A↦?_
   refine sdo (v := .string (bsL (xl r q.b1 q.t1 q.q1 ++ (sgL q.b2 ++ (unL r q.t2 q.q2) ++ ([105]))))) A (qe rfl rfl (un (a := xl r q.b1 q.t1 q.q1) (b := sgL q.b2 ++ (unL r q.t2 q.q2) ++ ([105])) (by first | omega | (simp only [List.length_append, List.length_cons, List.length_nil]; omega)))) λa A↦?_
   iterate 2 refine sda A λa A↦?_
   refine qa (hK31 _ _ (wp_ret (hret _ _ (en2 A rfl (qj rfl) (qj rfl) ?_))))
   exact ⟨by rw [show vj r q = xl r q.b1 q.t1 q.q1 ++ (sgL q.b2 ++ (unL r q.t2 q.q2) ++ ([105])) from by unfold vj; rw [if_neg hb14', if_neg (show ¬ q.t1.length = 0 from by omega)]; first | rfl | simp only [List.nil_append, zuj]] <;> rfl, V.bel⟩
theorem addQ_as {w : World} {p q : Q6} {a1 a2 a3 a4 : Option Addr} {ac1 ac2 ac3 ac4 : Nat} (ha : Nm w p a1 ac1 a2 ac2 a3 ac3 a4 ac4) (hl : LenQ p) {u1 u2 u3 u4 : Option Addr} {uc1 uc2 uc3 uc4 : Nat} (hb : Nm w q u1 uc1 u2 uc2 u3 uc3 u4 uc4) (hm : LenQ q) {z : Q6 × Int} (hz : kr p q = z) : Calls Tryz.prog 12 #[jx p a1 ac1 a2 ac2 a3 ac3 a4 ac4, jx q u1 uc1 u2 uc2 u3 uc3 u4 uc4] w (AnsN w z) := hz ▸ zrc ha hl hb hm
theorem zai {w : World} {q : Q6} {a1 a2 a3 a4 : Option Addr} {ac1 ac2 ac3 ac4 : Nat} (ha : Nm w q a1 ac1 a2 ac2 a3 ac3 a4 ac4) (hl : LenQ q) {s e : Int} : Calls Tryz.prog 9 #[jx q a1 ac1 a2 ac2 a3 ac3 a4 ac4, .int .i64 s, .int .i64 e] w (AnsN w (ky q s e)) := by
 rcases yz q with ⟨hw, h1⟩ | ⟨hw, _⟩
 ·
  obtain ⟨b, x, rfl, hx, hb⟩ := qeb ha h1
  by_cases hs : s < 0 ∨ e < s ∨ 16384 < e
  ·
   exact zae ha hl hw hx hb hs
  ·
   obtain ⟨S, rfl⟩ := Int.eq_ofNat_of_zero_le (show 0 ≤ s by omega)
   obtain ⟨E, rfl⟩ := Int.eq_ofNat_of_zero_le (show 0 ≤ e by omega)
   exact qdj ha hl (by omega) (by omega) hw hx hb
 ·
  exact zad ha hl hw
open Go.ChangeShapes Go.WideShapes Go.ChangeAt Go.RowKit Go.Joins Go.Deep
section
variable {H : Type} {enc : TypeId × Value → H} {W : World}
theorem trod_bool {fuel : Nat} {v : Value} {x : DataW H × List MemPlace} (h : DataW.trod enc Tryz.prog W 0 (fun _ => true) true fuel 4 [v] = some x) : ∃ b, v = .bool b := by
  obtain ⟨b, h, _⟩ := DataW.trod_bool Tryz.underlying4 h
  exact ⟨b, by simpa using h⟩
theorem qqa {fuel : Nat} {v : Value} {x : DataW H × List MemPlace} (h : DataW.trod enc Tryz.prog W 0 (fun _ => true) true fuel 22 [v] = some x) : ∃ ao c l, v = .slice ao l.length c ∧ Arg W ao c l := by
  rcases open_ints Tryz.underlying22 Tryz.underlying77 (by kernel_rfl) h with ⟨hcs, _⟩ | ⟨x, l, c, zs, hcs, _, hl, hm, hz, hx, hcell, hwz⟩
  · cases hcs
    exact ⟨none, 0, [], rfl, arg_nil W⟩
  · cases hcs
    obtain ⟨us, e, ha⟩ := arg_row hl hm (by simpa using hz) hcell hwz
    subst e
    exact ⟨_, _, us, rfl, ha⟩
theorem zbe {fuel : Nat} {v0 v1 v2 : Value} {x : DataW H × List MemPlace} (h : DataW.trod enc Tryz.prog W 0 (fun _ => true) true fuel 24 [v0, v1, v2] = some x) : ∃ b o1 c1 l1 o2 c2 l2, v0 = .bool b ∧ v1 = .slice o1 l1.length c1 ∧ v2 = .slice o2 l2.length c2 ∧ Arg W o1 c1 l1 ∧ Arg W o2 c2 l2 := by
  obtain ⟨y0, y1, y2, n, _, _, h0, h1, h2⟩ := trod_struct3 Tryz.underlying24 h
  have e0 : Tryz.prog.cellsOf 4 = 1 := by kernel_rfl
  have e1 : Tryz.prog.cellsOf 22 = 1 := by kernel_rfl
  simp only [e0, e1, List.drop_zero, List.take_succ_cons, List.take_zero, List.drop_succ_cons] at h0 h1 h2
  obtain ⟨b, rfl⟩ := trod_bool h0
  obtain ⟨o1, c1, l1, rfl, a1⟩ := qqa h1
  obtain ⟨o2, c2, l2, rfl, a2⟩ := qqa h2
  exact ⟨b, o1, c1, l1, o2, c2, l2, rfl, rfl, rfl, a1, a2⟩
theorem zvi {base : Nat} {v : Value} {d : DataW H} {p : List MemPlace} (hv : Value.okWide Tryz.prog W .any base 26 v) (h : DataW.Trod enc Tryz.prog W 0 (fun _ => true) true 26 v d p) :
    ∃ q o1 c1 o2 c2 o3 c3 o4 c4, v = jx q o1 c1 o2 c2 o3 c3 o4 c4 ∧ Nm W q o1 c1 o2 c2 o3 c3 o4 c4 ∧ LenQ q := by
  obtain ⟨cs, rfl, hsz⟩ := okWide_struct Tryz.underlying26 hv
  rw [show Tryz.prog.cellsOf 26 = 6 from by kernel_rfl] at hsz
  obtain ⟨cs⟩ := cs
  match cs, hsz with
  | [v0, v1, v2, v3, v4, v5], _ =>
    obtain ⟨fuel, hf⟩ := h
    obtain ⟨y0, y1, n, _, _, h0, h1⟩ := trod_struct2 Tryz.underlying26 hf
    have e : Tryz.prog.cellsOf 24 = 3 := by kernel_rfl
    simp only [Value.cells, e, List.drop_zero, List.take_succ_cons, List.take_zero, List.drop_succ_cons] at h0 h1
    obtain ⟨b1, o1, c1, l1, o2, c2, l2, rfl, rfl, rfl, a1, a2⟩ := zbe h0
    obtain ⟨b2, o3, c3, l3, o4, c4, l4, rfl, rfl, rfl, a3, a4⟩ := zbe h1
    exact ⟨⟨b1, l1, l2, b2, l3, l4⟩, o1, c1, o2, c2, o3, c3, o4, c4, rfl, ⟨⟨a1.rd, a1.nil, a1.caps⟩, ⟨a2.rd, a2.nil, a2.caps⟩, ⟨a3.rd, a3.nil, a3.caps⟩, ⟨a4.rd, a4.nil, a4.caps⟩⟩, ⟨a1.len, a2.len, a3.len, a4.len⟩⟩
end
end Go.Proofs.YtjkpfnghiooblaaGreatDoor
