/- The walk of the law of lists. The law of lists, whole. Transcoders that come in as arguments. Rows of bytes that come in as arguments; the first part of a row, and of a text. What a bound on the bulk of what is read gives. Lists of numbers that come in as arguments, and what a bound on the bulk gives. -/
import Derived.Test.YtbhdnpbbmpemnaaGreatDoorPbyteve12h
import Derived.Test.YtbhdnpbbmpemnaaGreatDoorPbyteve12e
import Derived.Test.YtbhdnpbbmpemnaaGreatDoorProg
import Derived.WalkKit
import Derived.ProofKit
import Derived.OpenShut
import Derived.ChangeOld
import Derived.Lib.SmallJoins
import Derived.Deep.Strs
import Derived.Test.YtbhdnpbbmpemnaaGreatDoorRows
import Derived.Test.YtbhdnpbbmpemnaaGreatDoorPbyteve12d
import Derived.Deep.Slices
namespace Go.Proofs.YtbhdnpbbmpemnaaGreatDoor
open Go.RowKit
set_option linter.unusedVariables false
set_option linter.unusedSimpArgs false
set_option maxRecDepth 100000
theorem GvR_isS_36 : IsS Tryz.prog 36 6 := ⟨⟨_, Tryz.underlying36⟩, by kernel_rfl⟩
set_option maxHeartbeats 1000000 in
theorem qkc {w : World} {so : Option Addr} {ca : Nat} {l : List UInt8} (hb : G.Rb w so l) (hca : l.length ≤ ca) (hl : l.length ≤ 140737488351232) {qo : Option Addr} {ml qc : Nat} (hml : ml ≤ 1048576) {size : Int} (hsize0 : -9223372036854775808 ≤ size) (hsize1 : size ≤ 9223372036854775807) (bg sg : Bool) {e1 : Int} (he1 : e1 ≠ 0) (hL : ∀ W, Below w.heap.size w W → Calls Tryz.prog 4 #[.slice so l.length ca, .int .i64 size, .bool bg, .bool sg] W (fun e w' => e = .returned (.tuple #[.slice none 0 0, .int .i64 e1]) ∧ Below W.heap.size W w')) (hLr : ∀ W, Below w.heap.size w W → Calls Tryz.prog 5 #[.slice so l.length ca, .int .i64 size, .bool bg, .bool sg] W (fun e w' => e = .returned (.tuple #[.slice none 0 0, .int .i64 e1]) ∧ Below W.heap.size W w')) {e2 : Int} (he2 : e2 ≠ 0) (hO : ∀ W, Below w.heap.size w W → Calls Tryz.prog 6 #[.slice qo ml qc, .int .i64 size, .bool bg, .bool sg] W (fun e w' => e = .returned (.tuple #[.slice none 0 0, .int .i64 e2]) ∧ Below W.heap.size W w')) (hOr : ∀ W, Below w.heap.size w W → Calls Tryz.prog 7 #[.slice qo ml qc, .int .i64 size, .bool bg, .bool sg] W (fun e w' => e = .returned (.tuple #[.slice none 0 0, .int .i64 e2]) ∧ Below W.heap.size W w')) : Calls Tryz.prog 3 #[.slice so l.length ca, .slice qo ml qc, .int .i64 size, .bool bg, .bool sg] w fun e w' => e = .returned (.bool true) ∧ Below w.heap.size w w' := by
 have hS : St w w [] [] [] := St.start w
 refine za (l := [(0, .slice so l.length ca), (1, .slice qo ml qc), (2, .int .i64 size), (3, .bool bg), (4, .bool sg)]) Tryz.func3 rfl Tryz.ntmps3 rfl rfl ?_
 intro Q hret hnorm hP a hA
 refine wsk fun K1 hK1 => wrl (sdo hA (qb rfl) fun a hA => ?_)
 refine qe (hK1 _ _ (wsk fun K2 hK2 => wrl ?_))
 iterate 4 refine sdo hA (qa rfl) fun a hA => ?_
 refine qi hA rfl rfl rfl (qf  rfl rfl (fun w => by kernel_rfl)) (hL _ hS.bel) ?_
 rintro _ w4 ⟨rfl, hb3⟩
 replace hS := hS.call hb3
 refine ⟨_, rfl, ?_⟩
 intro a hA
 refine sdo hA (qa rfl) fun a hA => ?_
 iterate 2 refine sdo hA (qz (vs := [.slice none 0 0, .int .i64 e1]) rfl rfl) fun a hA => ?_
 iterate 2 refine sdo hA (qb rfl) fun a hA => ?_
 refine qe (hK2 _ _ (wsk fun K5 hK5 => wrl ?_))
 iterate 4 refine sdo hA (qa rfl) fun a hA => ?_
 refine qi hA rfl rfl rfl (qf  rfl rfl (fun w => by kernel_rfl)) (hLr _ hS.bel) ?_
 rintro _ w7 ⟨rfl, hb6⟩
 replace hS := hS.call hb6
 refine ⟨_, rfl, ?_⟩
 intro a hA
 refine sdo hA (qa rfl) fun a hA => ?_
 iterate 2 refine sdo hA (qz (vs := [.slice none 0 0, .int .i64 e1]) rfl rfl) fun a hA => ?_
 iterate 2 refine sdo hA (qb rfl) fun a hA => ?_
 refine qe (hK5 _ _ (wsk fun K8 hK8 => wrl ?_))
 iterate 4 refine sdo hA (qa rfl) fun a hA => ?_
 refine qi hA rfl rfl rfl (qf  rfl rfl (fun w => by kernel_rfl)) (hO _ hS.bel) ?_
 rintro _ w10 ⟨rfl, hb9⟩
 replace hS := hS.call hb9
 refine ⟨_, rfl, ?_⟩
 intro a hA
 refine sdo hA (qa rfl) fun a hA => ?_
 iterate 2 refine sdo hA (qz (vs := [.slice none 0 0, .int .i64 e2]) rfl rfl) fun a hA => ?_
 iterate 2 refine sdo hA (qb rfl) fun a hA => ?_
 refine qe (hK8 _ _ (wsk fun K11 hK11 => wrl ?_))
 iterate 4 refine sdo hA (qa rfl) fun a hA => ?_
 refine qi hA rfl rfl rfl (qf  rfl rfl (fun w => by kernel_rfl)) (hOr _ hS.bel) ?_
 rintro _ w13 ⟨rfl, hb12⟩
 replace hS := hS.call hb12
 refine ⟨_, rfl, ?_⟩
 intro a hA
 refine sdo hA (qa rfl) fun a hA => ?_
 iterate 2 refine sdo hA (qz (vs := [.slice none 0 0, .int .i64 e2]) rfl rfl) fun a hA => ?_
 iterate 2 refine sdo hA (qb rfl) fun a hA => ?_
 refine qe (hK11 _ _ (wsk fun K14 hK14 => wsk fun K15 hK15 => wrl (qi hA rfl rfl rfl (qf  rfl rfl (fun w => by kernel_rfl)) (uh) ?_)))
 rintro _ w17 ⟨rfl, hb16⟩
 replace hS := hS.call hb16
 refine ⟨_, rfl, ?_⟩
 intro a hA
 refine sdo (v := .bool false) hA (zp rfl zu) fun a hA => ?_
 iterate 2 refine sdo hA (qa rfl) fun a hA => ?_
 refine sdo hA (zb Tryz.underlying23 rfl) fun a hA => ?_
 refine sdo hA (qa rfl) fun a hA => ?_
 refine sdo hA (zb Tryz.underlying23 rfl) fun a hA => ?_
 refine sdo (v := .bool false) hA (qg rfl rfl (fun w => by kernel_rfl)) fun a hA => ?_
 refine sdo (v := .bool false) hA (qj rfl rfl rfl rfl) fun a hA => ?_
 iterate 3 refine sdo hA (qa rfl) fun a hA => ?_
 refine sdo (v := .bool false) hA (qg rfl rfl (fun w => (jm w).trans (by rw [show ((e1 != e1)) = false from (bne_self_eq_false _)]))) fun a hA => ?_
 refine sdo (v := .bool false) hA (qj rfl rfl rfl rfl) fun a hA => ?_
 iterate 3 refine sdo hA (qa rfl) fun a hA => ?_
 refine qi hA rfl rfl rfl (qf  rfl rfl (fun w => by kernel_rfl)) (G.qae (xs := []) (ys := []) (b := true) (⟨fun h9 => absurd rfl h9⟩ : G.Rb _ none []) (⟨fun h9 => absurd rfl h9⟩ : G.Rb _ none []) (Nat.zero_le _) (decide_eq_true rfl)) ?_
 rintro _ w19 ⟨rfl, hb18⟩
 replace hS := hS.call hb18
 refine ⟨_, rfl, ?_⟩
 intro a hA
 refine sdo (v := .bool false) hA (zp rfl zu) fun a hA => ?_
 refine sdo (v := .bool false) hA (qj rfl rfl rfl rfl) fun a hA => ?_
 iterate 3 refine sdo hA (qa rfl) fun a hA => ?_
 refine sdo (v := .bool false) hA (qg rfl rfl (fun w => (jm w).trans (by rw [show ((e2 != e2)) = false from (bne_self_eq_false _)]))) fun a hA => ?_
 refine sdo (v := .bool false) hA (qj rfl rfl rfl rfl) fun a hA => ?_
 refine qe (hK15 _ _ (wp_cond_false (hA.ev rfl) ?_))
 refine wp_skip (hK14 _ _ (wsk fun K20 hK20 => wsk fun K21 hK21 => wrl (sdo hA (qb rfl) fun a hA => ?_)))
 refine qe (hK21 _ _ (wp_block (wp_loop_rounds 12 ?_)))
 refine vh fun K22 hK22 => ?_
 refine wsk fun K23 hK23 => wsk fun K24 hK24 => wrl ?_
 iterate 2 refine sdo hA (qa rfl) fun a hA => ?_
 refine sdo hA (zb Tryz.underlying23 rfl) fun a hA => ?_
 refine sdo (v := .bool false) hA (qg rfl rfl (fun w => by kernel_rfl)) fun a hA => ?_
 refine qe (hK24 _ _ (wp_cond_false (hA.ev rfl) ?_))
 refine wp_exit (hK20 _ _ (wsk fun K25 hK25 => wsk fun K26 hK26 => wrl (sdo hA (qa rfl) fun a hA => ?_)))
 refine sdo (v := .bool true) hA (qg rfl rfl (fun w => (jm w).trans (by rw [show ((e1 != 0)) = true from (bne_iff_ne.2 he1)]))) fun a hA => ?_
 refine sdo hA (qa rfl) fun a hA => ?_
 iterate 3 refine zg hA rfl rfl rfl fun a hA => ?_
 refine sdo (v := .bool true) hA (qj rfl rfl rfl rfl) fun a hA => ?_
 refine qe (hK26 _ _ (wp_cond_true (hA.ev rfl) ?_))
 refine wsk fun K27 hK27 => wrl (sdo hA (qb rfl) fun a hA => ?_)
 refine qe (hK27 _ _ (wp_ret (hret _ _ (en1 hA rfl (ql rfl) ?_))))
 exact ⟨rfl, hS.bel⟩
set_option maxHeartbeats 1000000 in
theorem zgg {w : World} {so : Option Addr} {ca : Nat} {l : List UInt8} (hb : G.Rb w so l) (hca : l.length ≤ ca) (hl : l.length ≤ 140737488351232) {qo : Option Addr} {ml qc : Nat} (hml : ml ≤ 1048576) {size : Int} (hsize0 : -9223372036854775808 ≤ size) (hsize1 : size ≤ 9223372036854775807) (bg sg : Bool) {e1 : Int} (he1 : e1 ≠ 0) (hL : ∀ W, Below w.heap.size w W → Calls Tryz.prog 4 #[.slice so l.length ca, .int .i64 size, .bool bg, .bool sg] W (fun e w' => e = .returned (.tuple #[.slice none 0 0, .int .i64 e1]) ∧ Below W.heap.size W w')) (hLr : ∀ W, Below w.heap.size w W → Calls Tryz.prog 5 #[.slice so l.length ca, .int .i64 size, .bool bg, .bool sg] W (fun e w' => e = .returned (.tuple #[.slice none 0 0, .int .i64 e1]) ∧ Below W.heap.size W w')) {r : List UInt8} (hr : r.length ≤ 140737488351232) (hO : ∀ W, Below w.heap.size w W → Calls Tryz.prog 6 #[.slice qo ml qc, .int .i64 size, .bool bg, .bool sg] W (fun e w' => ∃ v, e = .returned (.tuple #[v, .int .i64 0]) ∧ G.Mg W w' [.row G.BY 1 v r.length (Lib.byteCells r)])) (hOr : ∀ W, Below w.heap.size w W → Calls Tryz.prog 7 #[.slice qo ml qc, .int .i64 size, .bool bg, .bool sg] W (fun e w' => ∃ v, e = .returned (.tuple #[v, .int .i64 0]) ∧ G.Mg W w' [.row G.BY 1 v r.length (Lib.byteCells r)])) : Calls Tryz.prog 3 #[.slice so l.length ca, .slice qo ml qc, .int .i64 size, .bool bg, .bool sg] w fun e w' => e = .returned (.bool true) ∧ Below w.heap.size w w' := by
 have hS : St w w [] [] [] := St.start w
 refine za (l := [(0, .slice so l.length ca), (1, .slice qo ml qc), (2, .int .i64 size), (3, .bool bg), (4, .bool sg)]) Tryz.func3 rfl Tryz.ntmps3 rfl rfl ?_
 intro Q hret hnorm hP a hA
 refine wsk fun K1 hK1 => wrl (sdo hA (qb rfl) fun a hA => ?_)
 refine qe (hK1 _ _ (wsk fun K2 hK2 => wrl ?_))
 iterate 4 refine sdo hA (qa rfl) fun a hA => ?_
 refine qi hA rfl rfl rfl (qf  rfl rfl (fun w => by kernel_rfl)) (hL _ hS.bel) ?_
 rintro _ w4 ⟨rfl, hb3⟩
 replace hS := hS.call hb3
 refine ⟨_, rfl, ?_⟩
 intro a hA
 refine sdo hA (qa rfl) fun a hA => ?_
 iterate 2 refine sdo hA (qz (vs := [.slice none 0 0, .int .i64 e1]) rfl rfl) fun a hA => ?_
 iterate 2 refine sdo hA (qb rfl) fun a hA => ?_
 refine qe (hK2 _ _ (wsk fun K5 hK5 => wrl ?_))
 iterate 4 refine sdo hA (qa rfl) fun a hA => ?_
 refine qi hA rfl rfl rfl (qf  rfl rfl (fun w => by kernel_rfl)) (hLr _ hS.bel) ?_
 rintro _ w7 ⟨rfl, hb6⟩
 replace hS := hS.call hb6
 refine ⟨_, rfl, ?_⟩
 intro a hA
 refine sdo hA (qa rfl) fun a hA => ?_
 iterate 2 refine sdo hA (qz (vs := [.slice none 0 0, .int .i64 e1]) rfl rfl) fun a hA => ?_
 iterate 2 refine sdo hA (qb rfl) fun a hA => ?_
 refine qe (hK5 _ _ (wsk fun K8 hK8 => wrl ?_))
 iterate 4 refine sdo hA (qa rfl) fun a hA => ?_
 refine qi hA rfl rfl rfl (qf  rfl rfl (fun w => by kernel_rfl)) (hO _ hS.bel) ?_
 rintro _ w13 ⟨v9, rfl, hM12⟩
 obtain ⟨so10, ca11, rfl⟩ := G.vu (hM12.has 0 rfl)
 replace hS := hS.call hM12.bel
 refine ⟨_, rfl, ?_⟩
 intro a hA
 have hWz15 : Below w.heap.size w w13 := hS.bel
 have hbz15 := hb.below hS.bel
 have hRz15 : G.Rb w13 so10 r := (G.vl (bs := r) hM12 0 rfl).1
 have hRcz15 := G.ko hM12 0 rfl
 clear hS
 have hS : St w13 w13 [] [] [] := St.start w13
 refine sdo hA (qa rfl) fun a hA => ?_
 iterate 2 refine sdo hA (qz (vs := [.slice so10 r.length ca11, .int .i64 0]) rfl rfl) fun a hA => ?_
 iterate 2 refine sdo hA (qb rfl) fun a hA => ?_
 refine qe (hK8 _ _ (wsk fun K16 hK16 => wrl ?_))
 iterate 4 refine sdo hA (qa rfl) fun a hA => ?_
 refine qi hA rfl rfl rfl (qf  rfl rfl (fun w => by kernel_rfl)) (hOr _ (chain2 hWz15 hS.bel)) ?_
 rintro _ w21 ⟨v17, rfl, hM20⟩
 obtain ⟨so18, ca19, rfl⟩ := G.vu (hM20.has 0 rfl)
 replace hS := hS.call hM20.bel
 refine ⟨_, rfl, ?_⟩
 intro a hA
 have hWz23 : Below w.heap.size w w21 := chain2 hWz15 hS.bel
 have hbz15z23 := hbz15.below hS.bel
 have hRz15z23 := hRz15.below hS.bel
 have hRz23 : G.Rb w21 so18 r := (G.vl (bs := r) hM20 0 rfl).1
 have hRcz23 := G.ko hM20 0 rfl
 clear hS
 have hS : St w21 w21 [] [] [] := St.start w21
 refine sdo hA (qa rfl) fun a hA => ?_
 iterate 2 refine sdo hA (qz (vs := [.slice so18 r.length ca19, .int .i64 0]) rfl rfl) fun a hA => ?_
 iterate 2 refine sdo hA (qb rfl) fun a hA => ?_
 refine qe (hK16 _ _ (wsk fun K24 hK24 => wsk fun K25 hK25 => wrl (qi hA rfl rfl rfl (qf  rfl rfl (fun w => by kernel_rfl)) (uh) ?_)))
 rintro _ w27 ⟨rfl, hb26⟩
 replace hS := hS.call hb26
 refine ⟨_, rfl, ?_⟩
 intro a hA
 refine sdo (v := .bool false) hA (zp rfl zu) fun a hA => ?_
 iterate 2 refine sdo hA (qa rfl) fun a hA => ?_
 refine sdo hA (zb Tryz.underlying23 rfl) fun a hA => ?_
 refine sdo hA (qa rfl) fun a hA => ?_
 refine sdo hA (zb Tryz.underlying23 rfl) fun a hA => ?_
 refine sdo (v := .bool false) hA (qg rfl rfl (fun w => by kernel_rfl)) fun a hA => ?_
 refine sdo (v := .bool false) hA (qj rfl rfl rfl rfl) fun a hA => ?_
 iterate 3 refine sdo hA (qa rfl) fun a hA => ?_
 refine sdo (v := .bool false) hA (qg rfl rfl (fun w => (jm w).trans (by rw [show ((e1 != e1)) = false from (bne_self_eq_false _)]))) fun a hA => ?_
 refine sdo (v := .bool false) hA (qj rfl rfl rfl rfl) fun a hA => ?_
 iterate 3 refine sdo hA (qa rfl) fun a hA => ?_
 refine qi hA rfl rfl rfl (qf  rfl rfl (fun w => by kernel_rfl)) (G.qae (xs := r) (ys := r) (b := true) (hRz15z23.below hS.bel) (hRz23.below hS.bel) hr (decide_eq_true rfl)) ?_
 rintro _ w29 ⟨rfl, hb28⟩
 replace hS := hS.call hb28
 refine ⟨_, rfl, ?_⟩
 intro a hA
 refine sdo (v := .bool false) hA (zp rfl zu) fun a hA => ?_
 refine sdo (v := .bool false) hA (qj rfl rfl rfl rfl) fun a hA => ?_
 iterate 3 refine sdo hA (qa rfl) fun a hA => ?_
 refine sdo (v := .bool false) hA (qg rfl rfl (fun w => by kernel_rfl)) fun a hA => ?_
 refine sdo (v := .bool false) hA (qj rfl rfl rfl rfl) fun a hA => ?_
 refine qe (hK25 _ _ (wp_cond_false (hA.ev rfl) ?_))
 refine wp_skip (hK24 _ _ (wsk fun K30 hK30 => wsk fun K31 hK31 => wrl (sdo hA (qb rfl) fun a hA => ?_)))
 refine qe (hK31 _ _ (wp_block (wp_loop_rounds 12 ?_)))
 refine vh fun K32 hK32 => ?_
 refine wsk fun K33 hK33 => wsk fun K34 hK34 => wrl ?_
 iterate 2 refine sdo hA (qa rfl) fun a hA => ?_
 refine sdo hA (zb Tryz.underlying23 rfl) fun a hA => ?_
 refine sdo (v := .bool false) hA (qg rfl rfl (fun w => by kernel_rfl)) fun a hA => ?_
 refine qe (hK34 _ _ (wp_cond_false (hA.ev rfl) ?_))
 refine wp_exit (hK30 _ _ (wsk fun K35 hK35 => wsk fun K36 hK36 => wrl (sdo hA (qa rfl) fun a hA => ?_)))
 refine sdo (v := .bool true) hA (qg rfl rfl (fun w => (jm w).trans (by rw [show ((e1 != 0)) = true from (bne_iff_ne.2 he1)]))) fun a hA => ?_
 refine sdo hA (qa rfl) fun a hA => ?_
 iterate 3 refine zg hA rfl rfl rfl fun a hA => ?_
 refine sdo (v := .bool true) hA (qj rfl rfl rfl rfl) fun a hA => ?_
 refine qe (hK36 _ _ (wp_cond_true (hA.ev rfl) ?_))
 refine wsk fun K37 hK37 => wrl (sdo hA (qb rfl) fun a hA => ?_)
 refine qe (hK37 _ _ (wp_ret (hret _ _ (en1 hA rfl (ql rfl) ?_))))
 exact ⟨rfl, chain2 hWz23 hS.bel⟩
set_option maxHeartbeats 1000000 in
theorem zgh {w : World} {so : Option Addr} {ca : Nat} {l : List UInt8} (hb : G.Rb w so l) (hca : l.length ≤ ca) (hl : l.length ≤ 140737488351232) {qo : Option Addr} {ml qc : Nat} (hml : ml ≤ 1048576) {size : Int} (hsize0 : -9223372036854775808 ≤ size) (hsize1 : size ≤ 9223372036854775807) (bg sg : Bool) {cn : Nat} {qs : List Q6} (hqs : qs.length = cn) (hcn : cn ≤ 1048576) (hLq : ∀ q ∈ qs, LenQ q) (hL : ∀ W, Below w.heap.size w W → Calls Tryz.prog 4 #[.slice so l.length ca, .int .i64 size, .bool bg, .bool sg] W (fun e w' => ∃ ys g cap, e = .returned (.tuple #[.slice (some ⟨g, 0, none⟩) cn cap, .int .i64 0]) ∧ G.Mg W w' [.row 36 6 (.slice (some ⟨g, 0, none⟩) cn cap) cn (yC ys)] ∧ NL w' ys ∧ ys.map Yn.q = qs)) (hLr : ∀ W, Below w.heap.size w W → Calls Tryz.prog 5 #[.slice so l.length ca, .int .i64 size, .bool bg, .bool sg] W (fun e w' => ∃ ys g cap, e = .returned (.tuple #[.slice (some ⟨g, 0, none⟩) cn cap, .int .i64 0]) ∧ G.Mg W w' [.row 36 6 (.slice (some ⟨g, 0, none⟩) cn cap) cn (yC ys)] ∧ NL w' ys ∧ ys.map Yn.q = qs)) (hO3 : l.length ≤ 65536 → ∀ W so' ca' ys, Below w.heap.size w W → Rn W so' ys → NL W ys → cn ≤ ca' → ys.map Yn.q = qs → Calls Tryz.prog 6 #[.slice so' cn ca', .int .i64 size, .bool bg, .bool sg] W (fun e w' => ∃ v, e = .returned (.tuple #[v, .int .i64 0]) ∧ G.Mg W w' [.row G.BY 1 v l.length (Lib.byteCells l)])) {e2 : Int} (he2 : e2 ≠ 0) (hO : ∀ W, Below w.heap.size w W → Calls Tryz.prog 6 #[.slice qo ml qc, .int .i64 size, .bool bg, .bool sg] W (fun e w' => e = .returned (.tuple #[.slice none 0 0, .int .i64 e2]) ∧ Below W.heap.size W w')) (hOr : ∀ W, Below w.heap.size w W → Calls Tryz.prog 7 #[.slice qo ml qc, .int .i64 size, .bool bg, .bool sg] W (fun e w' => e = .returned (.tuple #[.slice none 0 0, .int .i64 e2]) ∧ Below W.heap.size W w')) : Calls Tryz.prog 3 #[.slice so l.length ca, .slice qo ml qc, .int .i64 size, .bool bg, .bool sg] w fun e w' => e = .returned (.bool true) ∧ Below w.heap.size w w' := by
 have hS : St w w [] [] [] := St.start w
 refine za (l := [(0, .slice so l.length ca), (1, .slice qo ml qc), (2, .int .i64 size), (3, .bool bg), (4, .bool sg)]) Tryz.func3 rfl Tryz.ntmps3 rfl rfl ?_
 intro Q hret hnorm hP a hA
 refine wsk fun K1 hK1 => wrl (sdo hA (qb rfl) fun a hA => ?_)
 refine qe (hK1 _ _ (wsk fun K2 hK2 => wrl ?_))
 iterate 4 refine sdo hA (qa rfl) fun a hA => ?_
 refine qi hA rfl rfl rfl (qf  rfl rfl (fun w => by kernel_rfl)) (hL _ hS.bel) ?_
 rintro _ w9 ⟨ys3, g4, cap5, rfl, hM6, hN7, hq8⟩
 replace hS := hS.call hM6.bel
 refine ⟨_, rfl, ?_⟩
 intro a hA
 have hRhN7 : Rn w9 (some ⟨g4, 0, none⟩) ys3 := qpb hM6 0 rfl
 have hcg4 := G.ko hM6 0 rfl
 have hWz11 : Below w.heap.size w w9 := hS.bel
 have hbz11 := hb.below hS.bel
 clear hS
 have hS : St w9 w9 [] [] [] := St.start w9
 refine sdo hA (qa rfl) fun a hA => ?_
 iterate 2 refine sdo hA (qz (vs := [.slice (some ⟨g4, 0, none⟩) cn cap5, .int .i64 0]) rfl rfl) fun a hA => ?_
 iterate 2 refine sdo hA (qb rfl) fun a hA => ?_
 refine qe (hK2 _ _ (wsk fun K12 hK12 => wrl ?_))
 iterate 4 refine sdo hA (qa rfl) fun a hA => ?_
 refine qi hA rfl rfl rfl (qf  rfl rfl (fun w => by kernel_rfl)) (hLr _ (chain2 hWz11 hS.bel)) ?_
 rintro _ w19 ⟨ys13, g14, cap15, rfl, hM16, hN17, hq18⟩
 replace hS := hS.call hM16.bel
 refine ⟨_, rfl, ?_⟩
 intro a hA
 have hRhN17 : Rn w19 (some ⟨g14, 0, none⟩) ys13 := qpb hM16 0 rfl
 have hcg14 := G.ko hM16 0 rfl
 have hRhN7n20 := hRhN7.below hS.bel
 have hN7n20 := hN7.below hS.bel
 have hWz21 : Below w.heap.size w w19 := chain2 hWz11 hS.bel
 have hbz11z21 := hbz11.below hS.bel
 clear hS
 have hS : St w19 w19 [] [] [] := St.start w19
 refine sdo hA (qa rfl) fun a hA => ?_
 iterate 2 refine sdo hA (qz (vs := [.slice (some ⟨g14, 0, none⟩) cn cap15, .int .i64 0]) rfl rfl) fun a hA => ?_
 iterate 2 refine sdo hA (qb rfl) fun a hA => ?_
 refine qe (hK12 _ _ (wsk fun K22 hK22 => wrl ?_))
 iterate 4 refine sdo hA (qa rfl) fun a hA => ?_
 refine qi hA rfl rfl rfl (qf  rfl rfl (fun w => by kernel_rfl)) (hO _ (chain2 hWz21 hS.bel)) ?_
 rintro _ w24 ⟨rfl, hb23⟩
 replace hS := hS.call hb23
 refine ⟨_, rfl, ?_⟩
 intro a hA
 refine sdo hA (qa rfl) fun a hA => ?_
 iterate 2 refine sdo hA (qz (vs := [.slice none 0 0, .int .i64 e2]) rfl rfl) fun a hA => ?_
 iterate 2 refine sdo hA (qb rfl) fun a hA => ?_
 refine qe (hK22 _ _ (wsk fun K25 hK25 => wrl ?_))
 iterate 4 refine sdo hA (qa rfl) fun a hA => ?_
 refine qi hA rfl rfl rfl (qf  rfl rfl (fun w => by kernel_rfl)) (hOr _ (chain2 hWz21 hS.bel)) ?_
 rintro _ w27 ⟨rfl, hb26⟩
 replace hS := hS.call hb26
 refine ⟨_, rfl, ?_⟩
 intro a hA
 refine sdo hA (qa rfl) fun a hA => ?_
 iterate 2 refine sdo hA (qz (vs := [.slice none 0 0, .int .i64 e2]) rfl rfl) fun a hA => ?_
 iterate 2 refine sdo hA (qb rfl) fun a hA => ?_
 refine qe (hK25 _ _ (wsk fun K28 hK28 => wsk fun K29 hK29 => wrl (qi hA rfl rfl rfl (qf  rfl rfl (fun w => by kernel_rfl)) (uh) ?_)))
 rintro _ w31 ⟨rfl, hb30⟩
 replace hS := hS.call hb30
 refine ⟨_, rfl, ?_⟩
 intro a hA
 refine sdo (v := .bool false) hA (zp rfl zu) fun a hA => ?_
 iterate 2 refine sdo hA (qa rfl) fun a hA => ?_
 refine sdo hA (zb Tryz.underlying23 rfl) fun a hA => ?_
 refine sdo hA (qa rfl) fun a hA => ?_
 refine sdo hA (zb Tryz.underlying23 rfl) fun a hA => ?_
 refine sdo (v := .bool false) hA (qg rfl rfl (fun w => (jm w).trans (by rw [show ((((cn : Nat) : Int) != ((cn : Nat) : Int))) = false from (bne_self_eq_false _)]))) fun a hA => ?_
 refine sdo (v := .bool false) hA (qj rfl rfl rfl rfl) fun a hA => ?_
 iterate 3 refine sdo hA (qa rfl) fun a hA => ?_
 refine sdo (v := .bool false) hA (qg rfl rfl (fun w => by kernel_rfl)) fun a hA => ?_
 refine sdo (v := .bool false) hA (qj rfl rfl rfl rfl) fun a hA => ?_
 iterate 3 refine sdo hA (qa rfl) fun a hA => ?_
 refine qi hA rfl rfl rfl (qf  rfl rfl (fun w => by kernel_rfl)) (G.qae (xs := []) (ys := []) (b := true) (⟨fun h9 => absurd rfl h9⟩ : G.Rb _ none []) (⟨fun h9 => absurd rfl h9⟩ : G.Rb _ none []) (Nat.zero_le _) (decide_eq_true rfl)) ?_
 rintro _ w33 ⟨rfl, hb32⟩
 replace hS := hS.call hb32
 refine ⟨_, rfl, ?_⟩
 intro a hA
 refine sdo (v := .bool false) hA (zp rfl zu) fun a hA => ?_
 refine sdo (v := .bool false) hA (qj rfl rfl rfl rfl) fun a hA => ?_
 iterate 3 refine sdo hA (qa rfl) fun a hA => ?_
 refine sdo (v := .bool false) hA (qg rfl rfl (fun w => (jm w).trans (by rw [show ((e2 != e2)) = false from (bne_self_eq_false _)]))) fun a hA => ?_
 refine sdo (v := .bool false) hA (qj rfl rfl rfl rfl) fun a hA => ?_
 refine qe (hK29 _ _ (wp_cond_false (hA.ev rfl) ?_))
 refine wp_skip (hK28 _ _ (wsk fun K34 hK34 => wsk fun K35 hK35 => wrl (sdo hA (qb rfl) fun a hA => ?_)))
 refine qe (hK35 _ _ (wp_block (jb (fun m a w1 => ∃ (i : Nat), m = 1 + (cn - i) ∧ (i ≤ cn) ∧ Sl a 116 [(0, .slice so l.length ca), (1, .slice qo ml qc), (2, .int .i64 size), (3, .bool bg), (4, .bool sg), (11, .slice (some ⟨g4, 0, none⟩) cn cap5), (12, .int .i64 0), (13, .slice (some ⟨g14, 0, none⟩) cn cap15), (14, .int .i64 0), (15, .slice none 0 0), (16, .int .i64 e2), (17, .slice none 0 0), (18, .int .i64 e2), (19, .int .i64 (((i : Nat) : Int))), (21, .tuple #[.slice (some ⟨g4, 0, none⟩) cn cap5, .int .i64 0]), (22, .slice so l.length ca), (23, .int .i64 size), (24, .bool bg), (25, .bool sg), (26, .tuple #[.slice (some ⟨g4, 0, none⟩) cn cap5, .int .i64 0]), (27, .slice (some ⟨g4, 0, none⟩) cn cap5), (28, .int .i64 0), (29, .tuple #[.slice (some ⟨g14, 0, none⟩) cn cap15, .int .i64 0]), (30, .slice so l.length ca), (31, .int .i64 size), (32, .bool bg), (33, .bool sg), (34, .tuple #[.slice (some ⟨g14, 0, none⟩) cn cap15, .int .i64 0]), (35, .slice (some ⟨g14, 0, none⟩) cn cap15), (36, .int .i64 0), (37, .tuple #[.slice none 0 0, .int .i64 e2]), (38, .slice qo ml qc), (39, .int .i64 size), (40, .bool bg), (41, .bool sg), (42, .tuple #[.slice none 0 0, .int .i64 e2]), (43, .slice none 0 0), (44, .int .i64 e2), (45, .tuple #[.slice none 0 0, .int .i64 e2]), (46, .slice qo ml qc), (47, .int .i64 size), (48, .bool bg), (49, .bool sg), (50, .tuple #[.slice none 0 0, .int .i64 e2]), (51, .slice none 0 0), (52, .int .i64 e2), (53, .bool true), (54, .bool false), (55, .bool false), (56, .slice (some ⟨g4, 0, none⟩) cn cap5), (57, .int .i64 (((cn : Nat) : Int))), (58, .slice (some ⟨g14, 0, none⟩) cn cap15), (59, .int .i64 (((cn : Nat) : Int))), (60, .bool false), (61, .bool false), (62, .bool false), (63, .int .i64 0), (64, .int .i64 0), (65, .bool false), (66, .bool false), (67, .bool false), (68, .slice none 0 0), (69, .slice none 0 0), (70, .bool true), (71, .bool false), (72, .bool false), (73, .bool false), (74, .int .i64 e2), (75, .int .i64 e2), (76, .bool false), (77, .bool false)] ∧ St w19 w1 [] [] []) _ ⟨0, rfl, Nat.zero_le _, hA.keep _ ⟨rfl, rfl, rfl, rfl, rfl, rfl, rfl, rfl, rfl, rfl, rfl, rfl, rfl, rfl, rfl, rfl, rfl, rfl, rfl, rfl, rfl, rfl, rfl, rfl, rfl, rfl, rfl, rfl, rfl, rfl, rfl, rfl, rfl, rfl, rfl, rfl, rfl, rfl, rfl, rfl, rfl, rfl, rfl, rfl, rfl, rfl, rfl, rfl, rfl, rfl, rfl, rfl, rfl, rfl, rfl, rfl, rfl, rfl, rfl, rfl, rfl, rfl, rfl, rfl, rfl, rfl, rfl, rfl, rfl, rfl, rfl, trivial⟩, hS⟩ ?_)))
 clear hS hA
 rintro m a w36 ⟨i, rfl, hinv38, hA, hS⟩ K37 hK37
 have hi9 := hinv38
 refine wsk fun K39 hK39 => wsk fun K40 hK40 => wrl ?_
 iterate 2 refine sdo hA (qa rfl) fun a hA => ?_
 refine sdo hA (zb Tryz.underlying23 rfl) fun a hA => ?_
 rcases tf (decide (((i : Nat) : Int) < ((cn : Nat) : Int))) with hb41 | hb41
 ·
  have hb41' := of_decide_eq_true hb41
  refine sdo (v := .bool true) hA (qg rfl rfl (fun w => (zi w).trans (by rw [hb41]))) fun a hA => ?_
  refine qe (hK40 _ _ (wp_cond_true (hA.ev rfl) ?_))
  refine wp_skip (hK39 _ _ (wsk fun K42 hK42 => wp_block (wsk fun K43 hK43 => je (S := fun w1 => St w19 w1 [] [] []) (by kernel_rfl) ?_)))
  replace hS := hS.drew
  refine qk hA 0 rfl rfl rfl rfl hP hS (fun w1 hS => qa rfl) fun a hA => ?_
  refine qk hA 1 rfl rfl rfl rfl hP hS (fun w1 hS => qa rfl) fun a hA => ?_
  have hleny44 : ys3.length = cn := by have h9 := congrArg List.length hq8; rw [List.length_map] at h9; omega
  obtain ⟨y44, hy44⟩ : ∃ y, ys3[i]? = some y := ⟨ys3[i]'(by omega), List.getElem?_eq_getElem (by omega)⟩
  obtain ⟨by44, oy44, hoy44, hly44, hcy44⟩ := hRhN7n20.at_ hy44
  have hqy44 : qs[i]? = some y44.q := by rw [← hq8, List.getElem?_map, hy44]; rfl
  refine qk (v := .pointer (some ⟨by44, oy44 + i * 6, none⟩)) hA 2 rfl rfl rfl rfl hP hS (fun w1 hS => qdg (k := i) Tryz.underlying23 (by kernel_rfl) rfl rfl rfl hoy44 (show i < cn by omega)) fun a hA => ?_
  refine qk (v := .agg #[.bool y44.q.b1, .slice y44.o1 y44.q.t1.length y44.c1, .slice y44.o2 y44.q.q1.length y44.c2, .bool y44.q.b2, .slice y44.o3 y44.q.t2.length y44.c3, .slice y44.o4 y44.q.q2.length y44.c4]) hA 3 rfl rfl rfl rfl hP hS (fun w1 hS => ug (cs := Yn.cells y44) hS hly44 hcy44 GvR_isS_36 rfl rfl) fun a hA => ?_
  refine qk hA 4 rfl rfl rfl rfl hP hS (fun w1 hS => qa rfl) fun a hA => ?_
  refine qk hA 5 rfl rfl rfl rfl hP hS (fun w1 hS => qa rfl) fun a hA => ?_
  have hleny45 : ys13.length = cn := by have h9 := congrArg List.length hq18; rw [List.length_map] at h9; omega
  obtain ⟨y45, hy45⟩ : ∃ y, ys13[i]? = some y := ⟨ys13[i]'(by omega), List.getElem?_eq_getElem (by omega)⟩
  obtain ⟨by45, oy45, hoy45, hly45, hcy45⟩ := hRhN17.at_ hy45
  have hqy45 : qs[i]? = some y45.q := by rw [← hq18, List.getElem?_map, hy45]; rfl
  refine qk (v := .pointer (some ⟨by45, oy45 + i * 6, none⟩)) hA 6 rfl rfl rfl rfl hP hS (fun w1 hS => qdg (k := i) Tryz.underlying23 (by kernel_rfl) rfl rfl rfl hoy45 (show i < cn by omega)) fun a hA => ?_
  refine qk (v := .agg #[.bool y45.q.b1, .slice y45.o1 y45.q.t1.length y45.c1, .slice y45.o2 y45.q.q1.length y45.c2, .bool y45.q.b2, .slice y45.o3 y45.q.t2.length y45.c3, .slice y45.o4 y45.q.q2.length y45.c4]) hA 7 rfl rfl rfl rfl hP hS (fun w1 hS => ug (cs := Yn.cells y45) hS hly45 hcy45 GvR_isS_36 rfl rfl) fun a hA => ?_
  refine qt (by kernel_rfl) (zm hA 8 rfl rfl rfl rfl (qf  rfl rfl (fun w => by kernel_rfl)) (zfj (y := y44) (z := y45) (by have h9 := hqy44.symm.trans hqy45; injection h9) (G.xa (hN7n20 y44 (List.mem_of_getElem? hy44)) hS.bel) (G.xa (hN17 y45 (List.mem_of_getElem? hy45)) hS.bel) (hLq _ (List.mem_of_getElem? hqy44))) ?_)
  rintro _ w47 ⟨rfl, hb46⟩
  replace hS := hS.call hb46
  refine ⟨_, rfl, hS, ?_⟩
  intro a hA
  refine qk (v := .bool false) hA 9 rfl rfl rfl rfl hP hS (fun w1 hS => zp rfl zu) fun a hA => ?_
  refine zn (by kernel_rfl) ?_
  refine hK43 _ _ (wp_cond_false (hA.ev rfl) ?_)
  refine wp_skip (hK42 _ _ (wrl (sdo hA (qa rfl) fun a hA => ?_)))
  refine sdo (v := .int .i64 (((i + 1 : Nat) : Int))) hA (qg rfl rfl (fun w => (jp (ji (by omega) (by omega)) w).trans (by rw [show (((i : Nat) : Int) + 1 : Int) = ((i + 1 : Nat) : Int) from by omega]))) fun a hA => ?_
  refine sdo hA (qb rfl) fun a hA => ?_
  refine qe ?_
  refine hK37 _ _ _ (by omega) ⟨i + 1, rfl, (by omega), hA.keep _ ⟨rfl, rfl, rfl, rfl, rfl, rfl, rfl, rfl, rfl, rfl, rfl, rfl, rfl, rfl, rfl, rfl, rfl, rfl, rfl, rfl, rfl, rfl, rfl, rfl, rfl, rfl, rfl, rfl, rfl, rfl, rfl, rfl, rfl, rfl, rfl, rfl, rfl, rfl, rfl, rfl, rfl, rfl, rfl, rfl, rfl, rfl, rfl, rfl, rfl, rfl, rfl, rfl, rfl, rfl, rfl, rfl, rfl, rfl, rfl, rfl, rfl, rfl, rfl, rfl, rfl, rfl, rfl, rfl, rfl, rfl, rfl, trivial⟩, hS⟩
 ·
  have hb41' := of_decide_eq_false hb41
  refine sdo (v := .bool false) hA (qg rfl rfl (fun w => (zi w).trans (by rw [hb41]))) fun a hA => ?_
  refine qe (hK40 _ _ (wp_cond_false (hA.ev rfl) ?_))
  refine wp_exit (hK34 _ _ (wsk fun K48 hK48 => wsk fun K49 hK49 => wrl (sdo hA (qa rfl) fun a hA => ?_)))
  refine sdo (v := .bool false) hA (qg rfl rfl (fun w => by kernel_rfl)) fun a hA => ?_
  iterate 2 refine sdo hA (qa rfl) fun a hA => ?_
  refine sdo hA (zb Tryz.underlying22 rfl) fun a hA => ?_
  rcases tf (decide (65536 < ((l.length : Nat) : Int))) with hb50 | hb50
  ·
   have hb50' := of_decide_eq_true hb50
   refine sdo (v := .bool true) hA (qg rfl rfl (fun w => (ja w).trans (by rw [hb50]))) fun a hA => ?_
   refine sdo (v := .bool true) hA (qj rfl rfl rfl rfl) fun a hA => ?_
   refine qe (hK49 _ _ (wp_cond_true (hA.ev rfl) ?_))
   refine wsk fun K51 hK51 => wrl (sdo hA (qb rfl) fun a hA => ?_)
   refine qe (hK51 _ _ (wp_ret (hret _ _ (en1 hA rfl (ql rfl) ?_))))
   exact ⟨rfl, chain2 hWz21 hS.bel⟩
  ·
   have hb50' := of_decide_eq_false hb50
   refine sdo (v := .bool false) hA (qg rfl rfl (fun w => (ja w).trans (by rw [hb50]))) fun a hA => ?_
   refine sdo (v := .bool false) hA (qj rfl rfl rfl rfl) fun a hA => ?_
   refine qe (hK49 _ _ (wp_cond_false (hA.ev rfl) ?_))
   refine wp_skip (hK48 _ _ (wsk fun K52 hK52 => wrl ?_))
   iterate 4 refine sdo hA (qa rfl) fun a hA => ?_
   refine qi hA rfl rfl rfl (qf  rfl rfl (fun w => by kernel_rfl)) (hO3 (by omega) _ _ _ _ (chain2 hWz21 hS.bel) (hRhN7n20.below hS.bel) (hN7n20.below hS.bel) hcg4 hq8) ?_
   rintro _ w57 ⟨v53, rfl, hM56⟩
   obtain ⟨so54, ca55, rfl⟩ := G.vu (hM56.has 0 rfl)
   replace hS := hS.call hM56.bel
   refine ⟨_, rfl, ?_⟩
   intro a hA
   have hRhN7n20n58 := hRhN7n20.below hS.bel
   have hN7n20n58 := hN7n20.below hS.bel
   have hRhN17n58 := hRhN17.below hS.bel
   have hN17n58 := hN17.below hS.bel
   have hWz59 : Below w.heap.size w w57 := chain2 hWz21 hS.bel
   have hbz11z21z59 := hbz11z21.below hS.bel
   have hRz59 : G.Rb w57 so54 l := (G.vl (bs := l) hM56 0 rfl).1
   have hRcz59 := G.ko hM56 0 rfl
   clear hS
   have hS : St w57 w57 [] [] [] := St.start w57
   refine sdo hA (qa rfl) fun a hA => ?_
   iterate 2 refine sdo hA (qz (vs := [.slice so54 l.length ca55, .int .i64 0]) rfl rfl) fun a hA => ?_
   iterate 2 refine sdo hA (qb rfl) fun a hA => ?_
   refine qe (hK52 _ _ (wsk fun K60 hK60 => wrl (sdo hA (qa rfl) fun a hA => ?_)))
   refine sdo (v := .bool true) hA (qg rfl rfl (fun w => by kernel_rfl)) fun a hA => ?_
   iterate 3 refine sdo hA (qa rfl) fun a hA => ?_
   refine qi hA rfl rfl rfl (qf  rfl rfl (fun w => by kernel_rfl)) (G.qae (xs := l) (ys := l) (b := true) (hRz59.below hS.bel) (hbz11z21z59.below hS.bel) hl (decide_eq_true rfl)) ?_
   rintro _ w62 ⟨rfl, hb61⟩
   replace hS := hS.call hb61
   refine ⟨_, rfl, ?_⟩
   intro a hA
   refine sdo (v := .bool true) hA (qj rfl rfl rfl rfl) fun a hA => ?_
   refine sdo hA (qb rfl) fun a hA => ?_
   refine qe (hK60 _ _ (wp_ret (hret _ _ (en1 hA rfl (ql rfl) ?_))))
   exact ⟨rfl, chain2 hWz59 hS.bel⟩
set_option maxHeartbeats 1000000 in
theorem zgi {w : World} {so : Option Addr} {ca : Nat} {l : List UInt8} (hb : G.Rb w so l) (hca : l.length ≤ ca) (hl : l.length ≤ 140737488351232) {qo : Option Addr} {ml qc : Nat} (hml : ml ≤ 1048576) {size : Int} (hsize0 : -9223372036854775808 ≤ size) (hsize1 : size ≤ 9223372036854775807) (bg sg : Bool) {cn : Nat} {qs : List Q6} (hqs : qs.length = cn) (hcn : cn ≤ 1048576) (hLq : ∀ q ∈ qs, LenQ q) (hL : ∀ W, Below w.heap.size w W → Calls Tryz.prog 4 #[.slice so l.length ca, .int .i64 size, .bool bg, .bool sg] W (fun e w' => ∃ ys g cap, e = .returned (.tuple #[.slice (some ⟨g, 0, none⟩) cn cap, .int .i64 0]) ∧ G.Mg W w' [.row 36 6 (.slice (some ⟨g, 0, none⟩) cn cap) cn (yC ys)] ∧ NL w' ys ∧ ys.map Yn.q = qs)) (hLr : ∀ W, Below w.heap.size w W → Calls Tryz.prog 5 #[.slice so l.length ca, .int .i64 size, .bool bg, .bool sg] W (fun e w' => ∃ ys g cap, e = .returned (.tuple #[.slice (some ⟨g, 0, none⟩) cn cap, .int .i64 0]) ∧ G.Mg W w' [.row 36 6 (.slice (some ⟨g, 0, none⟩) cn cap) cn (yC ys)] ∧ NL w' ys ∧ ys.map Yn.q = qs)) (hO3 : l.length ≤ 65536 → ∀ W so' ca' ys, Below w.heap.size w W → Rn W so' ys → NL W ys → cn ≤ ca' → ys.map Yn.q = qs → Calls Tryz.prog 6 #[.slice so' cn ca', .int .i64 size, .bool bg, .bool sg] W (fun e w' => ∃ v, e = .returned (.tuple #[v, .int .i64 0]) ∧ G.Mg W w' [.row G.BY 1 v l.length (Lib.byteCells l)])) {r : List UInt8} (hr : r.length ≤ 140737488351232) (hO : ∀ W, Below w.heap.size w W → Calls Tryz.prog 6 #[.slice qo ml qc, .int .i64 size, .bool bg, .bool sg] W (fun e w' => ∃ v, e = .returned (.tuple #[v, .int .i64 0]) ∧ G.Mg W w' [.row G.BY 1 v r.length (Lib.byteCells r)])) (hOr : ∀ W, Below w.heap.size w W → Calls Tryz.prog 7 #[.slice qo ml qc, .int .i64 size, .bool bg, .bool sg] W (fun e w' => ∃ v, e = .returned (.tuple #[v, .int .i64 0]) ∧ G.Mg W w' [.row G.BY 1 v r.length (Lib.byteCells r)])) : Calls Tryz.prog 3 #[.slice so l.length ca, .slice qo ml qc, .int .i64 size, .bool bg, .bool sg] w fun e w' => e = .returned (.bool true) ∧ Below w.heap.size w w' := by
 have hS : St w w [] [] [] := St.start w
 refine za (l := [(0, .slice so l.length ca), (1, .slice qo ml qc), (2, .int .i64 size), (3, .bool bg), (4, .bool sg)]) Tryz.func3 rfl Tryz.ntmps3 rfl rfl ?_
 intro Q hret hnorm hP a hA
 refine wsk fun K1 hK1 => wrl (sdo hA (qb rfl) fun a hA => ?_)
 refine qe (hK1 _ _ (wsk fun K2 hK2 => wrl ?_))
 iterate 4 refine sdo hA (qa rfl) fun a hA => ?_
 refine qi hA rfl rfl rfl (qf  rfl rfl (fun w => by kernel_rfl)) (hL _ hS.bel) ?_
 rintro _ w9 ⟨ys3, g4, cap5, rfl, hM6, hN7, hq8⟩
 replace hS := hS.call hM6.bel
 refine ⟨_, rfl, ?_⟩
 intro a hA
 have hRhN7 : Rn w9 (some ⟨g4, 0, none⟩) ys3 := qpb hM6 0 rfl
 have hcg4 := G.ko hM6 0 rfl
 have hWz11 : Below w.heap.size w w9 := hS.bel
 have hbz11 := hb.below hS.bel
 clear hS
 have hS : St w9 w9 [] [] [] := St.start w9
 refine sdo hA (qa rfl) fun a hA => ?_
 iterate 2 refine sdo hA (qz (vs := [.slice (some ⟨g4, 0, none⟩) cn cap5, .int .i64 0]) rfl rfl) fun a hA => ?_
 iterate 2 refine sdo hA (qb rfl) fun a hA => ?_
 refine qe (hK2 _ _ (wsk fun K12 hK12 => wrl ?_))
 iterate 4 refine sdo hA (qa rfl) fun a hA => ?_
 refine qi hA rfl rfl rfl (qf  rfl rfl (fun w => by kernel_rfl)) (hLr _ (chain2 hWz11 hS.bel)) ?_
 rintro _ w19 ⟨ys13, g14, cap15, rfl, hM16, hN17, hq18⟩
 replace hS := hS.call hM16.bel
 refine ⟨_, rfl, ?_⟩
 intro a hA
 have hRhN17 : Rn w19 (some ⟨g14, 0, none⟩) ys13 := qpb hM16 0 rfl
 have hcg14 := G.ko hM16 0 rfl
 have hRhN7n20 := hRhN7.below hS.bel
 have hN7n20 := hN7.below hS.bel
 have hWz21 : Below w.heap.size w w19 := chain2 hWz11 hS.bel
 have hbz11z21 := hbz11.below hS.bel
 clear hS
 have hS : St w19 w19 [] [] [] := St.start w19
 refine sdo hA (qa rfl) fun a hA => ?_
 iterate 2 refine sdo hA (qz (vs := [.slice (some ⟨g14, 0, none⟩) cn cap15, .int .i64 0]) rfl rfl) fun a hA => ?_
 iterate 2 refine sdo hA (qb rfl) fun a hA => ?_
 refine qe (hK12 _ _ (wsk fun K22 hK22 => wrl ?_))
 iterate 4 refine sdo hA (qa rfl) fun a hA => ?_
 refine qi hA rfl rfl rfl (qf  rfl rfl (fun w => by kernel_rfl)) (hO _ (chain2 hWz21 hS.bel)) ?_
 rintro _ w27 ⟨v23, rfl, hM26⟩
 obtain ⟨so24, ca25, rfl⟩ := G.vu (hM26.has 0 rfl)
 replace hS := hS.call hM26.bel
 refine ⟨_, rfl, ?_⟩
 intro a hA
 have hRhN7n20n28 := hRhN7n20.below hS.bel
 have hN7n20n28 := hN7n20.below hS.bel
 have hRhN17n28 := hRhN17.below hS.bel
 have hN17n28 := hN17.below hS.bel
 have hWz29 : Below w.heap.size w w27 := chain2 hWz21 hS.bel
 have hbz11z21z29 := hbz11z21.below hS.bel
 have hRz29 : G.Rb w27 so24 r := (G.vl (bs := r) hM26 0 rfl).1
 have hRcz29 := G.ko hM26 0 rfl
 clear hS
 have hS : St w27 w27 [] [] [] := St.start w27
 refine sdo hA (qa rfl) fun a hA => ?_
 iterate 2 refine sdo hA (qz (vs := [.slice so24 r.length ca25, .int .i64 0]) rfl rfl) fun a hA => ?_
 iterate 2 refine sdo hA (qb rfl) fun a hA => ?_
 refine qe (hK22 _ _ (wsk fun K30 hK30 => wrl ?_))
 iterate 4 refine sdo hA (qa rfl) fun a hA => ?_
 refine qi hA rfl rfl rfl (qf  rfl rfl (fun w => by kernel_rfl)) (hOr _ (chain2 hWz29 hS.bel)) ?_
 rintro _ w35 ⟨v31, rfl, hM34⟩
 obtain ⟨so32, ca33, rfl⟩ := G.vu (hM34.has 0 rfl)
 replace hS := hS.call hM34.bel
 refine ⟨_, rfl, ?_⟩
 intro a hA
 have hRhN7n20n28n36 := hRhN7n20n28.below hS.bel
 have hN7n20n28n36 := hN7n20n28.below hS.bel
 have hRhN17n28n36 := hRhN17n28.below hS.bel
 have hN17n28n36 := hN17n28.below hS.bel
 have hWz37 : Below w.heap.size w w35 := chain2 hWz29 hS.bel
 have hbz11z21z29z37 := hbz11z21z29.below hS.bel
 have hRz29z37 := hRz29.below hS.bel
 have hRz37 : G.Rb w35 so32 r := (G.vl (bs := r) hM34 0 rfl).1
 have hRcz37 := G.ko hM34 0 rfl
 clear hS
 have hS : St w35 w35 [] [] [] := St.start w35
 refine sdo hA (qa rfl) fun a hA => ?_
 iterate 2 refine sdo hA (qz (vs := [.slice so32 r.length ca33, .int .i64 0]) rfl rfl) fun a hA => ?_
 iterate 2 refine sdo hA (qb rfl) fun a hA => ?_
 refine qe (hK30 _ _ (wsk fun K38 hK38 => wsk fun K39 hK39 => wrl (qi hA rfl rfl rfl (qf  rfl rfl (fun w => by kernel_rfl)) (uh) ?_)))
 rintro _ w41 ⟨rfl, hb40⟩
 replace hS := hS.call hb40
 refine ⟨_, rfl, ?_⟩
 intro a hA
 refine sdo (v := .bool false) hA (zp rfl zu) fun a hA => ?_
 iterate 2 refine sdo hA (qa rfl) fun a hA => ?_
 refine sdo hA (zb Tryz.underlying23 rfl) fun a hA => ?_
 refine sdo hA (qa rfl) fun a hA => ?_
 refine sdo hA (zb Tryz.underlying23 rfl) fun a hA => ?_
 refine sdo (v := .bool false) hA (qg rfl rfl (fun w => (jm w).trans (by rw [show ((((cn : Nat) : Int) != ((cn : Nat) : Int))) = false from (bne_self_eq_false _)]))) fun a hA => ?_
 refine sdo (v := .bool false) hA (qj rfl rfl rfl rfl) fun a hA => ?_
 iterate 3 refine sdo hA (qa rfl) fun a hA => ?_
 refine sdo (v := .bool false) hA (qg rfl rfl (fun w => by kernel_rfl)) fun a hA => ?_
 refine sdo (v := .bool false) hA (qj rfl rfl rfl rfl) fun a hA => ?_
 iterate 3 refine sdo hA (qa rfl) fun a hA => ?_
 refine qi hA rfl rfl rfl (qf  rfl rfl (fun w => by kernel_rfl)) (G.qae (xs := r) (ys := r) (b := true) (hRz29z37.below hS.bel) (hRz37.below hS.bel) hr (decide_eq_true rfl)) ?_
 rintro _ w43 ⟨rfl, hb42⟩
 replace hS := hS.call hb42
 refine ⟨_, rfl, ?_⟩
 intro a hA
 refine sdo (v := .bool false) hA (zp rfl zu) fun a hA => ?_
 refine sdo (v := .bool false) hA (qj rfl rfl rfl rfl) fun a hA => ?_
 iterate 3 refine sdo hA (qa rfl) fun a hA => ?_
 refine sdo (v := .bool false) hA (qg rfl rfl (fun w => by kernel_rfl)) fun a hA => ?_
 refine sdo (v := .bool false) hA (qj rfl rfl rfl rfl) fun a hA => ?_
 refine qe (hK39 _ _ (wp_cond_false (hA.ev rfl) ?_))
 refine wp_skip (hK38 _ _ (wsk fun K44 hK44 => wsk fun K45 hK45 => wrl (sdo hA (qb rfl) fun a hA => ?_)))
 refine qe (hK45 _ _ (wp_block (jb (fun m a w1 => ∃ (i : Nat), m = 1 + (cn - i) ∧ (i ≤ cn) ∧ Sl a 116 [(0, .slice so l.length ca), (1, .slice qo ml qc), (2, .int .i64 size), (3, .bool bg), (4, .bool sg), (11, .slice (some ⟨g4, 0, none⟩) cn cap5), (12, .int .i64 0), (13, .slice (some ⟨g14, 0, none⟩) cn cap15), (14, .int .i64 0), (15, .slice so24 r.length ca25), (16, .int .i64 0), (17, .slice so32 r.length ca33), (18, .int .i64 0), (19, .int .i64 (((i : Nat) : Int))), (21, .tuple #[.slice (some ⟨g4, 0, none⟩) cn cap5, .int .i64 0]), (22, .slice so l.length ca), (23, .int .i64 size), (24, .bool bg), (25, .bool sg), (26, .tuple #[.slice (some ⟨g4, 0, none⟩) cn cap5, .int .i64 0]), (27, .slice (some ⟨g4, 0, none⟩) cn cap5), (28, .int .i64 0), (29, .tuple #[.slice (some ⟨g14, 0, none⟩) cn cap15, .int .i64 0]), (30, .slice so l.length ca), (31, .int .i64 size), (32, .bool bg), (33, .bool sg), (34, .tuple #[.slice (some ⟨g14, 0, none⟩) cn cap15, .int .i64 0]), (35, .slice (some ⟨g14, 0, none⟩) cn cap15), (36, .int .i64 0), (37, .tuple #[.slice so24 r.length ca25, .int .i64 0]), (38, .slice qo ml qc), (39, .int .i64 size), (40, .bool bg), (41, .bool sg), (42, .tuple #[.slice so24 r.length ca25, .int .i64 0]), (43, .slice so24 r.length ca25), (44, .int .i64 0), (45, .tuple #[.slice so32 r.length ca33, .int .i64 0]), (46, .slice qo ml qc), (47, .int .i64 size), (48, .bool bg), (49, .bool sg), (50, .tuple #[.slice so32 r.length ca33, .int .i64 0]), (51, .slice so32 r.length ca33), (52, .int .i64 0), (53, .bool true), (54, .bool false), (55, .bool false), (56, .slice (some ⟨g4, 0, none⟩) cn cap5), (57, .int .i64 (((cn : Nat) : Int))), (58, .slice (some ⟨g14, 0, none⟩) cn cap15), (59, .int .i64 (((cn : Nat) : Int))), (60, .bool false), (61, .bool false), (62, .bool false), (63, .int .i64 0), (64, .int .i64 0), (65, .bool false), (66, .bool false), (67, .bool false), (68, .slice so24 r.length ca25), (69, .slice so32 r.length ca33), (70, .bool true), (71, .bool false), (72, .bool false), (73, .bool false), (74, .int .i64 0), (75, .int .i64 0), (76, .bool false), (77, .bool false)] ∧ St w35 w1 [] [] []) _ ⟨0, rfl, Nat.zero_le _, hA.keep _ ⟨rfl, rfl, rfl, rfl, rfl, rfl, rfl, rfl, rfl, rfl, rfl, rfl, rfl, rfl, rfl, rfl, rfl, rfl, rfl, rfl, rfl, rfl, rfl, rfl, rfl, rfl, rfl, rfl, rfl, rfl, rfl, rfl, rfl, rfl, rfl, rfl, rfl, rfl, rfl, rfl, rfl, rfl, rfl, rfl, rfl, rfl, rfl, rfl, rfl, rfl, rfl, rfl, rfl, rfl, rfl, rfl, rfl, rfl, rfl, rfl, rfl, rfl, rfl, rfl, rfl, rfl, rfl, rfl, rfl, rfl, rfl, trivial⟩, hS⟩ ?_)))
 clear hS hA
 rintro m a w46 ⟨i, rfl, hinv48, hA, hS⟩ K47 hK47
 have hi9 := hinv48
 refine wsk fun K49 hK49 => wsk fun K50 hK50 => wrl ?_
 iterate 2 refine sdo hA (qa rfl) fun a hA => ?_
 refine sdo hA (zb Tryz.underlying23 rfl) fun a hA => ?_
 rcases tf (decide (((i : Nat) : Int) < ((cn : Nat) : Int))) with hb51 | hb51
 ·
  have hb51' := of_decide_eq_true hb51
  refine sdo (v := .bool true) hA (qg rfl rfl (fun w => (zi w).trans (by rw [hb51]))) fun a hA => ?_
  refine qe (hK50 _ _ (wp_cond_true (hA.ev rfl) ?_))
  refine wp_skip (hK49 _ _ (wsk fun K52 hK52 => wp_block (wsk fun K53 hK53 => je (S := fun w1 => St w35 w1 [] [] []) (by kernel_rfl) ?_)))
  replace hS := hS.drew
  refine qk hA 0 rfl rfl rfl rfl hP hS (fun w1 hS => qa rfl) fun a hA => ?_
  refine qk hA 1 rfl rfl rfl rfl hP hS (fun w1 hS => qa rfl) fun a hA => ?_
  have hleny54 : ys3.length = cn := by have h9 := congrArg List.length hq8; rw [List.length_map] at h9; omega
  obtain ⟨y54, hy54⟩ : ∃ y, ys3[i]? = some y := ⟨ys3[i]'(by omega), List.getElem?_eq_getElem (by omega)⟩
  obtain ⟨by54, oy54, hoy54, hly54, hcy54⟩ := hRhN7n20n28n36.at_ hy54
  have hqy54 : qs[i]? = some y54.q := by rw [← hq8, List.getElem?_map, hy54]; rfl
  refine qk (v := .pointer (some ⟨by54, oy54 + i * 6, none⟩)) hA 2 rfl rfl rfl rfl hP hS (fun w1 hS => qdg (k := i) Tryz.underlying23 (by kernel_rfl) rfl rfl rfl hoy54 (show i < cn by omega)) fun a hA => ?_
  refine qk (v := .agg #[.bool y54.q.b1, .slice y54.o1 y54.q.t1.length y54.c1, .slice y54.o2 y54.q.q1.length y54.c2, .bool y54.q.b2, .slice y54.o3 y54.q.t2.length y54.c3, .slice y54.o4 y54.q.q2.length y54.c4]) hA 3 rfl rfl rfl rfl hP hS (fun w1 hS => ug (cs := Yn.cells y54) hS hly54 hcy54 GvR_isS_36 rfl rfl) fun a hA => ?_
  refine qk hA 4 rfl rfl rfl rfl hP hS (fun w1 hS => qa rfl) fun a hA => ?_
  refine qk hA 5 rfl rfl rfl rfl hP hS (fun w1 hS => qa rfl) fun a hA => ?_
  have hleny55 : ys13.length = cn := by have h9 := congrArg List.length hq18; rw [List.length_map] at h9; omega
  obtain ⟨y55, hy55⟩ : ∃ y, ys13[i]? = some y := ⟨ys13[i]'(by omega), List.getElem?_eq_getElem (by omega)⟩
  obtain ⟨by55, oy55, hoy55, hly55, hcy55⟩ := hRhN17n28n36.at_ hy55
  have hqy55 : qs[i]? = some y55.q := by rw [← hq18, List.getElem?_map, hy55]; rfl
  refine qk (v := .pointer (some ⟨by55, oy55 + i * 6, none⟩)) hA 6 rfl rfl rfl rfl hP hS (fun w1 hS => qdg (k := i) Tryz.underlying23 (by kernel_rfl) rfl rfl rfl hoy55 (show i < cn by omega)) fun a hA => ?_
  refine qk (v := .agg #[.bool y55.q.b1, .slice y55.o1 y55.q.t1.length y55.c1, .slice y55.o2 y55.q.q1.length y55.c2, .bool y55.q.b2, .slice y55.o3 y55.q.t2.length y55.c3, .slice y55.o4 y55.q.q2.length y55.c4]) hA 7 rfl rfl rfl rfl hP hS (fun w1 hS => ug (cs := Yn.cells y55) hS hly55 hcy55 GvR_isS_36 rfl rfl) fun a hA => ?_
  refine qt (by kernel_rfl) (zm hA 8 rfl rfl rfl rfl (qf  rfl rfl (fun w => by kernel_rfl)) (zfj (y := y54) (z := y55) (by have h9 := hqy54.symm.trans hqy55; injection h9) (G.xa (hN7n20n28n36 y54 (List.mem_of_getElem? hy54)) hS.bel) (G.xa (hN17n28n36 y55 (List.mem_of_getElem? hy55)) hS.bel) (hLq _ (List.mem_of_getElem? hqy54))) ?_)
  rintro _ w57 ⟨rfl, hb56⟩
  replace hS := hS.call hb56
  refine ⟨_, rfl, hS, ?_⟩
  intro a hA
  refine qk (v := .bool false) hA 9 rfl rfl rfl rfl hP hS (fun w1 hS => zp rfl zu) fun a hA => ?_
  refine zn (by kernel_rfl) ?_
  refine hK53 _ _ (wp_cond_false (hA.ev rfl) ?_)
  refine wp_skip (hK52 _ _ (wrl (sdo hA (qa rfl) fun a hA => ?_)))
  refine sdo (v := .int .i64 (((i + 1 : Nat) : Int))) hA (qg rfl rfl (fun w => (jp (ji (by omega) (by omega)) w).trans (by rw [show (((i : Nat) : Int) + 1 : Int) = ((i + 1 : Nat) : Int) from by omega]))) fun a hA => ?_
  refine sdo hA (qb rfl) fun a hA => ?_
  refine qe ?_
  refine hK47 _ _ _ (by omega) ⟨i + 1, rfl, (by omega), hA.keep _ ⟨rfl, rfl, rfl, rfl, rfl, rfl, rfl, rfl, rfl, rfl, rfl, rfl, rfl, rfl, rfl, rfl, rfl, rfl, rfl, rfl, rfl, rfl, rfl, rfl, rfl, rfl, rfl, rfl, rfl, rfl, rfl, rfl, rfl, rfl, rfl, rfl, rfl, rfl, rfl, rfl, rfl, rfl, rfl, rfl, rfl, rfl, rfl, rfl, rfl, rfl, rfl, rfl, rfl, rfl, rfl, rfl, rfl, rfl, rfl, rfl, rfl, rfl, rfl, rfl, rfl, rfl, rfl, rfl, rfl, rfl, rfl, trivial⟩, hS⟩
 ·
  have hb51' := of_decide_eq_false hb51
  refine sdo (v := .bool false) hA (qg rfl rfl (fun w => (zi w).trans (by rw [hb51]))) fun a hA => ?_
  refine qe (hK50 _ _ (wp_cond_false (hA.ev rfl) ?_))
  refine wp_exit (hK44 _ _ (wsk fun K58 hK58 => wsk fun K59 hK59 => wrl (sdo hA (qa rfl) fun a hA => ?_)))
  refine sdo (v := .bool false) hA (qg rfl rfl (fun w => by kernel_rfl)) fun a hA => ?_
  iterate 2 refine sdo hA (qa rfl) fun a hA => ?_
  refine sdo hA (zb Tryz.underlying22 rfl) fun a hA => ?_
  rcases tf (decide (65536 < ((l.length : Nat) : Int))) with hb60 | hb60
  ·
   have hb60' := of_decide_eq_true hb60
   refine sdo (v := .bool true) hA (qg rfl rfl (fun w => (ja w).trans (by rw [hb60]))) fun a hA => ?_
   refine sdo (v := .bool true) hA (qj rfl rfl rfl rfl) fun a hA => ?_
   refine qe (hK59 _ _ (wp_cond_true (hA.ev rfl) ?_))
   refine wsk fun K61 hK61 => wrl (sdo hA (qb rfl) fun a hA => ?_)
   refine qe (hK61 _ _ (wp_ret (hret _ _ (en1 hA rfl (ql rfl) ?_))))
   exact ⟨rfl, chain2 hWz37 hS.bel⟩
  ·
   have hb60' := of_decide_eq_false hb60
   refine sdo (v := .bool false) hA (qg rfl rfl (fun w => (ja w).trans (by rw [hb60]))) fun a hA => ?_
   refine sdo (v := .bool false) hA (qj rfl rfl rfl rfl) fun a hA => ?_
   refine qe (hK59 _ _ (wp_cond_false (hA.ev rfl) ?_))
   refine wp_skip (hK58 _ _ (wsk fun K62 hK62 => wrl ?_))
   iterate 4 refine sdo hA (qa rfl) fun a hA => ?_
   refine qi hA rfl rfl rfl (qf  rfl rfl (fun w => by kernel_rfl)) (hO3 (by omega) _ _ _ _ (chain2 hWz37 hS.bel) (hRhN7n20n28n36.below hS.bel) (hN7n20n28n36.below hS.bel) hcg4 hq8) ?_
   rintro _ w67 ⟨v63, rfl, hM66⟩
   obtain ⟨so64, ca65, rfl⟩ := G.vu (hM66.has 0 rfl)
   replace hS := hS.call hM66.bel
   refine ⟨_, rfl, ?_⟩
   intro a hA
   have hRhN7n20n28n36n68 := hRhN7n20n28n36.below hS.bel
   have hN7n20n28n36n68 := hN7n20n28n36.below hS.bel
   have hRhN17n28n36n68 := hRhN17n28n36.below hS.bel
   have hN17n28n36n68 := hN17n28n36.below hS.bel
   have hWz69 : Below w.heap.size w w67 := chain2 hWz37 hS.bel
   have hbz11z21z29z37z69 := hbz11z21z29z37.below hS.bel
   have hRz29z37z69 := hRz29z37.below hS.bel
   have hRz37z69 := hRz37.below hS.bel
   have hRz69 : G.Rb w67 so64 l := (G.vl (bs := l) hM66 0 rfl).1
   have hRcz69 := G.ko hM66 0 rfl
   clear hS
   have hS : St w67 w67 [] [] [] := St.start w67
   refine sdo hA (qa rfl) fun a hA => ?_
   iterate 2 refine sdo hA (qz (vs := [.slice so64 l.length ca65, .int .i64 0]) rfl rfl) fun a hA => ?_
   iterate 2 refine sdo hA (qb rfl) fun a hA => ?_
   refine qe (hK62 _ _ (wsk fun K70 hK70 => wrl (sdo hA (qa rfl) fun a hA => ?_)))
   refine sdo (v := .bool true) hA (qg rfl rfl (fun w => by kernel_rfl)) fun a hA => ?_
   iterate 3 refine sdo hA (qa rfl) fun a hA => ?_
   refine qi hA rfl rfl rfl (qf  rfl rfl (fun w => by kernel_rfl)) (G.qae (xs := l) (ys := l) (b := true) (hRz69.below hS.bel) (hbz11z21z29z37z69.below hS.bel) hl (decide_eq_true rfl)) ?_
   rintro _ w72 ⟨rfl, hb71⟩
   replace hS := hS.call hb71
   refine ⟨_, rfl, ?_⟩
   intro a hA
   refine sdo (v := .bool true) hA (qj rfl rfl rfl rfl) fun a hA => ?_
   refine sdo hA (qb rfl) fun a hA => ?_
   refine qe (hK70 _ _ (wp_ret (hret _ _ (en1 hA rfl (ql rfl) ?_))))
   exact ⟨rfl, chain2 hWz69 hS.bel⟩
end Go.Proofs.YtbhdnpbbmpemnaaGreatDoor
namespace Go.Proofs.YtbhdnpbbmpemnaaGreatDoor
open Go.RowKit
set_option linter.unusedVariables false
set_option linter.unusedSimpArgs false
set_option maxRecDepth 100000

theorem zla (n : Nat) (bg sg : Bool) (q : Q6) : (xv n bg sg q).1.length ≤ n := by
 unfold xv
 split
 ·
  rename_i h
  exact Nat.le_of_eq h.choose_spec.1
 ·
  exact Nat.zero_le _
theorem qxg (n : Nat) (bg sg : Bool) : ∀ qs : List Q6, (ofQ n bg sg qs).1.length ≤ qs.length * n
 | [] => Nat.zero_le _
 | q :: qs => by
  have ih := qxg n bg sg qs
  have h1 := zla n bg sg q
  unfold ofQ
  rw [List.length_cons, Nat.add_mul, Nat.one_mul]
  split
  ·
   split
   ·
    show ((xv n bg sg q).1 ++ (ofQ n bg sg qs).1).length ≤ _
    rw [List.length_append]
    omega
   ·
    exact Nat.zero_le _
  ·
   exact Nat.zero_le _
theorem zae (bg sg : Bool) {p : List UInt8} (hp : p.length ≤ 64) : LenQ (G.jt bg sg p) := by
 unfold G.jt
 have hlt := G.yq (G.zw bg p)
 rw [G.xh] at hlt
 split
 ·
  exact jl (G.jx hp (Nat.sub_le _ _))
 ·
  exact jl (G.jx hp (Nat.le_of_lt hlt))
theorem qkd (bg sg : Bool) (l : List UInt8) (n k : Nat) : (kh bg sg l n k).length = k := by simp [kh]
theorem qfb {bg sg : Bool} {l : List UInt8} {n k : Nat} (h64 : n ≤ 64) : ∀ q ∈ kh bg sg l n k, LenQ q := by
 intro q hq
 unfold kh at hq
 obtain ⟨i, _, rfl⟩ := List.mem_map.1 hq
 exact zae bg sg (by unfold chk; rw [List.length_take]; omega)
theorem qtc (l : List UInt8) (n : Nat) : ∀ k, ((List.range k).map (chk l n)).flatten = l.take (k * n)
 | 0 => by simp
 | k + 1 => by
  rw [List.range_succ, List.map_append, List.flatten_append, qtc l n k, Nat.add_mul, Nat.one_mul, List.take_add]
  simp [chk]
theorem zlb {l : List UInt8} {n c i : Nat} (hc : l.length / n = c) (hi : i < c) : (chk l n i).length = n := by
 have := G.yv hc hi
 unfold chk
 rw [List.length_take, List.length_drop]
 omega
theorem zlc {bg sg : Bool} {l : List UInt8} {n c : Nat} (h1 : 1 ≤ n) (hc : l.length / n = c) (hrem : l.length % n = 0) : ofQ n bg sg (kh bg sg l n c) = (l, 0) := by
 have hlay : ∀ i, i < c → xv n bg sg (G.jt bg sg (chk l n i)) = (chk l n i, 0) := fun i hi => qoi h1 (zlb hc hi) rfl
 have hall : ∀ q ∈ kh bg sg l n c, qgd n bg sg q = true := by
  intro q hq
  unfold kh at hq
  obtain ⟨i, hi, rfl⟩ := List.mem_map.1 hq
  unfold qgd
  rw [hlay i (List.mem_range.1 hi)]
  rfl
 have hcl : c * n = l.length := by rw [← hc]; exact Nat.div_mul_cancel (Nat.dvd_of_mod_eq_zero hrem)
 rw [qdf hall]
 congr 1
 unfold bsF kh
 rw [List.map_map, show (List.range c).map ((fun q => (xv n bg sg q).1) ∘ fun i => G.jt bg sg (chk l n i)) = (List.range c).map (chk l n) from List.map_congr_left (fun i hi => by show (xv n bg sg (G.jt bg sg (chk l n i))).1 = _; rw [hlay i (List.mem_range.1 hi)]), qtc, hcl, List.take_length]
theorem znj {w : World} {qo : Option Addr} {qc : Nat} {zs : List Yn} (hRz : Rn w qo zs) (hNz : NL w zs) (hLz : ∀ y ∈ zs, LenQ y.q) (hqc : zs.length ≤ qc) (hzl : zs.length ≤ 1048576) {n : Nat} (h1 : 1 ≤ n) (h64 : n ≤ 64) (bg sg : Bool) :
  (∃ e2 : Int, e2 ≠ 0 ∧ (∀ W, Below w.heap.size w W → Calls Tryz.prog 6 #[.slice qo zs.length qc, .int .i64 ((n : Nat) : Int), .bool bg, .bool sg] W (fun e w' => e = .returned (.tuple #[.slice none 0 0, .int .i64 e2]) ∧ Below W.heap.size W w')) ∧ (∀ W, Below w.heap.size w W → Calls Tryz.prog 7 #[.slice qo zs.length qc, .int .i64 ((n : Nat) : Int), .bool bg, .bool sg] W (fun e w' => e = .returned (.tuple #[.slice none 0 0, .int .i64 e2]) ∧ Below W.heap.size W w'))) ∨ (∃ r : List UInt8, r = (ofQ n bg sg (zs.map Yn.q)).1 ∧ (ofQ n bg sg (zs.map Yn.q)).2 = 0 ∧ r.length ≤ 140737488351232 ∧ (∀ W, Below w.heap.size w W → Calls Tryz.prog 6 #[.slice qo zs.length qc, .int .i64 ((n : Nat) : Int), .bool bg, .bool sg] W (fun e w' => ∃ v, e = .returned (.tuple #[v, .int .i64 0]) ∧ G.Mg W w' [.row G.BY 1 v r.length (Lib.byteCells r)])) ∧ (∀ W, Below w.heap.size w W → Calls Tryz.prog 7 #[.slice qo zs.length qc, .int .i64 ((n : Nat) : Int), .bool bg, .bool sg] W (fun e w' => ∃ v, e = .returned (.tuple #[v, .int .i64 0]) ∧ G.Mg W w' [.row G.BY 1 v r.length (Lib.byteCells r)]))) := by
 by_cases hgt : 65536 / n < zs.length
 ·
  exact .inl ⟨4, by decide, fun W hW => G.zgf h1 h64 rfl hgt bg sg, fun W hW => G.zad h1 h64 rfl hgt bg sg⟩
 ·
  have hle : zs.length ≤ 65536 / n := by omega
  by_cases h0 : (ofQ n bg sg (zs.map Yn.q)).2 = 0
  ·
   refine .inr ⟨_, rfl, h0, ?_, fun W hW => ?_, fun W hW => ?_⟩
   ·
    have h9 := qxg n bg sg (zs.map Yn.q)
    rw [List.length_map] at h9
    have h8 := G.qpc hle rfl
    omega
   ·
    refine Calls.mono (G.zge (hRz.below hW) (hNz.below hW) hLz hqc hzl h1 h64 rfl bg sg hle) ?_
    rintro e w' (h | h)
    ·
     exact absurd h0 h.1
    ·
     exact h.2
   ·
    refine Calls.mono (G.zgd (hRz.below hW) (hNz.below hW) hLz hqc hzl h1 h64 rfl bg sg hle) ?_
    rintro e w' (h | h)
    ·
     exact absurd h0 h.1
    ·
     exact h.2
  ·
   refine .inl ⟨_, h0, fun W hW => ?_, fun W hW => ?_⟩
   ·
    refine Calls.mono (G.zge (hRz.below hW) (hNz.below hW) hLz hqc hzl h1 h64 rfl bg sg hle) ?_
    rintro e w' (h | h)
    ·
     exact h.2
    ·
     exact absurd h.1 h0
   ·
    refine Calls.mono (G.zgd (hRz.below hW) (hNz.below hW) hLz hqc hzl h1 h64 rfl bg sg hle) ?_
    rintro e w' (h | h)
    ·
     exact h.2
    ·
     exact absurd h.1 h0
theorem zaf {w : World} {so : Option Addr} {ca : Nat} {l : List UInt8} (hb : G.Rb w so l) (hca : l.length ≤ ca) (hl : l.length ≤ 1048576) {qo : Option Addr} {qc : Nat} {zs : List Yn} (hRz : Rn w qo zs) (hNz : NL w zs) (hLz : ∀ y ∈ zs, LenQ y.q) (hqc : zs.length ≤ qc) (hzl : zs.length ≤ 1048576) {size : Int} (hsize0 : -9223372036854775808 ≤ size) (hsize1 : size ≤ 9223372036854775807) (bg sg : Bool) : Calls Tryz.prog 3 #[.slice so l.length ca, .slice qo zs.length qc, .int .i64 size, .bool bg, .bool sg] w fun e w' => e = .returned (.bool true) ∧ Below w.heap.size w w' := by
 have hlb : l.length ≤ 140737488351232 := by omega
 cases hk : G.js size with
 | false =>
  have hno : ¬ (1 ≤ size ∧ size ≤ 64) := of_decide_eq_false hk
  by_cases hlo : size < 1
  ·
   exact qkc hb hca hlb hzl hsize0 hsize1 bg sg (e1 := 1) (by decide) (fun W hW => G.qxf hsize0 hsize1 bg sg hk) (fun W hW => G.zgb hsize0 hsize1 bg sg hlo) (e2 := 1) (by decide) (fun W hW => G.zli hsize0 hsize1 bg sg hk) (fun W hW => G.zng hsize0 hsize1 bg sg hlo)
  ·
   exact qkc hb hca hlb hzl hsize0 hsize1 bg sg (e1 := 1) (by decide) (fun W hW => G.qxf hsize0 hsize1 bg sg hk) (fun W hW => G.zgc hsize0 hsize1 bg sg (by omega)) (e2 := 1) (by decide) (fun W hW => G.zli hsize0 hsize1 bg sg hk) (fun W hW => G.znh hsize0 hsize1 bg sg (by omega))
 | true =>
  have k1 : 1 ≤ size ∧ size ≤ 64 := of_decide_eq_true hk
  obtain ⟨n, rfl⟩ := Int.eq_ofNat_of_zero_le (show 0 ≤ size by omega)
  have h1 : 1 ≤ n := by omega
  have h64 : n ≤ 64 := by omega
  have hout := znj hRz hNz hLz hqc hzl h1 h64 bg sg
  by_cases hrem : l.length % n = 0
  ·
   have hcl : l.length / n ≤ 1048576 := Nat.le_trans (Nat.div_le_self _ _) hl
   have hO3 : l.length ≤ 65536 → ∀ W so' ca' ys, Below w.heap.size w W → Rn W so' ys → NL W ys → l.length / n ≤ ca' → ys.map Yn.q = kh bg sg l n (l.length / n) → Calls Tryz.prog 6 #[.slice so' (l.length / n) ca', .int .i64 ((n : Nat) : Int), .bool bg, .bool sg] W (fun e w' => ∃ v, e = .returned (.tuple #[v, .int .i64 0]) ∧ G.Mg W w' [.row G.BY 1 v l.length (Lib.byteCells l)]) := by
    intro h65 W so' ca' ys hW hR hN hc hq
    have hyl : ys.length = l.length / n := by have h9 := congrArg List.length hq; rw [List.length_map, qkd] at h9; exact h9
    have hle : ys.length ≤ 65536 / n := by rw [hyl]; exact Nat.div_le_div_right h65
    have h := G.zge hR hN (fun y hy => qfb h64 y.q (by rw [← hq]; exact List.mem_map_of_mem hy)) (by rw [hyl]; exact hc) (by omega) h1 h64 rfl bg sg hle
    rw [hq, zlc h1 rfl hrem, hyl] at h
    refine Calls.mono h ?_
    rintro e w' (h | h)
    ·
     exact absurd rfl h.1
    ·
     exact h.2
   rcases hout with ⟨e2, he2, hO, hOr⟩ | ⟨r, _, _, hr, hO, hOr⟩
   ·
    exact zgh hb hca hlb hzl hsize0 hsize1 bg sg (qkd bg sg l n (l.length / n)) hcl (qfb h64) (fun W hW => G.qxe (hb.below hW) hca hl h1 h64 rfl bg sg hrem) (fun W hW => G.qta (hb.below hW) hca hl h1 h64 rfl bg sg hrem) hO3 he2 hO hOr
   ·
    exact zgi hb hca hlb hzl hsize0 hsize1 bg sg (qkd bg sg l n (l.length / n)) hcl (qfb h64) (fun W hW => G.qxe (hb.below hW) hca hl h1 h64 rfl bg sg hrem) (fun W hW => G.qta (hb.below hW) hca hl h1 h64 rfl bg sg hrem) hO3 hr hO hOr
  ·
   rcases hout with ⟨e2, he2, hO, hOr⟩ | ⟨r, _, _, hr, hO, hOr⟩
   ·
    exact qkc hb hca hlb hzl hsize0 hsize1 bg sg (e1 := 1) (by decide) (fun W hW => G.qtb (hb.below hW) hca hl h1 h64 rfl bg sg hrem) (fun W hW => G.qmf (hb.below hW) hca hl h1 h64 rfl bg sg hrem) he2 hO hOr
   ·
    exact zgg hb hca hlb hzl hsize0 hsize1 bg sg (e1 := 1) (by decide) (fun W hW => G.qtb (hb.below hW) hca hl h1 h64 rfl bg sg hrem) (fun W hW => G.qmf (hb.below hW) hca hl h1 h64 rfl bg sg hrem) hr hO hOr
end Go.Proofs.YtbhdnpbbmpemnaaGreatDoor
namespace Go.Proofs.YtbhdnpbbmpemnaaGreatDoor.G
open Go.ChangeShapes Go.WideShapes Go.ChangeAt Go.RowKit Go.Joins Go.Deep
set_option linter.unusedVariables false
set_option linter.unusedSimpArgs false
set_option maxRecDepth 100000

section
variable {H : Type} {enc : TypeId × Value → H} {W : World}
end
end Go.Proofs.YtbhdnpbbmpemnaaGreatDoor.G
namespace Go.Proofs.YtbhdnpbbmpemnaaGreatDoor.G
open Go.ChangeShapes Go.WideShapes Go.ChangeAt Go.RowKit Go.Joins Go.Deep
set_option linter.unusedVariables false
set_option linter.unusedSimpArgs false
set_option maxRecDepth 100000

theorem zag {w : World} {x : Addr} {len cap : Nat} {zs : List Int} (hl : len ≤ cap) (hz : zs.length = cap)
    (hc : ∀ i, i < zs.length → w.cell? (x.add i) = some (.int .u8 (zs.getD i 0))) (hw : ∀ n ∈ zs, (Lit.int .u8 n).wf = true) :
    ∃ l : List UInt8, l.length = len ∧ Rb w (some x) l := by
  have hbd : ∀ n ∈ zs, 0 ≤ n ∧ n < 256 := by
    intro n hn
    have := bounds_u8 (hw n hn)
    omega
  refine ⟨(zs.take len).map b8, by rw [List.length_map, List.length_take]; omega, ⟨fun hne => ?_⟩⟩
  have hlen : ((zs.take len).map b8).length = len := by rw [List.length_map, List.length_take]; omega
  have h0 : 0 < len := by
    apply Classical.byContradiction
    intro h
    have : len = 0 := by omega
    subst this
    simp at hne
  obtain ⟨b, off, spot⟩ := x
  have hspot : spot = none := by
    have := hc 0 (by omega)
    simp only [World.cell?, Addr.add] at this
    split at this
    · cases spot with
      | none => rfl
      | some s => simp at this
    · cases this
  subst hspot
  have hcj : ∀ j, j < len → w.cell? ⟨b, off + j, none⟩ = some (.int .u8 (((((zs.take len).map b8).getD j 0).toNat : Nat) : Int)) := by
    intro j hj
    have h1 := hc j (by omega)
    rw [Addr.add_lit] at h1
    rw [h1]
    have hjz : j < zs.length := by omega
    have h2 := hbd zs[j] (List.getElem_mem hjz)
    have e1 : zs.getD j 0 = zs[j] := by simp [hjz]
    have e2 : ((zs.take len).map b8).getD j 0 = b8 zs[j] := by simp [List.getD_eq_getElem?_getD, hj, hjz]
    rw [e1, e2, zlj h2.1 h2.2]
  refine ⟨b, off, rfl, ?_, fun j hj => hcj j (by omega)⟩
  have := hcj 0 h0
  apply Classical.byContradiction
  intro h
  simp [World.cell?, Array.getElem?_eq_none (Nat.le_of_not_lt h)] at this
section
variable {H : Type} {enc : TypeId × Value → H} {W : World}
end
theorem Rb.take {w : World} {so : Option Addr} {l : List UInt8} (h : Rb w so l) (n : Nat) : Rb w so (l.take n) := by
  refine ⟨fun hne => ?_⟩
  obtain ⟨b, off, h1, h2, h3⟩ := h.pos (fun k => hne (by rw [k]; simp))
  refine ⟨b, off, h1, h2, fun j hj => ?_⟩
  rw [List.length_take] at hj
  rw [h3 j (by omega), List.getD_eq_getElem?_getD, List.getD_eq_getElem?_getD, List.getElem?_take_of_lt (by omega)]
section
variable {P : Program} {w : World} {l : List (Nat × Value)} {dst : Option Tmp} {ty : TypeId} {pos : String} {after : Array Edge} {guard : Option (Nat × Bool)}
end
end Go.Proofs.YtbhdnpbbmpemnaaGreatDoor.G
namespace Go.Proofs.YtbhdnpbbmpemnaaGreatDoor
set_option linter.unusedVariables false

section
variable {H : Type}
theorem zgj (d : DataW H) : 0 < Rows.uptoBulk d := by
  unfold Rows.uptoBulk
  split <;> omega
theorem qtd : ∀ l : List (DataW H), l.length ≤ Rows.uptoBulkAll l
  | [] => by simp
  | d :: l => by
    have h1 := zgj d
    have h2 := qtd l
    simp only [Rows.uptoBulkAll, List.length_cons]
    omega
theorem qte (xs ys : List (DataW H)) : xs.length ≤ Rows.uptoBulk (.slice xs ys) := by
  have := qtd xs
  simp only [Rows.uptoBulk]
  omega
theorem qxh {d : DataW H} : ∀ {l : List (DataW H)}, d ∈ l → Rows.uptoBulk d ≤ Rows.uptoBulkAll l
  | c :: l, h => by
    simp only [Rows.uptoBulkAll]
    rcases List.mem_cons.1 h with rfl | h
    · omega
    · have := qxh h
      omega
theorem qxi {l : List (DataW H)} (hk : Rows.uptoSmall H l = true) {j : Nat} {d : DataW H} (hd : l[j]? = some d) : Rows.uptoBulk d ≤ 1048576 :=
  Nat.le_trans (qxh (List.mem_of_getElem? hd)) (of_decide_eq_true hk)
end
end Go.Proofs.YtbhdnpbbmpemnaaGreatDoor
namespace Go.Proofs.YtbhdnpbbmpemnaaGreatDoor
open Go.ChangeShapes Go.WideShapes Go.ChangeAt Go.RowKit Go.Joins Go.Deep
set_option linter.unusedVariables false
set_option linter.unusedSimpArgs false
set_option maxRecDepth 100000

theorem zha {w : World} {b o : Nat} {v : Value} (h : w.cell? ⟨b, o, none⟩ = some v) : b < w.heap.size := by
  apply Classical.byContradiction
  intro k
  simp [World.cell?, Array.getElem?_eq_none (Nat.le_of_not_lt k)] at h
section
variable {H : Type} {enc : TypeId × Value → H} {W : World}
theorem zld {fuel : Nat} {cs : List Value} {x : DataW H × List MemPlace} (hl : cs.length = 6) (h : DataW.trod enc Tryz.prog W 0 (fun _ => true) true fuel 36 cs = some x) :
    ∃ y : Yn, cs = y.cells ∧ y.nm W ∧ LenQ y.q := by
  match cs, hl with
  | [v0, v1, v2, v3, v4, v5], _ =>
    obtain ⟨y0, y1, n, _, _, h0, h1⟩ := trod_struct2 Tryz.underlying36 h
    have e : Tryz.prog.cellsOf 34 = 3 := by kernel_rfl
    simp only [e, List.drop_zero, List.take_succ_cons, List.take_zero, List.drop_succ_cons] at h0 h1
    obtain ⟨b1, o1, c1, l1, o2, c2, l2, rfl, rfl, rfl, a1, a2⟩ := qtf h0
    obtain ⟨b2, o3, c3, l3, o4, c4, l4, rfl, rfl, rfl, a3, a4⟩ := qtf h1
    exact ⟨⟨⟨b1, l1, l2, b2, l3, l4⟩, o1, c1, o2, c2, o3, c3, o4, c4⟩, rfl, ⟨⟨a1.rd, a1.nil, a1.caps⟩, ⟨a2.rd, a2.nil, a2.caps⟩, ⟨a3.rd, a3.nil, a3.caps⟩, ⟨a4.rd, a4.nil, a4.caps⟩⟩, ⟨a1.len, a2.len, a3.len, a4.len⟩⟩
theorem zah {base : Nat} {v : Value} {d : DataW H} {p : List MemPlace} (hv : Value.okWide Tryz.prog W .any base 23 v) (h : DataW.Trod enc Tryz.prog W 0 (fun _ => true) true 23 v d p) :
    ∃ so cap zs, v = .slice so (zs : List Yn).length cap ∧ Rn W so zs ∧ NL W zs ∧ (∀ y ∈ zs, LenQ y.q) ∧ zs.length ≤ cap ∧ zs.length ≤ Rows.uptoBulk d := by
  obtain ⟨a, n, c, rfl⟩ := okWide_slice Tryz.underlying23 hv
  obtain ⟨fuel, hf⟩ := h
  rcases open_slice Tryz.underlying23 hf with ⟨hcs, _⟩ | ⟨x, len, cap, m, n', D, Pl, hcs, _, hl, hm, hmm, hx, hc⟩
  · simp [Value.cells] at hcs
    obtain ⟨rfl, rfl, rfl⟩ := hcs
    exact ⟨none, 0, [], rfl, fun k => absurd rfl k, fun _ k => by simp at k, fun _ k => by simp at k, Nat.le_refl _, Nat.zero_le _⟩
  · simp [Value.cells] at hcs
    obtain ⟨rfl, rfl, rfl⟩ := hcs
    simp only [if_true] at hmm
    rw [show Tryz.prog.cellsOf 36 = 6 from by kernel_rfl] at hc
    have each : ∀ i, ∃ y : Yn, i < n → y.nm W ∧ LenQ y.q ∧ ∀ j v, y.cells[j]? = some v → W.cell? ((x.add (i * 6)).add j) = some v := by
      intro i
      by_cases hi : i < n
      · obtain ⟨cs, h1, h2⟩ := hc i (by omega)
        obtain ⟨_, hlen, hcell⟩ := World.cells?_some h1
        obtain ⟨y, rfl, hy, hq⟩ := zld hlen h2
        exact ⟨y, fun _ => ⟨hy, hq, fun j v hj => by rw [hcell j (by have := (List.getElem?_eq_some_iff.1 hj).1; rw [hlen] at this; exact this)]; exact hj⟩⟩
      · exact ⟨⟨⟨false, [], [], false, [], []⟩, none, 0, none, 0, none, 0, none, 0⟩, fun k => absurd k hi⟩
    obtain ⟨F, hF⟩ := Classical.skolem.1 each
    have hget : ∀ (j : Nat) (q : Yn), ((List.range n).map F)[j]? = some q → j < n ∧ q = F j := by
      intro j q hq
      rw [List.getElem?_map] at hq
      obtain ⟨y, h1, h2⟩ := Option.map_eq_some_iff.1 hq
      obtain ⟨h3, h4⟩ := List.getElem?_eq_some_iff.1 h1
      rw [List.length_range] at h3
      rw [List.getElem_range] at h4
      subst h4
      exact ⟨h3, h2.symm⟩
    refine ⟨some x, c, (List.range n).map F, by simp, fun hne => ?_, fun y hy => ?_, fun y hy => ?_, by simpa using hl, ?_⟩
    · have hn : 0 < n := by
        apply Classical.byContradiction
        intro k
        exact hne (by rw [show n = 0 from by omega]; rfl)
      obtain ⟨b, off, spot⟩ := x
      have h0 := (hF 0 hn).2.2 0 _ rfl
      have hspot : spot = none := by simpa [Addr.add] using World.cell?_spot h0
      subst hspot
      have hat : ∀ i, i < n → ∀ j v, (F i).cells[j]? = some v → W.cell? ⟨b, off + i * 6 + j, none⟩ = some v := fun i hi j v hj => by
        have := (hF i hi).2.2 j v hj
        rwa [Addr.add_lit, Addr.add_lit] at this
      refine ⟨b, off, rfl, zha (hat 0 hn 0 _ rfl), fun j v hj => ?_⟩
      have hjl : j < n * 6 := by have := (List.getElem?_eq_some_iff.1 hj).1; rw [zfg] at this; simpa using this
      have hi : j / 6 < n := by omega
      have e6 : (F (j / 6)).cells[j % 6]? = some v := by
        have hlt : j % 6 < (F (j / 6)).cells.length := Nat.mod_lt _ (by decide)
        have := qvg (ys := (List.range n).map F) (k := j / 6) (y := F (j / 6)) (by rw [List.getElem?_map, List.getElem?_range hi]; rfl) (List.getElem?_eq_getElem hlt)
        rw [show j / 6 * 6 + j % 6 = j from by omega, hj] at this
        rw [List.getElem?_eq_getElem hlt]
        exact this.symm
      have := hat (j / 6) hi (j % 6) v e6
      rwa [show off + j / 6 * 6 + j % 6 = off + j from by omega] at this
    · obtain ⟨j, hj⟩ := List.mem_iff_getElem?.1 hy
      obtain ⟨h1, rfl⟩ := hget j y hj
      exact (hF j h1).1
    · obtain ⟨j, hj⟩ := List.mem_iff_getElem?.1 hy
      obtain ⟨h1, rfl⟩ := hget j y hj
      exact (hF j h1).2.1
    · simp only [Prod.mk.injEq] at hx
      rw [hx.1]
      have := qte ((List.range n).map D) ((List.range (m - n)).map fun j => D (n + j))
      simpa using this
theorem qtg {base : Nat} {v : Value} {d : DataW H} {p : List MemPlace} (hv : Value.okWide Tryz.prog W .any base 22 v) (h : DataW.Trod enc Tryz.prog W 0 (fun _ => true) true 22 v d p) :
    ∃ so cap l, v = .slice so (l : List UInt8).length cap ∧ G.Rb W so l ∧ l.length ≤ cap ∧ l.length ≤ Rows.uptoBulk d := by
  obtain ⟨a, n, c, rfl⟩ := okWide_slice Tryz.underlying22 hv
  obtain ⟨fuel, hf⟩ := h
  rcases open_ints Tryz.underlying22 Tryz.underlying5 (by kernel_rfl) hf with ⟨hcs, _⟩ | ⟨x, l, c, zs, hcs, _, hl, hm, hz, hx, hcell, hwz⟩
  · simp [Value.cells] at hcs
    obtain ⟨rfl, rfl, rfl⟩ := hcs
    exact ⟨none, 0, [], rfl, ⟨fun k => absurd rfl k⟩, Nat.le_refl _, Nat.zero_le _⟩
  · simp [Value.cells] at hcs
    obtain ⟨rfl, rfl, rfl⟩ := hcs
    obtain ⟨us, e, ha⟩ := G.zag hl (by simpa using hz) hcell hwz
    subst e
    simp only [Prod.mk.injEq] at hx
    refine ⟨_, _, us, rfl, ha, hl, ?_⟩
    rw [hx.1]
    simp only [if_true] at hz
    refine Nat.le_trans ?_ (qte _ _)
    simp only [lits, List.length_map, List.length_take, List.length_drop]
    omega
end
end Go.Proofs.YtbhdnpbbmpemnaaGreatDoor
