/- The walk of the fixed fact of the laws of bytevec. Numbers out of bytes, the lowest first: their words. The walk of the number of any bytes. Numbers that are read stay so where blocks without words are made or written. The walk of the number of any bytes, with a sign or without. A number at a place of bytes: what is answered, and helpers for the walks. A row of 64 bytes that are 0, made in a region that draws its order. Walks of the number at a place of bytes. The walk of the document's number at a place of bytes. Steps that go from the one stack to the other. Bytes that are made of a number's words; steps that keep what is read as words. Walks of the bytes of a whole number. Walks of Put. What was put is got again. Walks of a whole number that is carried in four ways. A builder that is a part of a struct: its check, and the text that it holds. Data as trees: as they lie in memory, and as they are. Steps over data: what is read of a node, and of a list of them. Walks of a builder that is a part of a struct. Walks of the size of data. -/
import Derived.Test.YtjkpfnghiooblaaGreatDoorPwholen12g
import Derived.Test.YtjkpfnghiooblaaGreatDoorPwholen12c
import Derived.Test.YtjkpfnghiooblaaGreatDoorWords
import Derived.Test.YtjkpfnghiooblaaGreatDoorArith
import Derived.Test.YtjkpfnghiooblaaGreatDoorPwholen12e
import Derived.Test.YtjkpfnghiooblaaGreatDoorPwholen12d
import Derived.Test.YtjkpfnghiooblaaGreatDoorShelfC
import Derived.Test.YtjkpfnghiooblaaGreatDoorPwholen12f
import Derived.WalkKit
import Derived.Laws.Externs
import Derived.Lib.Builder
import Derived.Lib.UnsafeStr
import Derived.Lib.AppendStr
import Derived.Shelf.RegionOpenPlain
import Derived.Lib.ValidU
import Derived.Test.YtjkpfnghiooblaaGreatDoorProg
namespace Go.Proofs.YtjkpfnghiooblaaGreatDoor.G
open Go.RowKit
set_option linter.unusedVariables false
set_option linter.unusedSimpArgs false
set_option maxRecDepth 100000
theorem ByW_is1_77 : Is1 Tryz.prog 77 := ⟨⟨_, Tryz.underlying77, rfl⟩, by kernel_rfl⟩
theorem ByW_isS_26 : IsS Tryz.prog 26 6 := ⟨⟨_, Tryz.underlying26⟩, by kernel_rfl⟩
/-- A word of a row of the call's own. -/
theorem yu {w0 w : World} {L : List Ck} (hM : Mg w0 w L) (k : Nat) {g cap x : Nat} (hk : L[k]? = some (.row 77 1 (.slice (some ⟨g, 0, none⟩) 1 cap) 1 [.int .u32 ((x : Nat) : Int)])) (hx : x < 4294967296) : Sc w (some ⟨g, 0, none⟩) cap [x] := by
 have hr : w.ownsRow w0.heap.size 77 1 (.slice (some ⟨g, 0, none⟩) 1 cap) 1 [.int .u32 ((x : Nat) : Int)] := hM.has k hk
 refine ⟨⟨fun y hy => by rw [List.mem_singleton] at hy; omega, fun _ => ⟨g, 0, rfl, ?_, fun j hj => ?_⟩⟩, (fun h => (by cases h)), ?_⟩
 ·
  rcases hr.2 with ⟨he, _⟩ | ⟨g', c', cur, he, h1, h2, _⟩
  ·
   cases he
  ·
   cases he; exact (Array.getElem?_eq_some_iff.1 h2).1
 ·
  have e : j = 0 := by simp at hj; omega
  subst e
  rw [World.ownsRow.cellAt hr 0 (by decide)]
  rfl
 ·
  rcases hr.2 with ⟨he, _⟩ | ⟨g', c', cur, he, _, _, h3, _⟩
  ·
   cases he
  ·
   cases he; exact h3
theorem qce {w0 w : World} {L : List Ck} (hM : Mg w0 w L) (k : Nat) {e : TypeId} {sz g n cap : Nat} {xs : List Value} (hk : L[k]? = some (.row e sz (.slice (some ⟨g, 0, none⟩) n cap) n xs)) : ∀ j u, xs[j]? = some u → w.cell? ⟨g, j, none⟩ = some u := by
 intro j u hj
 have hr : w.ownsRow w0.heap.size e sz (.slice (some ⟨g, 0, none⟩) n cap) n xs := hM.has k hk
 have hlt := (List.getElem?_eq_some_iff.1 hj).1
 rw [World.ownsRow.cellAt hr j (by rw [← hr.1]; exact hlt)]
 exact hj
theorem qyb {w0 w : World} {L : List Ck} (hM : Mg w0 w L) (k : Nat) {e : TypeId} {sz g n cap : Nat} {xs : List Value} (hk : L[k]? = some (.row e sz (.slice (some ⟨g, 0, none⟩) n cap) n xs)) : g < w.heap.size := by
 have hr : w.ownsRow w0.heap.size e sz (.slice (some ⟨g, 0, none⟩) n cap) n xs := hM.has k hk
 rcases hr.2 with ⟨he, _⟩ | ⟨g', c', cur, he, h1, h2, _⟩
 ·
  cases he
 ·
  cases he; exact (Array.getElem?_eq_some_iff.1 h2).1
theorem zpj {w : World} {so : Option Addr} {bq oq : Nat} (hq1 : so = some ⟨bq, oq, none⟩) (hq2 : bq < w.heap.size) (hq3 : w.cell? ⟨bq, oq + 0, none⟩ = some (.int .u32 0)) (hq4 : w.cell? ⟨bq, oq + 1, none⟩ = some (.int .u32 0)) : Calls Tryz.prog 123 #[.slice so 2 2] w fun e w' => e = .returned (.slice so 0 2) ∧ Below w.heap.size w w' := by
 have hM : Mg w w ([]) := Mg.start w
 refine qz (l := [(0, .slice so 2 2)]) Tryz.func123 rfl Tryz.ntmps123 rfl rfl ?_
 intro Q hret hnorm hP a hA
 refine wsk fun K1 hK1 => wrl (sdo hA (qa rfl) fun a hA => ?_)
 refine qb (hK1 _ _ (wsk fun K2 hK2 => wp_block (wp_loop_rounds 3 ?_)))
 refine xk ?_
 intro K3 hK3
 refine wsk fun K4 hK4 => wsk fun K5 hK5 => wrl (sdo hA (qe rfl) fun a hA => ?_)
 refine sdo hA (zj Tryz.underlying22 rfl) fun a hA => ?_
 refine sdo (v := .bool true) hA (qg rfl rfl (fun w => by kernel_rfl)) fun a hA => ?_
 iterate 3 refine sdo hA (qe rfl) fun a hA => ?_
 refine sdo hA (zj Tryz.underlying22 rfl) fun a hA => ?_
 refine sdo (v := .int .i64 1) hA (qg rfl rfl (fun w => by kernel_rfl)) fun a hA => ?_
 refine sdo (v := .pointer (some ⟨bq, oq + 1, none⟩)) hA (zw (k := 1) Tryz.underlying22 (by kernel_rfl) rfl rfl rfl hq1 (by decide)) fun a hA => ?_
 refine sdo (v := .int .u32 0) hA (qga hM hq2 hq4 ByW_is1_77 rfl) fun a hA => ?_
 refine sdo (v := .bool true) hA (qg rfl rfl (fun w => by kernel_rfl)) fun a hA => ?_
 refine sdo (v := .bool true) hA (qi rfl rfl rfl rfl) fun a hA => ?_
 refine qb (hK5 _ _ (wp_cond_true (hA.ev rfl) ?_))
 refine wp_skip (hK4 _ _ (wp_block (wrl ?_)))
 iterate 2 refine sdo hA (qe rfl) fun a hA => ?_
 refine sdo hA (zj Tryz.underlying22 rfl) fun a hA => ?_
 refine sdo (v := .int .i64 1) hA (qg rfl rfl (fun w => by kernel_rfl)) fun a hA => ?_
 refine sdo (v := .slice so 1 2) hA (qgb (sz := 1) (hi := 1) Tryz.underlying22 (by kernel_rfl) rfl rfl rfl (by decide)) fun a hA => ?_
 refine sdo hA (qa rfl) fun a hA => ?_
 refine qb (hK3 _ _ (xk ?_))
 intro K6 hK6
 refine wsk fun K7 hK7 => wsk fun K8 hK8 => wrl (sdo hA (qe rfl) fun a hA => ?_)
 refine sdo hA (zj Tryz.underlying22 rfl) fun a hA => ?_
 refine sdo (v := .bool true) hA (qg rfl rfl (fun w => by kernel_rfl)) fun a hA => ?_
 iterate 3 refine sdo hA (qe rfl) fun a hA => ?_
 refine sdo hA (zj Tryz.underlying22 rfl) fun a hA => ?_
 refine sdo (v := .int .i64 0) hA (qg rfl rfl (fun w => by kernel_rfl)) fun a hA => ?_
 refine sdo (v := .pointer (some ⟨bq, oq + 0, none⟩)) hA (zw (k := 0) Tryz.underlying22 (by kernel_rfl) rfl rfl rfl hq1 (by decide)) fun a hA => ?_
 refine sdo (v := .int .u32 0) hA (qga hM hq2 hq3 ByW_is1_77 rfl) fun a hA => ?_
 refine sdo (v := .bool true) hA (qg rfl rfl (fun w => by kernel_rfl)) fun a hA => ?_
 refine sdo (v := .bool true) hA (qi rfl rfl rfl rfl) fun a hA => ?_
 refine qb (hK8 _ _ (wp_cond_true (hA.ev rfl) ?_))
 refine wp_skip (hK7 _ _ (wp_block (wrl ?_)))
 iterate 2 refine sdo hA (qe rfl) fun a hA => ?_
 refine sdo hA (zj Tryz.underlying22 rfl) fun a hA => ?_
 refine sdo (v := .int .i64 0) hA (qg rfl rfl (fun w => by kernel_rfl)) fun a hA => ?_
 refine sdo (v := .slice so 0 2) hA (qgb (sz := 1) (hi := 0) Tryz.underlying22 (by kernel_rfl) rfl rfl rfl (by decide)) fun a hA => ?_
 refine sdo hA (qa rfl) fun a hA => ?_
 refine qb (hK6 _ _ (xk ?_))
 intro K9 hK9
 refine wsk fun K10 hK10 => wsk fun K11 hK11 => wrl (sdo hA (qe rfl) fun a hA => ?_)
 refine sdo hA (zj Tryz.underlying22 rfl) fun a hA => ?_
 refine sdo (v := .bool false) hA (qg rfl rfl (fun w => by kernel_rfl)) fun a hA => ?_
 refine sdo hA (qe rfl) fun a hA => ?_
 iterate 7 refine qy hA rfl rfl rfl fun a hA => ?_
 refine sdo (v := .bool false) hA (qi rfl rfl rfl rfl) fun a hA => ?_
 refine qb (hK11 _ _ (wp_cond_false (hA.ev rfl) ?_))
 refine wp_exit (hK2 _ _ (wsk fun K12 hK12 => wrl (sdo hA (qe rfl) fun a hA => ?_)))
 refine sdo hA (qa rfl) fun a hA => ?_
 refine qb (hK12 _ _ (wp_ret (hret _ _ (en1 hA rfl (qk rfl) ?_))))
 exact ⟨rfl, hM.bel⟩
theorem zwh {w : World} : Calls Tryz.prog 119 #[.int .u64 0] w fun e w' => ∃ g, e = .returned (.slice (some ⟨g, 0, none⟩) 0 2) ∧ Mg w w' [.row 77 1 (.slice (some ⟨g, 0, none⟩) 0 2) 0 []] := by
 have hM : Mg w w ([]) := Mg.start w
 refine qz (l := [(0, .int .u64 0)]) Tryz.func119 rfl Tryz.ntmps119 rfl rfl ?_
 intro Q hret hnorm hP a hA
 refine wsk fun K1 hK1 => wrl (sdo hA (qa rfl) fun a hA => ?_)
 refine qb (hK1 _ _ (wsk fun K2 hK2 => wrl (sdo hA (qe rfl) fun a hA => ?_)))
 refine sdo (v := .int .u32 0) hA (jv rfl (fun w => by kernel_rfl)) fun a hA => ?_
 refine sdo hA (qe rfl) fun a hA => ?_
 refine sdo (v := .int .u64 0) hA (qg rfl rfl (fun w => by kernel_rfl)) fun a hA => ?_
 refine sdo (v := .int .u32 0) hA (jv rfl (fun w => by kernel_rfl)) fun a hA => ?_
 refine zwc (e := 77) (sz := 1) (m := 2) (vs := [.int .u32 0, .int .u32 0]) hA hM rfl rfl rfl (jb rfl (by kernel_rfl)) rfl rfl (.inl (by decide)) ?_
 intro g3 w4 hM a hA
 have hr9 : _ := hM.has 0 rfl
 have hc9 : ∀ j u, ([.int .u32 0, .int .u32 0] : List Value)[j]? = some u → World.cell? _ ⟨g3, j, none⟩ = some u := qce hM 0 rfl
 refine qj hA rfl rfl rfl (qf rfl rfl (fun w => by kernel_rfl)) (zpj (so := some ⟨g3, 0, none⟩) rfl (qyb hM 0 rfl) (hc9 0 _ rfl) (hc9 1 _ rfl)) ?_
 rintro _ w6 ⟨rfl, hb5⟩
 replace hM := hM.call hb5
 refine ⟨_, rfl, ?_⟩
 intro a hA
 refine sdo hA (qa rfl) fun a hA => ?_
 refine qb (hK2 _ _ (wp_ret (hret _ _ (en1 hA rfl (qk rfl) ?_))))
 have h9 := hM.rowCut 0 rfl (m := 0) (by decide)
 exact ⟨g3, rfl, h9⟩
theorem zwi {w : World} : Calls Tryz.prog 76 #[.int .u64 0] w fun e w' => ∃ g, e = .returned (.slice (some ⟨g, 0, none⟩) 0 2) ∧ Mg w w' [.row 77 1 (.slice (some ⟨g, 0, none⟩) 0 2) 0 []] := by
 have hM : Mg w w ([]) := Mg.start w
 refine qz (l := [(0, .int .u64 0)]) Tryz.func76 rfl Tryz.ntmps76 rfl rfl ?_
 intro Q hret hnorm hP a hA
 refine wsk fun K1 hK1 => wrl (sdo hA (qa rfl) fun a hA => ?_)
 refine qb (hK1 _ _ (wsk fun K2 hK2 => wrl (sdo hA (qe rfl) fun a hA => ?_)))
 refine qj hA rfl rfl rfl (qf rfl rfl (fun w => by kernel_rfl)) (zwh) ?_
 rintro _ w5 ⟨g3, rfl, hM4⟩
 replace hM : Mg w w5 (.row 77 1 (.slice (some ⟨g3, 0, none⟩) 0 2) 0 ([]) :: []) := (hM.both hM4 (zg zh) (qr (by simp) (zg zh)))
 refine ⟨_, rfl, ?_⟩
 intro a hA
 refine sdo hA (qa rfl) fun a hA => ?_
 refine qb (hK2 _ _ (wp_ret (hret _ _ (en1 hA rfl (qk rfl) ?_))))
 exact ⟨_, rfl, hM⟩
theorem zqa {w : World} {so : Option Addr} {bq oq : Nat} (hq1 : so = some ⟨bq, oq, none⟩) (hq2 : bq < w.heap.size) (hq3 : w.cell? ⟨bq, oq + 0, none⟩ = some (.int .u32 1)) (hq4 : w.cell? ⟨bq, oq + 1, none⟩ = some (.int .u32 0)) : Calls Tryz.prog 123 #[.slice so 2 2] w fun e w' => e = .returned (.slice so 1 2) ∧ Below w.heap.size w w' := by
 have hM : Mg w w ([]) := Mg.start w
 refine qz (l := [(0, .slice so 2 2)]) Tryz.func123 rfl Tryz.ntmps123 rfl rfl ?_
 intro Q hret hnorm hP a hA
 refine wsk fun K1 hK1 => wrl (sdo hA (qa rfl) fun a hA => ?_)
 refine qb (hK1 _ _ (wsk fun K2 hK2 => wp_block (wp_loop_rounds 3 ?_)))
 refine xk ?_
 intro K3 hK3
 refine wsk fun K4 hK4 => wsk fun K5 hK5 => wrl (sdo hA (qe rfl) fun a hA => ?_)
 refine sdo hA (zj Tryz.underlying22 rfl) fun a hA => ?_
 refine sdo (v := .bool true) hA (qg rfl rfl (fun w => by kernel_rfl)) fun a hA => ?_
 iterate 3 refine sdo hA (qe rfl) fun a hA => ?_
 refine sdo hA (zj Tryz.underlying22 rfl) fun a hA => ?_
 refine sdo (v := .int .i64 1) hA (qg rfl rfl (fun w => by kernel_rfl)) fun a hA => ?_
 refine sdo (v := .pointer (some ⟨bq, oq + 1, none⟩)) hA (zw (k := 1) Tryz.underlying22 (by kernel_rfl) rfl rfl rfl hq1 (by decide)) fun a hA => ?_
 refine sdo (v := .int .u32 0) hA (qga hM hq2 hq4 ByW_is1_77 rfl) fun a hA => ?_
 refine sdo (v := .bool true) hA (qg rfl rfl (fun w => by kernel_rfl)) fun a hA => ?_
 refine sdo (v := .bool true) hA (qi rfl rfl rfl rfl) fun a hA => ?_
 refine qb (hK5 _ _ (wp_cond_true (hA.ev rfl) ?_))
 refine wp_skip (hK4 _ _ (wp_block (wrl ?_)))
 iterate 2 refine sdo hA (qe rfl) fun a hA => ?_
 refine sdo hA (zj Tryz.underlying22 rfl) fun a hA => ?_
 refine sdo (v := .int .i64 1) hA (qg rfl rfl (fun w => by kernel_rfl)) fun a hA => ?_
 refine sdo (v := .slice so 1 2) hA (qgb (sz := 1) (hi := 1) Tryz.underlying22 (by kernel_rfl) rfl rfl rfl (by decide)) fun a hA => ?_
 refine sdo hA (qa rfl) fun a hA => ?_
 refine qb (hK3 _ _ (xk ?_))
 intro K6 hK6
 refine wsk fun K7 hK7 => wsk fun K8 hK8 => wrl (sdo hA (qe rfl) fun a hA => ?_)
 refine sdo hA (zj Tryz.underlying22 rfl) fun a hA => ?_
 refine sdo (v := .bool true) hA (qg rfl rfl (fun w => by kernel_rfl)) fun a hA => ?_
 iterate 3 refine sdo hA (qe rfl) fun a hA => ?_
 refine sdo hA (zj Tryz.underlying22 rfl) fun a hA => ?_
 refine sdo (v := .int .i64 0) hA (qg rfl rfl (fun w => by kernel_rfl)) fun a hA => ?_
 refine sdo (v := .pointer (some ⟨bq, oq + 0, none⟩)) hA (zw (k := 0) Tryz.underlying22 (by kernel_rfl) rfl rfl rfl hq1 (by decide)) fun a hA => ?_
 refine sdo (v := .int .u32 1) hA (qga hM hq2 hq3 ByW_is1_77 rfl) fun a hA => ?_
 refine sdo (v := .bool false) hA (qg rfl rfl (fun w => by kernel_rfl)) fun a hA => ?_
 refine sdo (v := .bool false) hA (qi rfl rfl rfl rfl) fun a hA => ?_
 refine qb (hK8 _ _ (wp_cond_false (hA.ev rfl) ?_))
 refine wp_exit (hK2 _ _ (wsk fun K9 hK9 => wrl (sdo hA (qe rfl) fun a hA => ?_)))
 refine sdo hA (qa rfl) fun a hA => ?_
 refine qb (hK9 _ _ (wp_ret (hret _ _ (en1 hA rfl (qk rfl) ?_))))
 exact ⟨rfl, hM.bel⟩
theorem zwj {w : World} : Calls Tryz.prog 119 #[.int .u64 1] w fun e w' => ∃ g, e = .returned (.slice (some ⟨g, 0, none⟩) 1 2) ∧ Mg w w' [.row 77 1 (.slice (some ⟨g, 0, none⟩) 1 2) 1 [.int .u32 1]] := by
 have hM : Mg w w ([]) := Mg.start w
 refine qz (l := [(0, .int .u64 1)]) Tryz.func119 rfl Tryz.ntmps119 rfl rfl ?_
 intro Q hret hnorm hP a hA
 refine wsk fun K1 hK1 => wrl (sdo hA (qa rfl) fun a hA => ?_)
 refine qb (hK1 _ _ (wsk fun K2 hK2 => wrl (sdo hA (qe rfl) fun a hA => ?_)))
 refine sdo (v := .int .u32 1) hA (jv rfl (fun w => by kernel_rfl)) fun a hA => ?_
 refine sdo hA (qe rfl) fun a hA => ?_
 refine sdo (v := .int .u64 0) hA (qg rfl rfl (fun w => by kernel_rfl)) fun a hA => ?_
 refine sdo (v := .int .u32 0) hA (jv rfl (fun w => by kernel_rfl)) fun a hA => ?_
 refine zwc (e := 77) (sz := 1) (m := 2) (vs := [.int .u32 1, .int .u32 0]) hA hM rfl rfl rfl (jb rfl (by kernel_rfl)) rfl rfl (.inl (by decide)) ?_
 intro g3 w4 hM a hA
 have hr9 : _ := hM.has 0 rfl
 have hc9 : ∀ j u, ([.int .u32 1, .int .u32 0] : List Value)[j]? = some u → World.cell? _ ⟨g3, j, none⟩ = some u := qce hM 0 rfl
 refine qj hA rfl rfl rfl (qf rfl rfl (fun w => by kernel_rfl)) (zqa (so := some ⟨g3, 0, none⟩) rfl (qyb hM 0 rfl) (hc9 0 _ rfl) (hc9 1 _ rfl)) ?_
 rintro _ w6 ⟨rfl, hb5⟩
 replace hM := hM.call hb5
 refine ⟨_, rfl, ?_⟩
 intro a hA
 refine sdo hA (qa rfl) fun a hA => ?_
 refine qb (hK2 _ _ (wp_ret (hret _ _ (en1 hA rfl (qk rfl) ?_))))
 have h9 := hM.rowCut 0 rfl (m := 1) (by decide)
 exact ⟨g3, rfl, h9⟩
theorem zcj {w : World} : Calls Tryz.prog 76 #[.int .u64 1] w fun e w' => ∃ g, e = .returned (.slice (some ⟨g, 0, none⟩) 1 2) ∧ Mg w w' [.row 77 1 (.slice (some ⟨g, 0, none⟩) 1 2) 1 [.int .u32 1]] := by
 have hM : Mg w w ([]) := Mg.start w
 refine qz (l := [(0, .int .u64 1)]) Tryz.func76 rfl Tryz.ntmps76 rfl rfl ?_
 intro Q hret hnorm hP a hA
 refine wsk fun K1 hK1 => wrl (sdo hA (qa rfl) fun a hA => ?_)
 refine qb (hK1 _ _ (wsk fun K2 hK2 => wrl (sdo hA (qe rfl) fun a hA => ?_)))
 refine qj hA rfl rfl rfl (qf rfl rfl (fun w => by kernel_rfl)) (zwj) ?_
 rintro _ w5 ⟨g3, rfl, hM4⟩
 replace hM : Mg w w5 (.row 77 1 (.slice (some ⟨g3, 0, none⟩) 1 2) 1 ([.int .u32 1]) :: []) := (hM.both hM4 (zg zh) (qr (by simp) (zg zh)))
 refine ⟨_, rfl, ?_⟩
 intro a hA
 refine sdo hA (qa rfl) fun a hA => ?_
 refine qb (hK2 _ _ (wp_ret (hret _ _ (en1 hA rfl (qk rfl) ?_))))
 exact ⟨_, rfl, hM⟩
theorem zxa {w : World} : Calls Tryz.prog 117 #[.int .i64 0] w fun e w' => ∃ g1 g2 g3, e = .returned (.agg #[.bool false, .slice (some ⟨g1, 0, none⟩) 0 2, .slice (some ⟨g2, 0, none⟩) 1 2, .bool false, .slice none 0 0, .slice (some ⟨g3, 0, none⟩) 1 2]) ∧ Mg w w' [.row 77 1 (.slice (some ⟨g1, 0, none⟩) 0 2) 0 [], .row 77 1 (.slice (some ⟨g2, 0, none⟩) 1 2) 1 [.int .u32 1], .row 77 1 (.slice (some ⟨g3, 0, none⟩) 1 2) 1 [.int .u32 1]] := by
 have hM : Mg w w ([]) := Mg.start w
 refine qz (l := [(0, .int .i64 0)]) Tryz.func117 rfl Tryz.ntmps117 rfl rfl ?_
 intro Q hret hnorm hP a hA
 refine wsk fun K1 hK1 => wrl (xg (vs := [.bool false, .slice none 0 0, .slice none 0 0, .bool false, .slice none 0 0, .slice none 0 0]) (t := 26) hA hM rfl rfl rfl (fun g => .pointer (some ⟨g, 0, none⟩)) (qp (z := .agg #[.bool false, .slice none 0 0, .slice none 0 0, .bool false, .slice none 0 0, .slice none 0 0]) (by kernel_rfl) rfl) (by decide) ?_)
 intro g2 w3 hM a hA
 refine qb (hK1 _ _ (wsk fun K4 hK4 => wrl (sdo hA (qe rfl) fun a hA => ?_)))
 refine sdo (v := .int .u64 0) hA (jv rfl (fun w => by kernel_rfl)) fun a hA => ?_
 refine sdo hA (qa rfl) fun a hA => ?_
 refine qb (hK4 _ _ (wsk fun K5 hK5 => wsk fun K6 hK6 => wrl (sdo hA (qe rfl) fun a hA => ?_)))
 refine sdo (v := .bool false) hA (qg rfl rfl (fun w => by kernel_rfl)) fun a hA => ?_
 refine qb (hK6 _ _ (wp_cond_false (hA.ev rfl) ?_))
 refine wp_skip (hK5 _ _ (wsk fun K7 hK7 => wrl (sdo hA (qe rfl) fun a hA => ?_)))
 refine sdo (v := .bool false) hA (qg rfl rfl (fun w => by kernel_rfl)) fun a hA => ?_
 refine sdo hA (qe rfl) fun a hA => ?_
 refine qj hA rfl rfl rfl (qf rfl rfl (fun w => by kernel_rfl)) (zwi) ?_
 rintro _ w10 ⟨g8, rfl, hM9⟩
 replace hM : Mg w w10 (.row 77 1 (.slice (some ⟨g8, 0, none⟩) 0 2) 0 ([]) :: .obj g2 (.cells #[.bool false, .slice none 0 0, .slice none 0 0, .bool false, .slice none 0 0, .slice none 0 0] 26) :: []) := (hM.both hM9 (qr (by simp) (zg zh)) (qr (by simp) (zg zh)))
 refine ⟨_, rfl, ?_⟩
 intro a hA
 refine qj hA rfl rfl rfl (qf rfl rfl (fun w => by kernel_rfl)) (zcj) ?_
 rintro _ w13 ⟨g11, rfl, hM12⟩
 replace hM : Mg w w13 (.row 77 1 (.slice (some ⟨g11, 0, none⟩) 1 2) 1 ([.int .u32 1]) :: .row 77 1 (.slice (some ⟨g8, 0, none⟩) 0 2) 0 ([]) :: .obj g2 (.cells #[.bool false, .slice none 0 0, .slice none 0 0, .bool false, .slice none 0 0, .slice none 0 0] 26) :: []) := (hM.both hM12 (qr (by simp) (qr (by simp) (zg zh))) (qr (by simp) (zg zh)))
 refine ⟨_, rfl, ?_⟩
 intro a hA
 refine sdo (v := .agg #[.bool false, .slice (some ⟨g8, 0, none⟩) 0 2, .slice (some ⟨g11, 0, none⟩) 1 2]) hA (zf rfl (fun w => by kernel_rfl)) fun a hA => ?_
 refine qj hA rfl rfl rfl (qf rfl rfl (fun w => by kernel_rfl)) (zcj) ?_
 rintro _ w16 ⟨g14, rfl, hM15⟩
 replace hM : Mg w w16 (.row 77 1 (.slice (some ⟨g14, 0, none⟩) 1 2) 1 ([.int .u32 1]) :: .row 77 1 (.slice (some ⟨g11, 0, none⟩) 1 2) 1 ([.int .u32 1]) :: .row 77 1 (.slice (some ⟨g8, 0, none⟩) 0 2) 0 ([]) :: .obj g2 (.cells #[.bool false, .slice none 0 0, .slice none 0 0, .bool false, .slice none 0 0, .slice none 0 0] 26) :: []) := (hM.both hM15 (qr (by simp) (qr (by simp) (qr (by simp) (zg zh)))) (qr (by simp) (zg zh)))
 refine ⟨_, rfl, ?_⟩
 intro a hA
 refine sdo (v := .agg #[.bool false, .slice none 0 0, .slice (some ⟨g14, 0, none⟩) 1 2]) hA (zf rfl (fun w => by kernel_rfl)) fun a hA => ?_
 refine sdo (v := .agg #[.bool false, .slice (some ⟨g8, 0, none⟩) 0 2, .slice (some ⟨g11, 0, none⟩) 1 2, .bool false, .slice none 0 0, .slice (some ⟨g14, 0, none⟩) 1 2]) hA (zf rfl (fun w => by kernel_rfl)) fun a hA => ?_
 refine jl (us := [.bool false, .slice (some ⟨g8, 0, none⟩) 0 2, .slice (some ⟨g11, 0, none⟩) 1 2, .bool false, .slice none 0 0, .slice (some ⟨g14, 0, none⟩) 1 2]) (L' := (.row 77 1 (.slice (some ⟨g14, 0, none⟩) 1 2) 1 ([.int .u32 1]) :: .row 77 1 (.slice (some ⟨g11, 0, none⟩) 1 2) 1 ([.int .u32 1]) :: .row 77 1 (.slice (some ⟨g8, 0, none⟩) 0 2) 0 ([]) :: .obj g2 (.cells #[.bool false, .slice (some ⟨g8, 0, none⟩) 0 2, .slice (some ⟨g11, 0, none⟩) 1 2, .bool false, .slice none 0 0, .slice (some ⟨g14, 0, none⟩) 1 2] 26) :: [])) hA hM rfl rfl (zy rfl rfl rfl (by kernel_rfl) hM 3 rfl rfl rfl) 3 rfl rfl rfl ?_
 intro w17 hM
 refine qb (hK7 _ _ (wp_ret (hret _ _ (en1 hA rfl (kv hM ByW_isS_26 rfl 3 rfl (cs := [.bool false, .slice (some ⟨g8, 0, none⟩) 0 2, .slice (some ⟨g11, 0, none⟩) 1 2, .bool false, .slice none 0 0, .slice (some ⟨g14, 0, none⟩) 1 2]) rfl rfl) ?_))))
 replace hM : Mg w w17 (.row 77 1 (.slice (some ⟨g14, 0, none⟩) 1 2) 1 ([.int .u32 1]) :: .row 77 1 (.slice (some ⟨g11, 0, none⟩) 1 2) 1 ([.int .u32 1]) :: .row 77 1 (.slice (some ⟨g8, 0, none⟩) 0 2) 0 ([]) :: []) := by
  have h9 := hM.sub (.cons_cons _ (.cons_cons _ (.cons_cons _ (.cons _ (.refl _)))))
  exact h9
 replace hM : Mg w w17 (.row 77 1 (.slice (some ⟨g11, 0, none⟩) 1 2) 1 ([.int .u32 1]) :: .row 77 1 (.slice (some ⟨g14, 0, none⟩) 1 2) 1 ([.int .u32 1]) :: .row 77 1 (.slice (some ⟨g8, 0, none⟩) 0 2) 0 ([]) :: []) := hM.perm (List.perm_middle (l₁ := [_]))
 replace hM : Mg w w17 (.row 77 1 (.slice (some ⟨g8, 0, none⟩) 0 2) 0 ([]) :: .row 77 1 (.slice (some ⟨g11, 0, none⟩) 1 2) 1 ([.int .u32 1]) :: .row 77 1 (.slice (some ⟨g14, 0, none⟩) 1 2) 1 ([.int .u32 1]) :: []) := hM.perm (List.perm_middle (l₁ := [_, _]))
 exact ⟨g8, g11, g14, rfl, hM⟩
theorem qkg {w : World} : Sc w none 0 [] := ⟨⟨fun x hx => (by cases hx), fun h => absurd rfl h⟩, fun _ => rfl, Nat.le_refl _⟩
end Go.Proofs.YtjkpfnghiooblaaGreatDoor.G
namespace Go.Proofs.YtjkpfnghiooblaaGreatDoor.G
set_option linter.unusedVariables false
set_option linter.unusedSimpArgs false
/-- The number of bytes, the lowest first. -/
def leN : List UInt8 → Nat
  | [] => 0
  | b :: t => b.toNat + 256 * leN t
/-- Four bytes a word. -/
def pkW : List UInt8 → List Nat
  | [] => []
  | [a] => [a.toNat]
  | [a, b] => [a.toNat + 256 * b.toNat]
  | [a, b, c] => [a.toNat + 256 * b.toNat + 65536 * c.toNat]
  | a :: b :: c :: d :: t => (a.toNat + 256 * b.toNat + 65536 * c.toNat + 16777216 * d.toNat) :: pkW t
theorem qhf (s t : List UInt8) : leN (s ++ t) = leN s + 256 ^ s.length * leN t := by
  induction s with
  | nil => simp [leN]
  | cons b s ih =>
    rw [List.cons_append, leN, ih, leN, List.length_cons, Nat.pow_succ, Nat.mul_add, Nat.mul_comm (256 ^ s.length) 256, Nat.mul_assoc, Nat.add_assoc]
theorem qui : ∀ n : Nat, leN (List.replicate n 0) = 0
  | 0 => rfl
  | n + 1 => by rw [List.replicate_succ, leN, qui n]; rfl
theorem qfa (l : List UInt8) : ∃ n, l = va l ++ List.replicate n 0 := by
  have h : ∀ r : List UInt8, ∃ n, r = List.replicate n 0 ++ r.dropWhile (· == 0) := by
    intro r
    induction r with
    | nil => exact ⟨0, rfl⟩
    | cons b r ih =>
      by_cases hb : b = 0
      · subst hb
        obtain ⟨n, hn⟩ := ih
        refine ⟨n + 1, ?_⟩
        rw [List.dropWhile_cons_of_pos (by simp), List.replicate_succ, List.cons_append, ← hn]
      · exact ⟨0, by rw [List.dropWhile_cons_of_neg (by simpa using hb)]; rfl⟩
  obtain ⟨n, hn⟩ := h l.reverse
  refine ⟨n, ?_⟩
  have := congrArg List.reverse hn
  rw [List.reverse_reverse, List.reverse_append, List.reverse_replicate] at this
  exact this
theorem zxb (l : List UInt8) : leN (va l) = leN l := by
  obtain ⟨n, hn⟩ := qfa l
  rw [show leN l = leN (va l ++ List.replicate n 0) from congrArg leN hn, qhf, qui, Nat.mul_zero, Nat.add_zero]
theorem zif {l : List UInt8} (h : va l ≠ []) : (va l).getLast h ≠ 0 := by
  unfold va at h ⊢
  rw [List.getLast_reverse]
  have h2 : l.reverse.dropWhile (· == 0) ≠ [] := fun k => h (by rw [k]; rfl)
  have := List.head_dropWhile_not (p := (· == 0)) (l := l.reverse) h2
  simpa using this
theorem uk (b : UInt8) : b.toNat < 256 := UInt8.toNat_lt b
/-- Bytes whose last is not 0 are the words of their number. -/
theorem qkh : ∀ (l : List UInt8), (∀ h : l ≠ [], l.getLast h ≠ 0) → pkW l = words (leN l)
  | [], _ => by rw [leN, words_zero]; rfl
  | [a], h => by
    have h1 := uk a
    have h2 : a.toNat ≠ 0 := fun k => h (by simp) (UInt8.toNat_inj.1 k)
    rw [show leN [a] = a.toNat from by simp [leN], words_pos h2, Nat.mod_eq_of_lt (by omega), Nat.div_eq_of_lt (by omega), words_zero]
    rfl
  | [a, b], h => by
    have h1 := uk a
    have h3 := uk b
    have h2 : b.toNat ≠ 0 := fun k => h (by simp) (UInt8.toNat_inj.1 k)
    rw [show leN [a, b] = a.toNat + 256 * b.toNat from by simp [leN], words_pos (by omega), Nat.mod_eq_of_lt (by omega), Nat.div_eq_of_lt (by omega), words_zero]
    rfl
  | [a, b, c], h => by
    have h1 := uk a
    have h3 := uk b
    have h4 := uk c
    have h2 : c.toNat ≠ 0 := fun k => h (by simp) (UInt8.toNat_inj.1 k)
    rw [show leN [a, b, c] = a.toNat + 256 * b.toNat + 65536 * c.toNat from by simp [leN]; omega, words_pos (by omega), Nat.mod_eq_of_lt (by omega), Nat.div_eq_of_lt (by omega), words_zero]
    rfl
  | a :: b :: c :: d :: t, h => by
    have h1 := uk a
    have h3 := uk b
    have h4 := uk c
    have h5 := uk d
    have e : leN (a :: b :: c :: d :: t) = (a.toNat + 256 * b.toNat + 65536 * c.toNat + 16777216 * d.toNat) + 4294967296 * leN t := by simp only [leN]; omega
    have hne : leN (a :: b :: c :: d :: t) ≠ 0 := by
      rw [e]
      cases t with
      | nil =>
        have h2 : d.toNat ≠ 0 := fun k => h (by simp) (UInt8.toNat_inj.1 k)
        omega
      | cons x t =>
        have ih := qkh (x :: t) (fun hx => by have := h (by simp); simpa using this)
        intro k9
        have h0 : leN (x :: t) = 0 := by omega
        rw [h0, words_zero] at ih
        have : ∀ s : List UInt8, s ≠ [] → pkW s ≠ [] := by
          intro s hs
          match s, hs with
          | [_], _ => simp [pkW]
          | [_, _], _ => simp [pkW]
          | [_, _, _], _ => simp [pkW]
          | _ :: _ :: _ :: _ :: _, _ => simp [pkW]
        exact this _ (by simp) ih
    have ih := qkh t (fun hx => by
      have := h (by simp)
      rw [List.getLast_cons (by simp), List.getLast_cons (by simp), List.getLast_cons (by simp), List.getLast_cons hx] at this
      exact this)
    rw [words_pos hne, e, Nat.add_mul_mod_self_left, Nat.mod_eq_of_lt (by omega), Nat.add_mul_div_left _ _ (by omega), Nat.div_eq_of_lt (by omega), Nat.zero_add, ← ih]
    rfl
/-- The k-th word of the first i bytes. -/
def wdK (t : List UInt8) (i k : Nat) : Nat := leN (((t.take i).drop (4 * k)).take 4)
theorem quj : ∀ t : List UInt8, pkW t = (List.range ((t.length + 3) / 4)).map fun k => leN ((t.drop (4 * k)).take 4)
  | [] => rfl
  | [a] => by simp [pkW, leN, List.range_succ]
  | [a, b] => by simp [pkW, leN, List.range_succ]
  | [a, b, c] => by
    have e : ([a, b, c].length + 3) / 4 = 1 := by simp
    rw [e]
    simp only [pkW, List.range_one, List.map_cons, List.map_nil, List.cons.injEq, and_true, Nat.mul_zero, List.drop_zero]
    simp only [List.take_succ_cons, List.take_nil, leN]
    omega
  | a :: b :: c :: d :: t => by
    have e : ((a :: b :: c :: d :: t).length + 3) / 4 = (t.length + 3) / 4 + 1 := by simp only [List.length_cons]; omega
    rw [e, List.range_succ_eq_map, List.map_cons, List.map_map, pkW, quj t]
    congr 1
    · simp only [Nat.mul_zero, List.drop_zero, List.take_succ_cons, List.take_zero, leN]
      omega
theorem wdK_all {t : List UInt8} {k : Nat} : wdK t t.length k = leN ((t.drop (4 * k)).take 4) := by
  unfold wdK; rw [List.take_of_length_le (Nat.le_refl _)]
theorem qki : ∀ l : List UInt8, leN l < 256 ^ l.length
  | [] => by simp [leN]
  | b :: t => by
    have h1 := qki t
    have h2 := uk b
    rw [leN, List.length_cons, Nat.pow_succ]
    omega
theorem zqb {t : List UInt8} {i k : Nat} (hi : i < t.length) (hk : k ≠ i / 4) : wdK t (i + 1) k = wdK t i k := by
  unfold wdK
  rw [show t.take (i + 1) = t.take i ++ [t[i]] from by rw [List.take_add_one, List.getElem?_eq_getElem hi]; rfl]
  by_cases h : i < 4 * k
  · rw [List.drop_eq_nil_of_le (by rw [List.length_append, List.length_take]; simp only [List.length_cons, List.length_nil]; omega), List.drop_eq_nil_of_le (by rw [List.length_take]; omega)]
  · rw [List.drop_append_of_le_length (by rw [List.length_take]; omega), List.take_append_of_le_length (by rw [List.length_drop, List.length_take]; omega)]
theorem zxc {t : List UInt8} {i : Nat} (hi : i < t.length) : wdK t (i + 1) (i / 4) = wdK t i (i / 4) + 256 ^ (i % 4) * t[i].toNat ∧ wdK t i (i / 4) < 256 ^ (i % 4) := by
  have e1 : ((t.take i).drop (4 * (i / 4))).length = i % 4 := by rw [List.length_drop, List.length_take]; omega
  have e2 : ((t.take i).drop (4 * (i / 4))).take 4 = (t.take i).drop (4 * (i / 4)) := List.take_of_length_le (by omega)
  unfold wdK
  rw [show t.take (i + 1) = t.take i ++ [t[i]] from by rw [List.take_add_one, List.getElem?_eq_getElem hi]; rfl]
  rw [List.drop_append_of_le_length (by rw [List.length_take]; omega), List.take_of_length_le (by rw [List.length_append, e1]; simp only [List.length_cons, List.length_nil]; omega), e2, qhf, e1]
  refine ⟨by simp [leN], ?_⟩
  have := qki ((t.take i).drop (4 * (i / 4)))
  rw [e1] at this
  exact this
theorem or_add {a x s : Nat} (h : a < 2 ^ s) : a ||| (x <<< s) = a + 2 ^ s * x := by
  rw [Nat.or_comm, ← Nat.shiftLeft_add_eq_or_of_lt h, Nat.shiftLeft_eq, Nat.add_comm, Nat.mul_comm]
end Go.Proofs.YtjkpfnghiooblaaGreatDoor.G
namespace Go.Proofs.YtjkpfnghiooblaaGreatDoor.G
open Go.RowKit
set_option linter.unusedVariables false
set_option linter.unusedSimpArgs false
set_option maxRecDepth 100000
theorem ByN_is1_5 : Is1 Tryz.prog 5 := ⟨⟨_, Tryz.underlying5, rfl⟩, by kernel_rfl⟩
theorem ByN_is1_77 : Is1 Tryz.prog 77 := ⟨⟨_, Tryz.underlying77, rfl⟩, by kernel_rfl⟩
theorem ByN_fld_24_1 : FieldAt Tryz.prog 24 1 1 := ⟨_, _, Tryz.underlying24, rfl, rfl, by kernel_rfl⟩
theorem ByN_fld_26_0 : FieldAt Tryz.prog 26 0 0 := ⟨_, _, Tryz.underlying26, rfl, rfl, by kernel_rfl⟩
theorem ByN_isS_26 : IsS Tryz.prog 26 6 := ⟨⟨_, Tryz.underlying26⟩, by kernel_rfl⟩
def uC (ws : List Nat) : List Value := ws.map fun x => .int .u32 ((x : Nat) : Int)
def wsI (t : List UInt8) (m i : Nat) : List Nat := (List.range m).map (wdK t i)
theorem zig (n : Nat) : (madeCells (Value.int .u32 0).cells (n * 1)).toList = uC (wsI [] n 0) := by
 unfold madeCells uC wsI
 rw [Array.toList_map, Array.toList_range, Nat.mul_one, List.map_map]
 refine List.map_congr_left fun k _ => ?_
 show (Value.int .u32 0).cells[k % 1]! = _
 rw [Nat.mod_one]
 simp [wdK, leN]
 rfl
theorem zxd (t : List UInt8) (m : Nat) : wsI [] m 0 = wsI t m 0 := by
 unfold wsI
 refine List.map_congr_left fun k _ => ?_
 simp [wdK]
theorem rb_trim {w : World} {so : Option Addr} {l : List UInt8} (h : Rb w so l) : Rb w so (va l) := by
 obtain ⟨n, hn⟩ := qfa l
 have e : l.take (va l).length = va l := by
  rw [show l.take (va l).length = (va l ++ List.replicate n 0).take (va l).length from congrArg (List.take _) hn, List.take_left]
 exact e ▸ h.takeZ _
theorem qnh {t : List UInt8} {m i k : Nat} (h : k < m) : (uC (wsI t m i))[k * 1]? = some (.int .u32 ((wdK t i k : Nat) : Int)) := by
 rw [Nat.mul_one]
 unfold uC wsI
 rw [List.map_map, List.getElem?_map, List.getElem?_range h]
 rfl
theorem zxe {t : List UInt8} {m i : Nat} (hi : i < t.length) (hm : i / 4 < m) : over (uC (wsI t m i)) (i / 4 * 1) [.int .u32 ((wdK t (i + 1) (i / 4) : Nat) : Int)] = uC (wsI t m (i + 1)) := by
 rw [Nat.mul_one]
 show (uC (wsI t m i)).set (i / 4) _ = _
 refine List.ext_getElem? fun k => ?_
 have hl : (uC (wsI t m i)).length = m := by simp [uC, wsI]
 by_cases e : k = i / 4
 ·
  subst e
  rw [List.getElem?_set_self (by omega)]
  have := qnh (t := t) (i := i + 1) hm
  rw [Nat.mul_one] at this
  exact this.symm
 ·
  rw [List.getElem?_set_ne (fun k9 => e k9.symm)]
  by_cases hk : k < m
  ·
   have h1 := qnh (t := t) (i := i) hk
   have h2 := qnh (t := t) (i := i + 1) hk
   rw [Nat.mul_one] at h1 h2
   rw [h1, h2, zqb hi e]
  ·
   rw [List.getElem?_eq_none (by omega), List.getElem?_eq_none (by simp [uC, wsI]; omega)]
theorem zxf {l : List UInt8} : wsI (va l) (((va l).length + 3) / 4) (va l).length = words (leN l) := by
 unfold wsI
 rw [← zxb l, ← qkh (va l) (fun h => zif h), quj]
 exact List.map_congr_left fun k _ => wdK_all
theorem pow256 {r : Nat} : 256 ^ r = 2 ^ (r * 8) := by
 rw [Nat.mul_comm, Nat.pow_mul]
theorem wd_or {t : List UInt8} {i : Nat} (hi : i < t.length) : bits .or .u32 ((wdK t i (i / 4) : Nat) : Int) (((t.getD i 0).toNat * 2 ^ (i % 4 * 8) : Nat) : Int) = ((wdK t (i + 1) (i / 4) : Nat) : Int) ∧ (t.getD i 0).toNat * 2 ^ (i % 4 * 8) < 4294967296 := by
 obtain ⟨h1, h2⟩ := zxc hi
 have hx : t[i].toNat < 256 := UInt8.toNat_lt _
 have e : t.getD i 0 = t[i] := by rw [List.getD_eq_getElem?_getD, List.getElem?_eq_getElem hi]; rfl
 rw [e]
 have hp : 2 ^ (i % 4 * 8) ≤ 16777216 := by
  have : i % 4 = 0 ∨ i % 4 = 1 ∨ i % 4 = 2 ∨ i % 4 = 3 := by omega
  rcases this with h | h | h | h <;> rw [h] <;> decide
 have hb : t[i].toNat * 2 ^ (i % 4 * 8) < 4294967296 := by
  have := Nat.mul_le_mul (show t[i].toNat ≤ 255 by omega) hp
  omega
 rw [pow256] at h1 h2
 refine ⟨?_, hb⟩
 rw [or_u32 _ _ (by omega) hb, h1, ← Nat.shiftLeft_eq, or_add h2]
theorem qyc (x s : Nat) : ((x * 2 ^ s : Nat) : Int) = ((x : Nat) : Int) * 2 ^ s := by rw [Int.natCast_mul, Int.natCast_pow]; rfl
theorem kw {w : World} {so : Option Addr} {ca : Nat} {l : List UInt8} (hb : Rb w so l) (hca : l.length ≤ ca) (hl : l.length ≤ 64) : Calls Tryz.prog 74 #[.slice so l.length ca] w fun e w' => ∃ g1 g2 g3, e = .returned (.agg #[.bool false, .slice (some ⟨g1, 0, none⟩) (words (leN l)).length (words (leN l)).length, .slice (some ⟨g2, 0, none⟩) 1 2, .bool false, .slice none 0 0, .slice (some ⟨g3, 0, none⟩) 1 2]) ∧ Mg w w' [.row 77 1 (.slice (some ⟨g1, 0, none⟩) (words (leN l)).length (words (leN l)).length) (words (leN l)).length (uC (words (leN l))), .row 77 1 (.slice (some ⟨g2, 0, none⟩) 1 2) 1 [.int .u32 1], .row 77 1 (.slice (some ⟨g3, 0, none⟩) 1 2) 1 [.int .u32 1]] := by
 obtain ⟨t, ht⟩ : ∃ t, t = va l := ⟨_, rfl⟩
 have hbt : Rb w so t := ht ▸ rb_trim hb
 have htl : t.length ≤ 64 := by
  obtain ⟨n, hn⟩ := qfa l
  have h9 := congrArg List.length hn
  rw [List.length_append, ← ht] at h9
  omega
 have hM : Mg w w ([]) := Mg.start w
 refine qz (l := [(0, .slice so l.length ca)]) Tryz.func74 rfl Tryz.ntmps74 rfl rfl ?_
 intro Q hret hnorm hP a hA
 refine wsk fun K1 hK1 => wrl (xg (vs := [.bool false, .slice none 0 0, .slice none 0 0, .bool false, .slice none 0 0, .slice none 0 0]) (t := 26) hA hM rfl rfl rfl (fun g => .pointer (some ⟨g, 0, none⟩)) (qp (z := .agg #[.bool false, .slice none 0 0, .slice none 0 0, .bool false, .slice none 0 0, .slice none 0 0]) (by kernel_rfl) rfl) (by decide) ?_)
 intro g2 w3 hM a hA
 refine qb (hK1 _ _ (wsk fun K4 hK4 => wrl (sdo hA (qe rfl) fun a hA => ?_)))
 refine qj hA rfl rfl rfl (qf rfl rfl (fun w => by kernel_rfl)) ((show Calls Tryz.prog 116 _ _ (fun e w' => e = .returned (.slice so t.length ca) ∧ Below _ _ w') from ht ▸ qsf (hb.below hM.bel) (by omega) hca)) ?_
 rintro _ w6 ⟨rfl, hb5⟩
 replace hM := hM.call hb5
 refine ⟨_, rfl, ?_⟩
 intro a hA
 refine sdo hA (qa rfl) fun a hA => ?_
 refine qb (hK4 _ _ (wsk fun K7 hK7 => wrl (sdo hA (qe rfl) fun a hA => ?_)))
 refine sdo hA (zj Tryz.underlying31 rfl) fun a hA => ?_
 refine sdo (v := .int .i64 (((t.length + 4 : Nat) : Int))) hA (qg rfl rfl (ar_add ((in_i64 (by omega) (by omega)).trans (by omega)))) fun a hA => ?_
 refine sdo (v := .int .i64 (((t.length + 3 : Nat) : Int))) hA (qg rfl rfl (ar_sub ((in_i64 (by omega) (by omega)).trans (by omega)))) fun a hA => ?_
 refine sdo (v := .int .i64 ((((t.length + 3) / 4 : Nat) : Int))) hA (qg rfl rfl (ar_quo (by decide) ((congrArg IntKind.i64.wrap (Int.tdiv_eq_ediv_of_nonneg (by omega))).trans ((in_i64 (by omega) (by omega)).trans (by omega))))) fun a hA => ?_
 refine qnf (z := .int .u32 0) (sz := 1) (by_ := 4) (m := (t.length + 3) / 4) hA hM Tryz.underlying22 (by kernel_rfl) rfl rfl rfl rfl rfl rfl (by omega) (by omega) (.inl (by decide)) ?_
 intro gw w8 hM a hA
 rw [zig, zxd t] at hM
 refine sdo hA (qa rfl) fun a hA => ?_
 refine qb (hK7 _ _ (wsk fun K9 hK9 => wsk fun K10 hK10 => wrl (sdo hA (qe rfl) fun a hA => ?_)))
 refine sdo hA (zj Tryz.underlying31 rfl) fun a hA => ?_
 refine sdo hA (qe rfl) fun a hA => ?_
 refine qb (hK10 _ _ (wp_block (jw (fun m_ a w1 => ∃ (i : Nat), m_ = t.length - i ∧ (i ≤ t.length) ∧ Sl a 41 [(0, .slice so t.length ca), (2, .pointer (some ⟨g2, 0, none⟩)), (3, .slice (some ⟨gw, 0, none⟩) (((t.length + 3) / 4)) (((t.length + 3) / 4))), (7, .slice so l.length ca), (8, .slice so t.length ca), (9, .slice so t.length ca), (10, .int .i64 (((t.length : Nat) : Int))), (11, .int .i64 (((t.length + 4 : Nat) : Int))), (12, .int .i64 (((t.length + 3 : Nat) : Int))), (13, .int .i64 ((((t.length + 3) / 4 : Nat) : Int))), (14, .slice (some ⟨gw, 0, none⟩) (((t.length + 3) / 4)) (((t.length + 3) / 4))), (15, .slice so t.length ca), (16, .int .i64 (((t.length : Nat) : Int))), (17, .int .i64 (((i : Nat) : Int)))] ∧ Mg w w1 (.row 77 1 (.slice (some ⟨gw, 0, none⟩) (((t.length + 3) / 4)) (((t.length + 3) / 4))) (((t.length + 3) / 4)) ((uC (wsI t ((t.length + 3) / 4) i))) :: .obj g2 (.cells #[.bool false, .slice none 0 0, .slice none 0 0, .bool false, .slice none 0 0, .slice none 0 0] 26) :: [])) _ ⟨0, rfl, Nat.zero_le _, hA.keep _ ⟨rfl, rfl, rfl, rfl, rfl, rfl, rfl, rfl, rfl, rfl, rfl, rfl, rfl, rfl, trivial⟩, hM⟩ ?_)))
 clear hM hA
 rintro m_ a w11 ⟨i, rfl, hinv13, hA, hM⟩ K12 hK12
 have hi9 := hinv13
 refine wsk fun K14 hK14 => wrl ?_
 rcases tf (decide (((i : Nat) : Int) < ((t.length : Nat) : Int))) with hb15 | hb15
 ·
  have hb15' := of_decide_eq_true hb15
  refine sdo (v := .bool true) hA (qg rfl rfl (fun w => (zr w).trans (by rw [hb15]))) fun a hA => ?_
  refine qb (hK14 _ _ (wsk fun K16 hK16 => wp_cond_true (hA.ev rfl) ?_))
  refine wp_skip (hK16 _ _ (wsk fun K17 hK17 => wp_block (wsk fun K18 hK18 => wrl (sdo hA (qe rfl) fun a hA => ?_))))
  obtain ⟨bx, ox, hx1, hx2, hx3⟩ := zmh (i := i) hbt (by omega)
  have hX8 : (t.getD i 0).toNat < 256 := UInt8.toNat_lt _
  obtain ⟨hwo, hwb⟩ := wd_or (t := t) (i := i) (by omega)
  refine sdo (v := .pointer (some ⟨bx, ox + i, none⟩)) hA (zw Tryz.underlying31 (by kernel_rfl) rfl rfl rfl hx1 (show i < t.length by omega)) fun a hA => ?_
  refine sdo (v := .int .u8 ((((t.getD i 0).toNat : Nat) : Int))) hA (qga hM hx2 (hx3 i (by omega)) ByN_is1_5 rfl) fun a hA => ?_
  iterate 2 refine sdo hA (qa rfl) fun a hA => ?_
  refine qb (hK18 _ _ (jh (S := fun w1 => Mg w w1 ([])) (by kernel_rfl) ?_))
  replace hM := hM.drew
  refine ql hA 0 rfl rfl rfl rfl hP (hM.sub (.cons _ (.cons _ (List.nil_sublist _)))) (fun w1 hM => qe rfl) fun a hA => ?_
  refine ql hA 1 rfl rfl rfl rfl hP (hM.sub (.cons _ (.cons _ (List.nil_sublist _)))) (fun w1 hM => qe rfl) fun a hA => ?_
  refine ql (v := .int .i64 ((((i) / 4 : Nat) : Int))) hA 2 rfl rfl rfl rfl hP (hM.sub (.cons _ (.cons _ (List.nil_sublist _)))) (fun w1 hM => qg rfl rfl (ar_quo (by decide) ((congrArg IntKind.i64.wrap (Int.tdiv_eq_ediv_of_nonneg (by omega))).trans ((in_i64 (by omega) (by omega)).trans (by omega))))) fun a hA => ?_
  refine ql (v := .pointer (some ⟨gw, (i / 4) * 1, none⟩)) hA 3 rfl rfl rfl rfl hP (hM.sub (.cons _ (.cons _ (List.nil_sublist _)))) (fun w1 hM => jj Tryz.underlying22 (by kernel_rfl) rfl rfl rfl (show i / 4 < (t.length + 3) / 4 by omega)) fun a hA => ?_
  refine ql hA 5 rfl rfl rfl rfl hP (hM.sub (.cons _ (.cons _ (List.nil_sublist _)))) (fun w1 hM => qe rfl) fun a hA => ?_
  refine ql (v := .int .u32 ((((t.getD i 0).toNat : Nat) : Int))) hA 6 rfl rfl rfl rfl hP (hM.sub (.cons _ (.cons _ (List.nil_sublist _)))) (fun w1 hM => jv rfl (ar_conv Tryz.underlying5 Tryz.underlying77 (in_u32 (by omega) (by omega)))) fun a hA => ?_
  refine ql hA 7 rfl rfl rfl rfl hP (hM.sub (.cons _ (.cons _ (List.nil_sublist _)))) (fun w1 hM => qe rfl) fun a hA => ?_
  refine ql (v := .int .i64 (((i % 4 : Nat) : Int))) hA 8 rfl rfl rfl rfl hP (hM.sub (.cons _ (.cons _ (List.nil_sublist _)))) (fun w1 hM => qg rfl rfl (ar_rem (by decide) ((Int.tmod_eq_emod_of_nonneg (by omega)).trans (by omega)))) fun a hA => ?_
  refine ql (v := .int .i64 (((i % 4 * 8 : Nat) : Int))) hA 9 rfl rfl rfl rfl hP (hM.sub (.cons _ (.cons _ (List.nil_sublist _)))) (fun w1 hM => qg rfl rfl (ar_mul ((in_i64 (by omega) (by omega)).trans (by omega)))) fun a hA => ?_
  refine ql (v := .int .u32 ((((t.getD i 0).toNat * 2 ^ (i % 4 * 8) : Nat) : Int))) hA 10 rfl rfl rfl rfl hP (hM.sub (.cons _ (.cons _ (List.nil_sublist _)))) (fun w1 hM => qg rfl rfl (ar_shl (n := i % 4 * 8) rfl (Nat.ble_eq_true_of_le (show i % 4 * 8 ≤ 32 by omega)) ((in_u32 (by rw [← qyc]; omega) (by rw [← qyc]; omega)).trans (qyc _ _).symm))) fun a hA => ?_
  refine zd (by kernel_rfl) (qhi (v := .int .u32 (((wdK t i (i / 4) : Nat) : Int))) hA 4 rfl rfl rfl rfl (yw hM 0 rfl (qnh (by omega)) ByN_is1_77 rfl) (hM.sub (.cons _ (.cons _ (List.nil_sublist _)))) ?_)
  intro a hA
  refine ql (v := .int .u32 (((wdK t (i + 1) (i / 4) : Nat) : Int))) hA 11 rfl rfl rfl rfl hP (hM.sub (.cons _ (.cons _ (List.nil_sublist _)))) (fun w1 hM => qg rfl rfl (ar_or hwo)) fun a hA => ?_
  refine ql (v := .pointer (some ⟨gw, (i / 4) * 1, none⟩)) hA 12 rfl rfl rfl rfl hP (hM.sub (.cons _ (.cons _ (List.nil_sublist _)))) (fun w1 hM => jj Tryz.underlying22 (by kernel_rfl) rfl rfl rfl (show i / 4 < (t.length + 3) / 4 by omega)) fun a hA => ?_
  refine zd (by kernel_rfl) (qej (cs := [.int .u32 (((wdK t (i + 1) (i / 4) : Nat) : Int))]) (L' := (.row 77 1 (.slice (some ⟨gw, 0, none⟩) (((t.length + 3) / 4)) (((t.length + 3) / 4))) (((t.length + 3) / 4)) ((over (uC (wsI t ((t.length + 3) / 4) i)) ((i / 4) * 1) [.int .u32 (((wdK t (i + 1) (i / 4) : Nat) : Int))])) :: .obj g2 (.cells #[.bool false, .slice none 0 0, .slice none 0 0, .bool false, .slice none 0 0, .slice none 0 0] 26) :: [])) (us := []) hA hM 13 rfl rfl rfl (kl rfl rfl rfl (by kernel_rfl) hM 0 rfl (show (i / 4) * 1 + 1 ≤ (t.length + 3) / 4 * 1 by omega) rfl) 0 rfl rfl ?_)
  intro w19 hM
  replace hM : Mg w w19 (.row 77 1 (.slice (some ⟨gw, 0, none⟩) (((t.length + 3) / 4)) (((t.length + 3) / 4))) (((t.length + 3) / 4)) ((uC (wsI t ((t.length + 3) / 4) (i + 1)))) :: .obj g2 (.cells #[.bool false, .slice none 0 0, .slice none 0 0, .bool false, .slice none 0 0, .slice none 0 0] 26) :: []) := by
   have h9 := hM
   rw [zxe (by omega) (by omega)] at h9
   exact h9
  refine ⟨(hM.sub (.cons _ (.cons _ (List.nil_sublist _)))), ?_⟩
  refine zu (by kernel_rfl) ?_
  refine hK17 _ _ (wrl (sdo (v := .int .i64 (((i + 1 : Nat) : Int))) hA (qg rfl rfl (ar_add ((in_i64 (by omega) (by omega)).trans (by omega)))) fun a hA => ?_))
  refine sdo hA (qe rfl) fun a hA => ?_
  refine qb ?_
  refine hK12 _ _ _ (by omega) ⟨i + 1, rfl, (by omega), hA.keep _ ⟨rfl, rfl, rfl, rfl, rfl, rfl, rfl, rfl, rfl, rfl, rfl, rfl, rfl, rfl, trivial⟩, hM⟩
 ·
  have hb15' := of_decide_eq_false hb15
  refine sdo (v := .bool false) hA (qg rfl rfl (fun w => (zr w).trans (by rw [hb15]))) fun a hA => ?_
  refine qb (hK14 _ _ (wsk fun K20 hK20 => wp_cond_false (hA.ev rfl) ?_))
  refine wp_exit (hK9 _ _ (wsk fun K21 hK21 => wrl (qj hA rfl rfl rfl (qf rfl rfl (fun w => by kernel_rfl)) (zxa) ?_)))
  rintro _ w26 ⟨g22, g23, g24, rfl, hM25⟩
  replace hM : Mg w w26 (.row 77 1 (.slice (some ⟨g22, 0, none⟩) 0 2) 0 ([]) :: .row 77 1 (.slice (some ⟨g23, 0, none⟩) 1 2) 1 ([.int .u32 1]) :: .row 77 1 (.slice (some ⟨g24, 0, none⟩) 1 2) 1 ([.int .u32 1]) :: .row 77 1 (.slice (some ⟨gw, 0, none⟩) (((t.length + 3) / 4)) (((t.length + 3) / 4))) (((t.length + 3) / 4)) ((uC (wsI t ((t.length + 3) / 4) i))) :: .obj g2 (.cells #[.bool false, .slice none 0 0, .slice none 0 0, .bool false, .slice none 0 0, .slice none 0 0] 26) :: []) := (hM.both hM25 (qr (by simp) (qr (by simp) (zg zh))) (qr (by simp) (qr (by simp) (qr (by simp) (zg zh)))))
  refine ⟨_, rfl, ?_⟩
  intro a hA
  refine xg (vs := [.bool false, .slice none 0 0, .slice none 0 0, .bool false, .slice none 0 0, .slice none 0 0]) (t := 26) hA hM rfl rfl rfl (fun g => .pointer (some ⟨g, 0, none⟩)) (qp (z := .agg #[.bool false, .slice none 0 0, .slice none 0 0, .bool false, .slice none 0 0, .slice none 0 0]) (by kernel_rfl) rfl) (by decide) ?_
  intro g27 w28 hM a hA
  refine jl (us := [.bool false, .slice (some ⟨g22, 0, none⟩) 0 2, .slice (some ⟨g23, 0, none⟩) 1 2, .bool false, .slice none 0 0, .slice (some ⟨g24, 0, none⟩) 1 2]) (L' := (.obj g27 (.cells #[.bool false, .slice (some ⟨g22, 0, none⟩) 0 2, .slice (some ⟨g23, 0, none⟩) 1 2, .bool false, .slice none 0 0, .slice (some ⟨g24, 0, none⟩) 1 2] 26) :: .row 77 1 (.slice (some ⟨g22, 0, none⟩) 0 2) 0 ([]) :: .row 77 1 (.slice (some ⟨g23, 0, none⟩) 1 2) 1 ([.int .u32 1]) :: .row 77 1 (.slice (some ⟨g24, 0, none⟩) 1 2) 1 ([.int .u32 1]) :: .row 77 1 (.slice (some ⟨gw, 0, none⟩) (((t.length + 3) / 4)) (((t.length + 3) / 4))) (((t.length + 3) / 4)) ((uC (wsI t ((t.length + 3) / 4) i))) :: .obj g2 (.cells #[.bool false, .slice none 0 0, .slice none 0 0, .bool false, .slice none 0 0, .slice none 0 0] 26) :: [])) hA hM rfl rfl (zy rfl rfl rfl (by kernel_rfl) hM 0 rfl rfl rfl) 0 rfl rfl rfl ?_
  intro w29 hM
  refine qb (hK21 _ _ (wsk fun K30 hK30 => wrl (sdo hA (qe rfl) fun a hA => ?_)))
  refine sdo (v := .pointer (some ⟨g27, 0, none⟩)) hA (qh ByN_fld_26_0 rfl rfl) fun a hA => ?_
  refine sdo (v := .pointer (some ⟨g27, 1, none⟩)) hA (qh ByN_fld_24_1 rfl rfl) fun a hA => ?_
  refine jl (us := [.bool false, .slice (some ⟨gw, 0, none⟩) (((t.length + 3) / 4)) (((t.length + 3) / 4)), .slice (some ⟨g23, 0, none⟩) 1 2, .bool false, .slice none 0 0, .slice (some ⟨g24, 0, none⟩) 1 2]) (L' := (.obj g27 (.cells #[.bool false, .slice (some ⟨gw, 0, none⟩) (((t.length + 3) / 4)) (((t.length + 3) / 4)), .slice (some ⟨g23, 0, none⟩) 1 2, .bool false, .slice none 0 0, .slice (some ⟨g24, 0, none⟩) 1 2] 26) :: .row 77 1 (.slice (some ⟨g22, 0, none⟩) 0 2) 0 ([]) :: .row 77 1 (.slice (some ⟨g23, 0, none⟩) 1 2) 1 ([.int .u32 1]) :: .row 77 1 (.slice (some ⟨g24, 0, none⟩) 1 2) 1 ([.int .u32 1]) :: .row 77 1 (.slice (some ⟨gw, 0, none⟩) (((t.length + 3) / 4)) (((t.length + 3) / 4))) (((t.length + 3) / 4)) ((uC (wsI t ((t.length + 3) / 4) i))) :: .obj g2 (.cells #[.bool false, .slice none 0 0, .slice none 0 0, .bool false, .slice none 0 0, .slice none 0 0] 26) :: [])) hA hM rfl rfl (zy rfl rfl rfl (by kernel_rfl) hM 0 rfl rfl rfl) 0 rfl rfl rfl ?_
  intro w31 hM
  refine qb (hK30 _ _ (wsk fun K32 hK32 => wrl (sdo hA (zt hM ByN_isS_26 rfl 0 rfl (cs := [.bool false, .slice (some ⟨gw, 0, none⟩) (((t.length + 3) / 4)) (((t.length + 3) / 4)), .slice (some ⟨g23, 0, none⟩) 1 2, .bool false, .slice none 0 0, .slice (some ⟨g24, 0, none⟩) 1 2]) rfl rfl) fun a hA => ?_)))
  refine jl (us := [.bool false, .slice (some ⟨gw, 0, none⟩) (((t.length + 3) / 4)) (((t.length + 3) / 4)), .slice (some ⟨g23, 0, none⟩) 1 2, .bool false, .slice none 0 0, .slice (some ⟨g24, 0, none⟩) 1 2]) (L' := (.obj g27 (.cells #[.bool false, .slice (some ⟨gw, 0, none⟩) (((t.length + 3) / 4)) (((t.length + 3) / 4)), .slice (some ⟨g23, 0, none⟩) 1 2, .bool false, .slice none 0 0, .slice (some ⟨g24, 0, none⟩) 1 2] 26) :: .row 77 1 (.slice (some ⟨g22, 0, none⟩) 0 2) 0 ([]) :: .row 77 1 (.slice (some ⟨g23, 0, none⟩) 1 2) 1 ([.int .u32 1]) :: .row 77 1 (.slice (some ⟨g24, 0, none⟩) 1 2) 1 ([.int .u32 1]) :: .row 77 1 (.slice (some ⟨gw, 0, none⟩) (((t.length + 3) / 4)) (((t.length + 3) / 4))) (((t.length + 3) / 4)) ((uC (wsI t ((t.length + 3) / 4) i))) :: .obj g2 (.cells #[.bool false, .slice (some ⟨gw, 0, none⟩) (((t.length + 3) / 4)) (((t.length + 3) / 4)), .slice (some ⟨g23, 0, none⟩) 1 2, .bool false, .slice none 0 0, .slice (some ⟨g24, 0, none⟩) 1 2] 26) :: [])) hA hM rfl rfl (zy rfl rfl rfl (by kernel_rfl) hM 5 rfl rfl rfl) 5 rfl rfl rfl ?_
  intro w33 hM
  refine qb (hK32 _ _ (wp_ret (hret _ _ (en1 hA rfl (kv hM ByN_isS_26 rfl 5 rfl (cs := [.bool false, .slice (some ⟨gw, 0, none⟩) (((t.length + 3) / 4)) (((t.length + 3) / 4)), .slice (some ⟨g23, 0, none⟩) 1 2, .bool false, .slice none 0 0, .slice (some ⟨g24, 0, none⟩) 1 2]) rfl rfl) ?_))))
  replace hM : Mg w w33 (.row 77 1 (.slice (some ⟨g23, 0, none⟩) 1 2) 1 ([.int .u32 1]) :: .row 77 1 (.slice (some ⟨g24, 0, none⟩) 1 2) 1 ([.int .u32 1]) :: .row 77 1 (.slice (some ⟨gw, 0, none⟩) (((t.length + 3) / 4)) (((t.length + 3) / 4))) (((t.length + 3) / 4)) ((uC (wsI t ((t.length + 3) / 4) i))) :: []) := by
   have h9 := hM.sub (.cons _ (.cons _ (.cons_cons _ (.cons_cons _ (.cons_cons _ (.cons _ (.refl _)))))))
   exact h9
  replace hM : Mg w w33 (.row 77 1 (.slice (some ⟨g24, 0, none⟩) 1 2) 1 ([.int .u32 1]) :: .row 77 1 (.slice (some ⟨g23, 0, none⟩) 1 2) 1 ([.int .u32 1]) :: .row 77 1 (.slice (some ⟨gw, 0, none⟩) (((t.length + 3) / 4)) (((t.length + 3) / 4))) (((t.length + 3) / 4)) ((uC (wsI t ((t.length + 3) / 4) i))) :: []) := hM.perm (List.perm_middle (l₁ := [_]))
  replace hM : Mg w w33 (.row 77 1 (.slice (some ⟨g23, 0, none⟩) 1 2) 1 ([.int .u32 1]) :: .row 77 1 (.slice (some ⟨g24, 0, none⟩) 1 2) 1 ([.int .u32 1]) :: .row 77 1 (.slice (some ⟨gw, 0, none⟩) (((t.length + 3) / 4)) (((t.length + 3) / 4))) (((t.length + 3) / 4)) ((uC (wsI t ((t.length + 3) / 4) i))) :: []) := hM.perm (List.perm_middle (l₁ := [_]))
  replace hM : Mg w w33 (.row 77 1 (.slice (some ⟨gw, 0, none⟩) (((t.length + 3) / 4)) (((t.length + 3) / 4))) (((t.length + 3) / 4)) ((uC (wsI t ((t.length + 3) / 4) i))) :: .row 77 1 (.slice (some ⟨g23, 0, none⟩) 1 2) 1 ([.int .u32 1]) :: .row 77 1 (.slice (some ⟨g24, 0, none⟩) 1 2) 1 ([.int .u32 1]) :: []) := hM.perm (List.perm_middle (l₁ := [_, _]))
  obtain rfl : i = t.length := by omega
  have e9 : wsI t ((t.length + 3) / 4) t.length = words (leN l) := by subst ht; exact zxf
  have e8 : (t.length + 3) / 4 = (words (leN l)).length := by rw [← e9]; simp [wsI]
  rw [e9] at hM
  rw [e8] at hM ⊢
  exact ⟨gw, g23, g24, rfl, hM⟩
end Go.Proofs.YtjkpfnghiooblaaGreatDoor.G
namespace Go.Proofs.YtjkpfnghiooblaaGreatDoor.G
open Go.RowKit
set_option linter.unusedVariables false
set_option linter.unusedSimpArgs false

def zih (v : Value) : Bool := match v with | .int .u32 _ => false | _ => true
theorem zmi {v : Value} (h : zih v = true) : ∀ n, v ≠ .int .u32 n := by
  rintro n rfl
  cases h
/-- What is read as words in the one world is so in the other. -/
def Carry (w w' : World) : Prop := ∀ o l, Rd w o l → Rd w' o l
theorem Carry.trans {w w' w'' : World} (h : Carry w w') (k : Carry w' w'') : Carry w w'' := fun o l r => k o l (h o l r)
theorem qjb {w w' : World} {o : Option Addr} {c : Nat} {l : List Nat} (h : Sc w o c l) (hc : Carry w w') : Sc w' o c l := ⟨hc _ _ h.rd, h.nil, h.cap⟩
theorem xm {w w' : World} {q : Q6} {o1 o2 o3 o4 : Option Addr} {c1 c2 c3 c4 : Nat} (h : Nm w q o1 c1 o2 c2 o3 c3 o4 c4) (hc : Carry w w') : Nm w' q o1 c1 o2 c2 o3 c3 o4 c4 := ⟨qjb h.s1 hc, qjb h.s2 hc, qjb h.s3 hc, qjb h.s4 hc⟩
section
variable {P : Program} {w0 w : World} {L : List Ck} {l : List (Nat × Value)} {dst : Option Tmp} {ty : TypeId} {pos : String} {after : Array Edge} {guard : Option (Nat × Bool)} {v : Value}
theorem qrf {g : Nat} {t : TypeId} : ∀ (cs : List Value) (w : World) (L : List Ck) (vs : List Value) (o : Nat), Mg w0 w L → ∀ k : Nat, L[k]? = some (Ck.obj g (.cells vs.toArray t)) → o + cs.length ≤ vs.length → vs.all zih = true → cs.all zih = true → Carry w (w.setCells g o cs)
  | [], w, L, vs, o, h, k, hk, hl, h1, h2 => fun _ _ r => r
  | c :: cs, w, L, vs, o, h, k, hk, hl, h1, h2 => by
    have hp := h.put k hk o c
    have hk1 : (L.set k (.obj g (.cells (vs.set o c).toArray t)))[k]? = some (.obj g (.cells (vs.set o c).toArray t)) := List.getElem?_set_self (List.getElem?_eq_some_iff.1 hk).1
    simp only [List.length_cons] at hl
    simp only [List.all_cons, Bool.and_eq_true] at h2
    have hlt : o < vs.length := by omega
    have hv : (vs.set o c).all zih = true := by
      rw [List.all_eq_true] at h1 ⊢
      intro x hx
      rcases List.mem_or_eq_of_mem_set hx with k | k
      · exact h1 x k
      · rw [k]; exact h2.1
    have hrec := qrf cs _ _ _ (o + 1) hp k hk1 (by rw [List.length_set]; omega) hv h2.2
    refine Carry.trans ?_ hrec
    intro so ls r
    exact Rd.setNo r (h.cell k hk o (List.getElem?_eq_getElem hlt)) (zmi (List.all_eq_true.1 h1 _ (List.getElem_mem hlt))) c
theorem zda (w : World) (o : Obj) : Carry w (w.alloc o) := fun _ _ r => r.below ((Below.refl _ _).alloc (Nat.le_refl _) _)
variable {ops : List Oper} {Q : Exit → Act → World → Prop} {a : Act} {n : Nat} {o : Oper} {rest : List Oper} {d : Nat}
theorem ul (hA : Sl a n l) (hM : Mg w0 w L) (hg : jc l ops o = true) (hdst : o.dst = none) {g q : Nat} {cs vs us : List Value} {e : TypeId} (he : Sets P l o w (w.setCells g q cs)) (k : Nat) (hk0 : L[k]? = some (.obj g (.cells vs.toArray e))) (hus : over vs q cs = us) {L' : List Ck} (hL : L.set k (.obj g (.cells us.toArray e)) = L') (hl : Nat.ble (q + cs.length) vs.length = true) (h1 : vs.all zih = true) (h2 : cs.all zih = true)
    (hk : ∀ w', Mg w0 w' L' → Carry w w' → wpList P ops.toArray Q rest a w') : wpList P ops.toArray Q (o :: rest) a w :=
  qaj hA hg hdst he (hk _ (by subst hus hL; exact Mg.puts cs w L vs q hM k hk0) (qrf cs w L vs q hM k hk0 (Nat.le_of_ble_eq_true hl) h1 h2))
theorem qrg (hA : Sl a n l) (hM : Mg w0 w L) (hg : jc l ops o = true) (hdst : o.dst = some d) (hd : Nat.blt d n = true) {vs : List Value} {t : TypeId} (val : Nat → Value) (he : Does P l o w (val w.heap.size) (w.alloc (.cells vs.toArray t))) (ht : t ≠ BY)
    (hk : ∀ g w', Mg w0 w' (.obj g (.cells vs.toArray t) :: L) → Carry w w' → ∀ a', Sl a' n ((d, val g) :: l) → wpList P ops.toArray Q rest a' w') : wpList P ops.toArray Q (o :: rest) a w :=
  yi hA hg hdst hd he (hk _ _ (hM.addObj _ (qeh ht)) (zda _ _))
end
end Go.Proofs.YtjkpfnghiooblaaGreatDoor.G
namespace Go.Proofs.YtjkpfnghiooblaaGreatDoor.G
open Go.RowKit
set_option linter.unusedVariables false
set_option linter.unusedSimpArgs false
set_option maxRecDepth 100000
theorem ByO_is1_3 : Is1 Tryz.prog 3 := ⟨⟨_, Tryz.underlying3, rfl⟩, by kernel_rfl⟩
theorem ByO_is1_4 : Is1 Tryz.prog 4 := ⟨⟨_, Tryz.underlying4, rfl⟩, by kernel_rfl⟩
theorem ByO_is1_5 : Is1 Tryz.prog 5 := ⟨⟨_, Tryz.underlying5, rfl⟩, by kernel_rfl⟩
theorem ByO_fld_65_0 : FieldAt Tryz.prog 65 0 0 := ⟨_, _, Tryz.underlying65, rfl, rfl, by kernel_rfl⟩
theorem ByO_fld_65_2 : FieldAt Tryz.prog 65 2 2 := ⟨_, _, Tryz.underlying65, rfl, rfl, by kernel_rfl⟩
theorem ByO_isS_26 : IsS Tryz.prog 26 6 := ⟨⟨_, Tryz.underlying26⟩, by kernel_rfl⟩
theorem ByO_isS_65 : IsS Tryz.prog 65 3 := ⟨⟨_, Tryz.underlying65⟩, by kernel_rfl⟩
def zp (l : List UInt8) (i : Nat) : List UInt8 := (l.take i).map (fun b => 255 - b) ++ l.drop i
theorem yg (l : List UInt8) (i : Nat) : (zp l i).length = l.length := by unfold zp; simp; omega
theorem zdb (l : List UInt8) : zp l l.length = l.map (fun b => 255 - b) := by simp [zp]
theorem zmj (b : UInt8) : (255 - b).toNat = 255 - b.toNat := by
 have h := UInt8.toNat_lt b
 rw [UInt8.toNat_sub_of_le]
 ·
  rfl
 ·
  rw [UInt8.le_iff_toNat_le]
  show b.toNat ≤ 255
  omega
theorem kb {l : List UInt8} {i : Nat} (h : i < l.length) : (Lib.byteCells l)[i * 1]? = some (.int .u8 (((l.getD i 0).toNat : Nat) : Int)) := by
 rw [Nat.mul_one]
 unfold Lib.byteCells
 rw [List.getElem?_map, List.getElem?_eq_getElem h, List.getD_eq_getElem?_getD, List.getElem?_eq_getElem h]
 rfl
theorem zdc {l : List UInt8} {i : Nat} (h : i < l.length) : (Lib.byteCells (zp l i))[i * 1]? = some (.int .u8 (((l.getD i 0).toNat : Nat) : Int)) := by
 have h1 := kb (l := zp l i) (i := i) (by rw [yg]; exact h)
 have e : (zp l i).getD i 0 = l.getD i 0 := by
  unfold zp
  rw [List.getD_eq_getElem?_getD, List.getElem?_append_right (by simp; omega)]
  simp only [List.length_map, List.length_take]
  rw [List.getElem?_drop, List.getD_eq_getElem?_getD]
  congr 2
  omega
 rw [e] at h1
 exact h1
theorem qva {l : List UInt8} {i : Nat} (h : i < l.length) : over (Lib.byteCells (zp l i)) (i * 1) [.int .u8 ((255 - (l.getD i 0).toNat : Nat) : Int)] = Lib.byteCells (zp l (i + 1)) := by
 rw [Nat.mul_one]
 show (Lib.byteCells (zp l i)).set i _ = _
 have e : l.getD i 0 = l[i] := by rw [List.getD_eq_getElem?_getD, List.getElem?_eq_getElem h]; rfl
 rw [e, ← zmj]
 unfold Lib.byteCells zp
 rw [List.take_succ_eq_append_getElem h, List.drop_eq_getElem_cons h]
 simp only [List.map_append, List.map_cons, List.map_nil, List.append_assoc, List.cons_append, List.nil_append]
 rw [List.set_append_right _ _ (by simp; omega)]
 congr 1
 simp only [List.length_map, List.length_take, Nat.min_eq_left (Nat.le_of_lt h), Nat.sub_self, List.set_cons_zero]
theorem zdd (l : List UInt8) : leN (l.map fun b => 255 - b) + leN l + 1 = 256 ^ l.length := by
 induction l with
 | nil => simp [leN]
 | cons b t ih =>
  have h := UInt8.toNat_lt b
  simp only [List.map_cons, leN, List.length_cons, zmj]
  rw [Nat.pow_succ]
  omega
theorem zxg : ∀ x : Fin 256, bits .xor .u8 (if IntKind.u8.signed = true then -1 else IntKind.u8.max) ((x.val : Nat) : Int) = ((255 - x.val : Nat) : Int) := by decide +kernel
theorem zna {P : Program} {x : Nat} (h : x < 256) : ∀ w, (Op.unary .xor (.int .u8 ((x : Nat) : Int))).run P w = .ok (.int .u8 ((255 - x : Nat) : Int)) w := fun w => by
 have e := zxg ⟨x, h⟩
 simp [go_sem]
 exact e
def um (bg : Bool) (p : List UInt8) : List UInt8 := if bg = true then p.reverse else p
def kd (bg sg : Bool) (p : List UInt8) : Q6 := if sg = true ∧ 128 ≤ ((um bg p).getD (p.length - 1) 0).toNat then Q6.whole true (256 ^ p.length - leN (um bg p)) else Q6.whole false (leN (um bg p))
theorem qgc {w0 w : World} {L : List Ck} (hM : Mg w0 w L) (k : Nat) {g x : Nat} (hk : L[k]? = some (.row 77 1 (.slice (some ⟨g, 0, none⟩) (words x).length (words x).length) (words x).length (uC (words x)))) : Sc w (some ⟨g, 0, none⟩) (words x).length (words x) := by
 have hr : w.ownsRow w0.heap.size 77 1 (.slice (some ⟨g, 0, none⟩) (words x).length (words x).length) (words x).length (uC (words x)) := hM.has k hk
 refine ⟨⟨words_dig x, fun hne => ⟨g, 0, rfl, qyb hM k hk, fun j hj => ?_⟩⟩, (fun h => (by cases h)), Nat.le_refl _⟩
 rw [Nat.zero_add]
 refine qce hM k hk j _ ?_
 unfold uC
 rw [List.getElem?_map, List.getElem?_eq_getElem hj, List.getD_eq_getElem?_getD, List.getElem?_eq_getElem hj]
 rfl
theorem znb (bg : Bool) (p : List UInt8) : (um bg p).length = p.length := by unfold um; split <;> simp
theorem want0 {x : Nat} (hx : (words x).length ≤ 512) : jo (Q6.whole false x) = 0 := by
 unfold jo xe
 rw [vk hx (by simp)]
 simp [Q6.whole]
theorem qmg {x n : Nat} (hn : n ≤ 64) (h : x ≤ 256 ^ n) : (words x).length ≤ 512 := by
 have h1 : 256 ^ n ≤ 256 ^ 64 := Nat.pow_le_pow_right (by decide) hn
 have h2 : (256 : Nat) ^ 64 < pw 17 := by unfold pw; decide
 have h3 : (words x).length ≤ 17 := words_length_iff.2 (Nat.lt_of_le_of_lt (Nat.le_trans h h1) h2)
 omega
theorem qvb {w : World} {x n : Nat} (hn : n ≤ 64) (h : x < 256 ^ n) {o1 o2 o3 o4 : Option Addr} {c1 c2 c3 c4 : Nat} (ha : Nm w (Q6.whole false x) o1 c1 o2 c2 o3 c3 o4 c4) : Calls Tryz.prog 75 #[xb (Q6.whole false x) o1 c1 o2 c2 o3 c3 o4 c4] w (AnsN w (Q6.whole true (x + 1), 0)) := by
 have h1 := qmg hn (Nat.le_of_lt h)
 have h2 : (words (x + 1)).length ≤ 512 := qmg hn h
 have k := zsb ha (xj h1) (want0 h1) h1 (by simp)
 rw [qof (want0 h1), show qzi false x = x + 1 from rfl, yr h2] at k
 exact k
theorem qjc {w : World} {sp : Option Addr} {cp : Nat} {p : List UInt8} (hp : Rb w sp p) (hl1 : 1 ≤ p.length) (hl64 : p.length ≤ 64) : Calls Tryz.prog 29 #[.agg #[.int .i64 ((p.length : Nat) : Int), .bool true, .bool false], .slice sp p.length cp] w (AnsV w (kd true false p)) := by
 have hM : Mg w w ([]) := Mg.start w
 refine qz (l := [(0, .agg #[.int .i64 (((p.length : Nat) : Int)), .bool true, .bool false]), (1, .slice sp p.length cp)]) Tryz.func29 rfl Tryz.ntmps29 rfl rfl ?_
 intro Q hret hnorm hP a hA
 refine wsk fun K1 hK1 => wrl (xg (vs := [.int .i64 (((p.length : Nat) : Int)), .bool true, .bool false]) (t := 65) hA hM rfl rfl rfl (fun g => .pointer (some ⟨g, 0, none⟩)) (za rfl rfl) (by decide) ?_)
 intro g2 w3 hM a hA
 refine xg (vs := [.bool false, .slice none 0 0, .slice none 0 0, .bool false, .slice none 0 0, .slice none 0 0]) (t := 26) hA hM rfl rfl rfl (fun g => .pointer (some ⟨g, 0, none⟩)) (qp (z := .agg #[.bool false, .slice none 0 0, .slice none 0 0, .bool false, .slice none 0 0, .slice none 0 0]) (by kernel_rfl) rfl) (by decide) ?_
 intro g4 w5 hM a hA
 refine qb (hK1 _ _ (wsk fun K6 hK6 => wrl (sdo hA (zt hM ByO_isS_65 rfl 1 rfl (cs := [.int .i64 (((p.length : Nat) : Int)), .bool true, .bool false]) rfl rfl) fun a hA => ?_)))
 refine sdo hA (qe rfl) fun a hA => ?_
 refine qj hA rfl rfl rfl (qf rfl rfl (fun w => by kernel_rfl)) (uj (hp.below hM.bel) (by omega)) ?_
 rintro _ w9 ⟨g7, rfl, hM8⟩
 replace hM : Mg w w9 (.row BY 1 (.slice (some ⟨g7, 0, none⟩) p.length p.length) p.length ((Lib.byteCells p.reverse)) :: .obj g4 (.cells #[.bool false, .slice none 0 0, .slice none 0 0, .bool false, .slice none 0 0, .slice none 0 0] 26) :: .obj g2 (.cells #[.int .i64 (((p.length : Nat) : Int)), .bool true, .bool false] 65) :: []) := (hM.both hM8 (qr (by simp) (qr (by simp) (zg zh))) (qr (by simp) (zg zh)))
 refine ⟨_, rfl, ?_⟩
 intro a hA
 refine sdo hA (qa rfl) fun a hA => ?_
 refine qb (hK6 _ _ (wsk fun K10 hK10 => wsk fun K11 hK11 => wrl (sdo (v := .pointer (some ⟨g2, 2, none⟩)) hA (qh ByO_fld_65_2 rfl rfl) fun a hA => ?_)))
 refine sdo hA (zm hM ByO_is1_4 rfl 2 rfl rfl) fun a hA => ?_
 refine sdo (v := .bool true) hA (zk rfl zq) fun a hA => ?_
 refine sdo hA (qe rfl) fun a hA => ?_
 iterate 7 refine qy hA rfl rfl rfl fun a hA => ?_
 refine sdo (v := .bool true) hA (qi rfl rfl rfl rfl) fun a hA => ?_
 refine qb (hK11 _ _ (wp_cond_true (hA.ev rfl) ?_))
 refine wsk fun K12 hK12 => wrl (sdo hA (qe rfl) fun a hA => ?_)
 have hx17 : (p.reverse).length = p.length := by simp [yg]
 refine qj hA rfl rfl rfl (qf rfl rfl (fun w => by kernel_rfl)) ((by have h9 := kw (w := w9) (l := p.reverse) (ui (bs := p.reverse) hM 0 rfl).1 (ca := p.length) (by omega) (by omega); rw [hx17] at h9; exact h9)) ?_
 rintro _ w18 ⟨g13, g14, g15, rfl, hM16⟩
 replace hM : Mg w w18 (.row 77 1 (.slice (some ⟨g13, 0, none⟩) ((words (leN p.reverse)).length) ((words (leN p.reverse)).length)) ((words (leN p.reverse)).length) ((uC (words (leN p.reverse)))) :: .row 77 1 (.slice (some ⟨g14, 0, none⟩) 1 2) 1 ([.int .u32 1]) :: .row 77 1 (.slice (some ⟨g15, 0, none⟩) 1 2) 1 ([.int .u32 1]) :: .row BY 1 (.slice (some ⟨g7, 0, none⟩) p.length p.length) p.length ((Lib.byteCells p.reverse)) :: .obj g4 (.cells #[.bool false, .slice none 0 0, .slice none 0 0, .bool false, .slice none 0 0, .slice none 0 0] 26) :: .obj g2 (.cells #[.int .i64 (((p.length : Nat) : Int)), .bool true, .bool false] 65) :: []) := (hM.both hM16 (qr (by simp) (qr (by simp) (qr (by simp) (zg zh)))) (qr (by simp) (qr (by simp) (qr (by simp) (zg zh)))))
 refine ⟨_, rfl, ?_⟩
 intro a hA
 refine jl (us := [.bool false, .slice (some ⟨g13, 0, none⟩) ((words (leN p.reverse)).length) ((words (leN p.reverse)).length), .slice (some ⟨g14, 0, none⟩) 1 2, .bool false, .slice none 0 0, .slice (some ⟨g15, 0, none⟩) 1 2]) (L' := (.row 77 1 (.slice (some ⟨g13, 0, none⟩) ((words (leN p.reverse)).length) ((words (leN p.reverse)).length)) ((words (leN p.reverse)).length) ((uC (words (leN p.reverse)))) :: .row 77 1 (.slice (some ⟨g14, 0, none⟩) 1 2) 1 ([.int .u32 1]) :: .row 77 1 (.slice (some ⟨g15, 0, none⟩) 1 2) 1 ([.int .u32 1]) :: .row BY 1 (.slice (some ⟨g7, 0, none⟩) p.length p.length) p.length ((Lib.byteCells p.reverse)) :: .obj g4 (.cells #[.bool false, .slice (some ⟨g13, 0, none⟩) ((words (leN p.reverse)).length) ((words (leN p.reverse)).length), .slice (some ⟨g14, 0, none⟩) 1 2, .bool false, .slice none 0 0, .slice (some ⟨g15, 0, none⟩) 1 2] 26) :: .obj g2 (.cells #[.int .i64 (((p.length : Nat) : Int)), .bool true, .bool false] 65) :: [])) hA hM rfl rfl (zy rfl rfl rfl (by kernel_rfl) hM 4 rfl rfl rfl) 4 rfl rfl rfl ?_
 intro w19 hM
 refine qb (hK12 _ _ (wp_ret (hret _ _ (en1 hA rfl (kv hM ByO_isS_26 rfl 4 rfl (cs := [.bool false, .slice (some ⟨g13, 0, none⟩) ((words (leN p.reverse)).length) ((words (leN p.reverse)).length), .slice (some ⟨g14, 0, none⟩) 1 2, .bool false, .slice none 0 0, .slice (some ⟨g15, 0, none⟩) 1 2]) rfl rfl) ?_))))
 have e9 : kd true false p = Q6.whole false (leN p.reverse) := by unfold kd; rw [if_neg (fun h => (by cases h.1))]; rfl
 rw [e9]
 exact ⟨_, _, _, _, _, _, _, _, rfl, ⟨qgc hM 0 rfl, yu (x := 1) hM 1 rfl (by decide), qkg, yu (x := 1) hM 2 rfl (by decide)⟩, hM.bel⟩
theorem qkj {w : World} {sp : Option Addr} {cp : Nat} {p : List UInt8} (hp : Rb w sp p) (hl1 : 1 ≤ p.length) (hl64 : p.length ≤ 64) : Calls Tryz.prog 29 #[.agg #[.int .i64 ((p.length : Nat) : Int), .bool true, .bool true], .slice sp p.length cp] w (AnsV w (kd true true p)) := by
 have hM : Mg w w ([]) := Mg.start w
 refine qz (l := [(0, .agg #[.int .i64 (((p.length : Nat) : Int)), .bool true, .bool true]), (1, .slice sp p.length cp)]) Tryz.func29 rfl Tryz.ntmps29 rfl rfl ?_
 intro Q hret hnorm hP a hA
 refine wsk fun K1 hK1 => wrl (xg (vs := [.int .i64 (((p.length : Nat) : Int)), .bool true, .bool true]) (t := 65) hA hM rfl rfl rfl (fun g => .pointer (some ⟨g, 0, none⟩)) (za rfl rfl) (by decide) ?_)
 intro g2 w3 hM a hA
 refine xg (vs := [.bool false, .slice none 0 0, .slice none 0 0, .bool false, .slice none 0 0, .slice none 0 0]) (t := 26) hA hM rfl rfl rfl (fun g => .pointer (some ⟨g, 0, none⟩)) (qp (z := .agg #[.bool false, .slice none 0 0, .slice none 0 0, .bool false, .slice none 0 0, .slice none 0 0]) (by kernel_rfl) rfl) (by decide) ?_
 intro g4 w5 hM a hA
 refine qb (hK1 _ _ (wsk fun K6 hK6 => wrl (sdo hA (zt hM ByO_isS_65 rfl 1 rfl (cs := [.int .i64 (((p.length : Nat) : Int)), .bool true, .bool true]) rfl rfl) fun a hA => ?_)))
 refine sdo hA (qe rfl) fun a hA => ?_
 refine qj hA rfl rfl rfl (qf rfl rfl (fun w => by kernel_rfl)) (uj (hp.below hM.bel) (by omega)) ?_
 rintro _ w9 ⟨g7, rfl, hM8⟩
 replace hM : Mg w w9 (.row BY 1 (.slice (some ⟨g7, 0, none⟩) p.length p.length) p.length ((Lib.byteCells p.reverse)) :: .obj g4 (.cells #[.bool false, .slice none 0 0, .slice none 0 0, .bool false, .slice none 0 0, .slice none 0 0] 26) :: .obj g2 (.cells #[.int .i64 (((p.length : Nat) : Int)), .bool true, .bool true] 65) :: []) := (hM.both hM8 (qr (by simp) (qr (by simp) (zg zh))) (qr (by simp) (zg zh)))
 refine ⟨_, rfl, ?_⟩
 intro a hA
 refine sdo hA (qa rfl) fun a hA => ?_
 refine qb (hK6 _ _ (wsk fun K10 hK10 => wsk fun K11 hK11 => wrl (sdo (v := .pointer (some ⟨g2, 2, none⟩)) hA (qh ByO_fld_65_2 rfl rfl) fun a hA => ?_)))
 refine sdo hA (zm hM ByO_is1_4 rfl 2 rfl rfl) fun a hA => ?_
 refine sdo (v := .bool false) hA (zk rfl zq) fun a hA => ?_
 iterate 2 refine sdo hA (qe rfl) fun a hA => ?_
 refine sdo (v := .pointer (some ⟨g2, 0, none⟩)) hA (qh ByO_fld_65_0 rfl rfl) fun a hA => ?_
 refine sdo hA (zm hM ByO_is1_3 rfl 2 rfl rfl) fun a hA => ?_
 refine sdo (v := .int .i64 (((p.length - 1 : Nat) : Int))) hA (qg rfl rfl (ar_sub ((in_i64 (by omega) (by omega)).trans (by omega)))) fun a hA => ?_
 refine sdo (v := .pointer (some ⟨g7, (p.length - 1) * 1, none⟩)) hA (jj Tryz.underlying31 (by kernel_rfl) rfl rfl rfl (show p.length - 1 < p.length by omega)) fun a hA => ?_
 refine sdo (v := .int .u8 ((((p.reverse.getD (p.length - 1) 0).toNat : Nat) : Int))) hA (yw hM 0 rfl (kb (l := p.reverse) (i := p.length - 1) (by simp only [List.length_reverse]; omega)) ByO_is1_5 rfl) fun a hA => ?_
 rcases tf (decide ((((p.reverse.getD (p.length - 1) 0).toNat : Nat) : Int) < 128)) with hb12 | hb12
 ·
  have hb12' := of_decide_eq_true hb12
  refine sdo (v := .bool true) hA (qg rfl rfl (fun w => (zr w).trans (by rw [hb12]))) fun a hA => ?_
  refine sdo (v := .bool true) hA (qi rfl rfl rfl rfl) fun a hA => ?_
  refine qb (hK11 _ _ (wp_cond_true (hA.ev rfl) ?_))
  refine wsk fun K13 hK13 => wrl (sdo hA (qe rfl) fun a hA => ?_)
  have hx18 : (p.reverse).length = p.length := by simp [yg]
  refine qj hA rfl rfl rfl (qf rfl rfl (fun w => by kernel_rfl)) ((by have h9 := kw (w := w9) (l := p.reverse) (ui (bs := p.reverse) hM 0 rfl).1 (ca := p.length) (by omega) (by omega); rw [hx18] at h9; exact h9)) ?_
  rintro _ w19 ⟨g14, g15, g16, rfl, hM17⟩
  replace hM : Mg w w19 (.row 77 1 (.slice (some ⟨g14, 0, none⟩) ((words (leN p.reverse)).length) ((words (leN p.reverse)).length)) ((words (leN p.reverse)).length) ((uC (words (leN p.reverse)))) :: .row 77 1 (.slice (some ⟨g15, 0, none⟩) 1 2) 1 ([.int .u32 1]) :: .row 77 1 (.slice (some ⟨g16, 0, none⟩) 1 2) 1 ([.int .u32 1]) :: .row BY 1 (.slice (some ⟨g7, 0, none⟩) p.length p.length) p.length ((Lib.byteCells p.reverse)) :: .obj g4 (.cells #[.bool false, .slice none 0 0, .slice none 0 0, .bool false, .slice none 0 0, .slice none 0 0] 26) :: .obj g2 (.cells #[.int .i64 (((p.length : Nat) : Int)), .bool true, .bool true] 65) :: []) := (hM.both hM17 (qr (by simp) (qr (by simp) (qr (by simp) (zg zh)))) (qr (by simp) (qr (by simp) (qr (by simp) (zg zh)))))
  refine ⟨_, rfl, ?_⟩
  intro a hA
  refine jl (us := [.bool false, .slice (some ⟨g14, 0, none⟩) ((words (leN p.reverse)).length) ((words (leN p.reverse)).length), .slice (some ⟨g15, 0, none⟩) 1 2, .bool false, .slice none 0 0, .slice (some ⟨g16, 0, none⟩) 1 2]) (L' := (.row 77 1 (.slice (some ⟨g14, 0, none⟩) ((words (leN p.reverse)).length) ((words (leN p.reverse)).length)) ((words (leN p.reverse)).length) ((uC (words (leN p.reverse)))) :: .row 77 1 (.slice (some ⟨g15, 0, none⟩) 1 2) 1 ([.int .u32 1]) :: .row 77 1 (.slice (some ⟨g16, 0, none⟩) 1 2) 1 ([.int .u32 1]) :: .row BY 1 (.slice (some ⟨g7, 0, none⟩) p.length p.length) p.length ((Lib.byteCells p.reverse)) :: .obj g4 (.cells #[.bool false, .slice (some ⟨g14, 0, none⟩) ((words (leN p.reverse)).length) ((words (leN p.reverse)).length), .slice (some ⟨g15, 0, none⟩) 1 2, .bool false, .slice none 0 0, .slice (some ⟨g16, 0, none⟩) 1 2] 26) :: .obj g2 (.cells #[.int .i64 (((p.length : Nat) : Int)), .bool true, .bool true] 65) :: [])) hA hM rfl rfl (zy rfl rfl rfl (by kernel_rfl) hM 4 rfl rfl rfl) 4 rfl rfl rfl ?_
  intro w20 hM
  refine qb (hK13 _ _ (wp_ret (hret _ _ (en1 hA rfl (kv hM ByO_isS_26 rfl 4 rfl (cs := [.bool false, .slice (some ⟨g14, 0, none⟩) ((words (leN p.reverse)).length) ((words (leN p.reverse)).length), .slice (some ⟨g15, 0, none⟩) 1 2, .bool false, .slice none 0 0, .slice (some ⟨g16, 0, none⟩) 1 2]) rfl rfl) ?_))))
  have e9 : kd true true p = Q6.whole false (leN p.reverse) := by unfold kd; rw [if_neg (fun h => (by have h9 : 128 ≤ ((p.reverse).getD (p.length - 1) 0).toNat := h.2; omega))]; rfl
  rw [e9]
  exact ⟨_, _, _, _, _, _, _, _, rfl, ⟨qgc hM 0 rfl, yu (x := 1) hM 1 rfl (by decide), qkg, yu (x := 1) hM 2 rfl (by decide)⟩, hM.bel⟩
 ·
  have hb12' := of_decide_eq_false hb12
  refine sdo (v := .bool false) hA (qg rfl rfl (fun w => (zr w).trans (by rw [hb12]))) fun a hA => ?_
  refine sdo (v := .bool false) hA (qi rfl rfl rfl rfl) fun a hA => ?_
  refine qb (hK11 _ _ (wp_cond_false (hA.ev rfl) ?_))
  refine wp_skip (hK10 _ _ (wsk fun K21 hK21 => wsk fun K22 hK22 => wrl (sdo hA (qe rfl) fun a hA => ?_)))
  refine sdo hA (zj Tryz.underlying31 rfl) fun a hA => ?_
  refine sdo hA (qe rfl) fun a hA => ?_
  refine qb (hK22 _ _ (wp_block (jw (fun m_ a w1 => ∃ (i : Nat), m_ = p.length - i ∧ (i ≤ p.length) ∧ Sl a 47 [(0, .agg #[.int .i64 (((p.length : Nat) : Int)), .bool true, .bool true]), (1, .slice sp p.length cp), (2, .pointer (some ⟨g2, 0, none⟩)), (4, .pointer (some ⟨g4, 0, none⟩)), (5, .slice (some ⟨g7, 0, none⟩) p.length p.length), (9, .agg #[.int .i64 (((p.length : Nat) : Int)), .bool true, .bool true]), (10, .slice sp p.length cp), (11, .slice (some ⟨g7, 0, none⟩) p.length p.length), (12, .pointer (some ⟨g2, 2, none⟩)), (13, .bool true), (14, .bool false), (15, .bool false), (16, .slice (some ⟨g7, 0, none⟩) p.length p.length), (17, .pointer (some ⟨g2, 0, none⟩)), (18, .int .i64 (((p.length : Nat) : Int))), (19, .int .i64 (((p.length - 1 : Nat) : Int))), (20, .pointer (some ⟨g7, (p.length - 1) * 1, none⟩)), (21, .int .u8 ((((p.reverse.getD (p.length - 1) 0).toNat : Nat) : Int))), (22, .bool false), (23, .bool false), (26, .slice (some ⟨g7, 0, none⟩) p.length p.length), (27, .int .i64 (((p.length : Nat) : Int))), (28, .int .i64 (((i : Nat) : Int)))] ∧ Mg w w1 (.row BY 1 (.slice (some ⟨g7, 0, none⟩) p.length p.length) p.length ((Lib.byteCells (zp p.reverse i))) :: .obj g4 (.cells #[.bool false, .slice none 0 0, .slice none 0 0, .bool false, .slice none 0 0, .slice none 0 0] 26) :: .obj g2 (.cells #[.int .i64 (((p.length : Nat) : Int)), .bool true, .bool true] 65) :: [])) _ ⟨0, rfl, Nat.zero_le _, hA.keep _ ⟨rfl, rfl, rfl, rfl, rfl, rfl, rfl, rfl, rfl, rfl, rfl, rfl, rfl, rfl, rfl, rfl, rfl, rfl, rfl, rfl, rfl, rfl, rfl, trivial⟩, hM⟩ ?_)))
  clear hM hA
  rintro m_ a w23 ⟨i, rfl, hinv25, hA, hM⟩ K24 hK24
  have hi9 := hinv25
  refine wsk fun K26 hK26 => wrl ?_
  rcases tf (decide (((i : Nat) : Int) < ((p.length : Nat) : Int))) with hb27 | hb27
  ·
   have hb27' := of_decide_eq_true hb27
   refine sdo (v := .bool true) hA (qg rfl rfl (fun w => (zr w).trans (by rw [hb27]))) fun a hA => ?_
   refine qb (hK26 _ _ (wsk fun K28 hK28 => wp_cond_true (hA.ev rfl) ?_))
   refine wp_skip (hK28 _ _ (wsk fun K29 hK29 => wp_block (wsk fun K30 hK30 => wrl (sdo hA (qe rfl) fun a hA => ?_))))
   refine sdo hA (qa rfl) fun a hA => ?_
   refine qb (hK30 _ _ (wrl ?_))
   iterate 4 refine sdo hA (qe rfl) fun a hA => ?_
   refine sdo (v := .pointer (some ⟨g7, (i) * 1, none⟩)) hA (jj Tryz.underlying31 (by kernel_rfl) rfl rfl rfl (show i < p.length by omega)) fun a hA => ?_
   refine sdo (v := .int .u8 ((((p.reverse.getD (i) 0).toNat : Nat) : Int))) hA (yw hM 0 rfl (zdc (l := p.reverse) (i := i) (by simp only [List.length_reverse]; omega)) ByO_is1_5 rfl) fun a hA => ?_
   have hX8 : (p.reverse.getD i 0).toNat < 256 := UInt8.toNat_lt _
   refine sdo (v := .int .u8 (((255 - (p.reverse.getD i 0).toNat : Nat) : Int))) hA (zk rfl (zna hX8)) fun a hA => ?_
   refine sdo (v := .pointer (some ⟨g7, (i) * 1, none⟩)) hA (jj Tryz.underlying31 (by kernel_rfl) rfl rfl rfl (show i < p.length by omega)) fun a hA => ?_
   refine zci (cs := [.int .u8 (((255 - (p.reverse.getD i 0).toNat : Nat) : Int))]) (L' := (.row BY 1 (.slice (some ⟨g7, 0, none⟩) p.length p.length) p.length ((over (Lib.byteCells (zp p.reverse i)) ((i) * 1) [.int .u8 (((255 - (p.reverse.getD i 0).toNat : Nat) : Int))])) :: .obj g4 (.cells #[.bool false, .slice none 0 0, .slice none 0 0, .bool false, .slice none 0 0, .slice none 0 0] 26) :: .obj g2 (.cells #[.int .i64 (((p.length : Nat) : Int)), .bool true, .bool true] 65) :: [])) (us := []) hA hM rfl rfl (kl rfl rfl rfl (by kernel_rfl) hM 0 rfl (show (i) * 1 + 1 ≤ p.length * 1 by omega) rfl) 0 rfl rfl ?_
   intro w31 hM
   replace hM : Mg w w31 (.row BY 1 (.slice (some ⟨g7, 0, none⟩) p.length p.length) p.length ((Lib.byteCells (zp p.reverse (i + 1)))) :: .obj g4 (.cells #[.bool false, .slice none 0 0, .slice none 0 0, .bool false, .slice none 0 0, .slice none 0 0] 26) :: .obj g2 (.cells #[.int .i64 (((p.length : Nat) : Int)), .bool true, .bool true] 65) :: []) := by
    have h9 := hM
    rw [qva (l := p.reverse) (by simp only [List.length_reverse]; omega)] at h9
    exact h9
   refine qb (hK29 _ _ (wrl (sdo (v := .int .i64 (((i + 1 : Nat) : Int))) hA (qg rfl rfl (ar_add ((in_i64 (by omega) (by omega)).trans (by omega)))) fun a hA => ?_)))
   refine sdo hA (qe rfl) fun a hA => ?_
   refine qb ?_
   refine hK24 _ _ _ (by omega) ⟨i + 1, rfl, (by omega), hA.keep _ ⟨rfl, rfl, rfl, rfl, rfl, rfl, rfl, rfl, rfl, rfl, rfl, rfl, rfl, rfl, rfl, rfl, rfl, rfl, rfl, rfl, rfl, rfl, rfl, trivial⟩, hM⟩
  ·
   have hb27' := of_decide_eq_false hb27
   refine sdo (v := .bool false) hA (qg rfl rfl (fun w => (zr w).trans (by rw [hb27]))) fun a hA => ?_
   refine qb (hK26 _ _ (wsk fun K32 hK32 => wp_cond_false (hA.ev rfl) ?_))
   refine wp_exit (hK21 _ _ (wsk fun K33 hK33 => wrl (sdo hA (qe rfl) fun a hA => ?_)))
   have hx38 : (zp p.reverse i).length = p.length := by simp [yg]
   refine qj hA rfl rfl rfl (qf rfl rfl (fun w => by kernel_rfl)) ((by have h9 := kw (w := w23) (l := zp p.reverse i) (ui (bs := zp p.reverse i) hM 0 rfl).1 (ca := p.length) (by omega) (by omega); rw [hx38] at h9; exact h9)) ?_
   rintro _ w39 ⟨g34, g35, g36, rfl, hM37⟩
   replace hM : Mg w w39 (.row 77 1 (.slice (some ⟨g34, 0, none⟩) ((words (leN (zp p.reverse i))).length) ((words (leN (zp p.reverse i))).length)) ((words (leN (zp p.reverse i))).length) ((uC (words (leN (zp p.reverse i))))) :: .row 77 1 (.slice (some ⟨g35, 0, none⟩) 1 2) 1 ([.int .u32 1]) :: .row 77 1 (.slice (some ⟨g36, 0, none⟩) 1 2) 1 ([.int .u32 1]) :: .row BY 1 (.slice (some ⟨g7, 0, none⟩) p.length p.length) p.length ((Lib.byteCells (zp p.reverse i))) :: .obj g4 (.cells #[.bool false, .slice none 0 0, .slice none 0 0, .bool false, .slice none 0 0, .slice none 0 0] 26) :: .obj g2 (.cells #[.int .i64 (((p.length : Nat) : Int)), .bool true, .bool true] 65) :: []) := (hM.both hM37 (qr (by simp) (qr (by simp) (qr (by simp) (zg zh)))) (qr (by simp) (qr (by simp) (qr (by simp) (zg zh)))))
   refine ⟨_, rfl, ?_⟩
   intro a hA
   have hN9 : Nm _ (Q6.whole false (leN (zp p.reverse i))) (some ⟨g34, 0, none⟩) (words (leN (zp p.reverse i))).length (some ⟨g35, 0, none⟩) 2 none 0 (some ⟨g36, 0, none⟩) 2 := ⟨qgc hM 0 rfl, yu (x := 1) hM 1 rfl (by decide), qkg, yu (x := 1) hM 2 rfl (by decide)⟩
   have hlt9 : leN (zp p.reverse i) < 256 ^ p.length := by have h9 := qki (zp p.reverse i); rw [show (zp p.reverse i).length = p.length from by simp [yg]] at h9; exact h9
   refine qj hA rfl rfl rfl (qf rfl rfl (fun w => by kernel_rfl)) (qvb hl64 hlt9 hN9) ?_
   rintro _ w43 ⟨o42_1, o42_c1, o42_2, o42_c2, o42_3, o42_c3, o42_4, o42_c4, rfl, hn40, hb41⟩
   replace hM := hM.call hb41
   refine ⟨_, rfl, ?_⟩
   intro a hA
   refine sdo hA (qe rfl) fun a hA => ?_
   iterate 2 refine sdo hA (qs (vs := [.agg #[.bool true, .slice o42_1 ((words (leN (zp p.reverse i) + 1)).length) o42_c1, .slice o42_2 1 o42_c2, .bool false, .slice o42_3 0 o42_c3, .slice o42_4 1 o42_c4], .int .i64 0]) rfl rfl) fun a hA => ?_
   refine qrg (vs := [.bool false, .slice none 0 0, .slice none 0 0, .bool false, .slice none 0 0, .slice none 0 0]) (t := 26) hA hM rfl rfl rfl (fun g => .pointer (some ⟨g, 0, none⟩)) (qp (z := .agg #[.bool false, .slice none 0 0, .slice none 0 0, .bool false, .slice none 0 0, .slice none 0 0]) (by kernel_rfl) rfl) (by decide) ?_
   intro g44 w45 hM hc46 a hA
   replace hn40 := xm hn40 hc46
   refine ul (us := [.bool true, .slice o42_1 ((words (leN (zp p.reverse i) + 1)).length) o42_c1, .slice o42_2 1 o42_c2, .bool false, .slice o42_3 0 o42_c3, .slice o42_4 1 o42_c4]) (L' := (.obj g44 (.cells #[.bool true, .slice o42_1 ((words (leN (zp p.reverse i) + 1)).length) o42_c1, .slice o42_2 1 o42_c2, .bool false, .slice o42_3 0 o42_c3, .slice o42_4 1 o42_c4] 26) :: .row 77 1 (.slice (some ⟨g34, 0, none⟩) ((words (leN (zp p.reverse i))).length) ((words (leN (zp p.reverse i))).length)) ((words (leN (zp p.reverse i))).length) ((uC (words (leN (zp p.reverse i))))) :: .row 77 1 (.slice (some ⟨g35, 0, none⟩) 1 2) 1 ([.int .u32 1]) :: .row 77 1 (.slice (some ⟨g36, 0, none⟩) 1 2) 1 ([.int .u32 1]) :: .row BY 1 (.slice (some ⟨g7, 0, none⟩) p.length p.length) p.length ((Lib.byteCells (zp p.reverse i))) :: .obj g4 (.cells #[.bool false, .slice none 0 0, .slice none 0 0, .bool false, .slice none 0 0, .slice none 0 0] 26) :: .obj g2 (.cells #[.int .i64 (((p.length : Nat) : Int)), .bool true, .bool true] 65) :: [])) hA hM rfl rfl (zy rfl rfl rfl (by kernel_rfl) hM 0 rfl rfl rfl) 0 rfl rfl rfl rfl rfl rfl ?_
   intro w47 hM hc48
   replace hn40 := xm hn40 hc48
   refine sdo hA (qa rfl) fun a hA => ?_
   refine qb (hK33 _ _ (wsk fun K49 hK49 => wrl (sdo hA (zt hM ByO_isS_26 rfl 0 rfl (cs := [.bool true, .slice o42_1 ((words (leN (zp p.reverse i) + 1)).length) o42_c1, .slice o42_2 1 o42_c2, .bool false, .slice o42_3 0 o42_c3, .slice o42_4 1 o42_c4]) rfl rfl) fun a hA => ?_)))
   refine ul (us := [.bool true, .slice o42_1 ((words (leN (zp p.reverse i) + 1)).length) o42_c1, .slice o42_2 1 o42_c2, .bool false, .slice o42_3 0 o42_c3, .slice o42_4 1 o42_c4]) (L' := (.obj g44 (.cells #[.bool true, .slice o42_1 ((words (leN (zp p.reverse i) + 1)).length) o42_c1, .slice o42_2 1 o42_c2, .bool false, .slice o42_3 0 o42_c3, .slice o42_4 1 o42_c4] 26) :: .row 77 1 (.slice (some ⟨g34, 0, none⟩) ((words (leN (zp p.reverse i))).length) ((words (leN (zp p.reverse i))).length)) ((words (leN (zp p.reverse i))).length) ((uC (words (leN (zp p.reverse i))))) :: .row 77 1 (.slice (some ⟨g35, 0, none⟩) 1 2) 1 ([.int .u32 1]) :: .row 77 1 (.slice (some ⟨g36, 0, none⟩) 1 2) 1 ([.int .u32 1]) :: .row BY 1 (.slice (some ⟨g7, 0, none⟩) p.length p.length) p.length ((Lib.byteCells (zp p.reverse i))) :: .obj g4 (.cells #[.bool true, .slice o42_1 ((words (leN (zp p.reverse i) + 1)).length) o42_c1, .slice o42_2 1 o42_c2, .bool false, .slice o42_3 0 o42_c3, .slice o42_4 1 o42_c4] 26) :: .obj g2 (.cells #[.int .i64 (((p.length : Nat) : Int)), .bool true, .bool true] 65) :: [])) hA hM rfl rfl (zy rfl rfl rfl (by kernel_rfl) hM 5 rfl rfl rfl) 5 rfl rfl rfl rfl rfl rfl ?_
   intro w50 hM hc51
   replace hn40 := xm hn40 hc51
   refine qb (hK49 _ _ (wp_ret (hret _ _ (en1 hA rfl (kv hM ByO_isS_26 rfl 5 rfl (cs := [.bool true, .slice o42_1 ((words (leN (zp p.reverse i) + 1)).length) o42_c1, .slice o42_2 1 o42_c2, .bool false, .slice o42_3 0 o42_c3, .slice o42_4 1 o42_c4]) rfl rfl) ?_))))
   have hi8 : i = p.length := by omega
   subst hi8
   have e9 : kd true true p = Q6.whole true (leN (zp p.reverse p.length) + 1) := by
    unfold kd
    rw [if_pos ⟨rfl, (show 128 ≤ ((p.reverse).getD (p.length - 1) 0).toNat from by omega)⟩]
    have h8 := zdd p.reverse
    rw [← zdb, show (p.reverse).length = p.length from by simp] at h8
    rw [(show um true p = p.reverse from rfl), show 256 ^ p.length - leN p.reverse = leN (zp p.reverse p.length) + 1 from by omega]
   rw [e9]
   exact ⟨_, _, _, _, _, _, _, _, rfl, hn40, hM.bel⟩
theorem qhg {w : World} {sp : Option Addr} {cp : Nat} {p : List UInt8} (hp : Rb w sp p) (hl1 : 1 ≤ p.length) (hl64 : p.length ≤ 64) : Calls Tryz.prog 29 #[.agg #[.int .i64 ((p.length : Nat) : Int), .bool false, .bool false], .slice sp p.length cp] w (AnsV w (kd false false p)) := by
 have hM : Mg w w ([]) := Mg.start w
 refine qz (l := [(0, .agg #[.int .i64 (((p.length : Nat) : Int)), .bool false, .bool false]), (1, .slice sp p.length cp)]) Tryz.func29 rfl Tryz.ntmps29 rfl rfl ?_
 intro Q hret hnorm hP a hA
 refine wsk fun K1 hK1 => wrl (xg (vs := [.int .i64 (((p.length : Nat) : Int)), .bool false, .bool false]) (t := 65) hA hM rfl rfl rfl (fun g => .pointer (some ⟨g, 0, none⟩)) (za rfl rfl) (by decide) ?_)
 intro g2 w3 hM a hA
 refine xg (vs := [.bool false, .slice none 0 0, .slice none 0 0, .bool false, .slice none 0 0, .slice none 0 0]) (t := 26) hA hM rfl rfl rfl (fun g => .pointer (some ⟨g, 0, none⟩)) (qp (z := .agg #[.bool false, .slice none 0 0, .slice none 0 0, .bool false, .slice none 0 0, .slice none 0 0]) (by kernel_rfl) rfl) (by decide) ?_
 intro g4 w5 hM a hA
 refine qb (hK1 _ _ (wsk fun K6 hK6 => wrl (sdo hA (zt hM ByO_isS_65 rfl 1 rfl (cs := [.int .i64 (((p.length : Nat) : Int)), .bool false, .bool false]) rfl rfl) fun a hA => ?_)))
 refine sdo hA (qe rfl) fun a hA => ?_
 refine qj hA rfl rfl rfl (qf rfl rfl (fun w => by kernel_rfl)) (yt (hp.below hM.bel) (by omega)) ?_
 rintro _ w9 ⟨g7, rfl, hM8⟩
 replace hM : Mg w w9 (.row BY 1 (.slice (some ⟨g7, 0, none⟩) p.length p.length) p.length ((Lib.byteCells p)) :: .obj g4 (.cells #[.bool false, .slice none 0 0, .slice none 0 0, .bool false, .slice none 0 0, .slice none 0 0] 26) :: .obj g2 (.cells #[.int .i64 (((p.length : Nat) : Int)), .bool false, .bool false] 65) :: []) := (hM.both hM8 (qr (by simp) (qr (by simp) (zg zh))) (qr (by simp) (zg zh)))
 refine ⟨_, rfl, ?_⟩
 intro a hA
 refine sdo hA (qa rfl) fun a hA => ?_
 refine qb (hK6 _ _ (wsk fun K10 hK10 => wsk fun K11 hK11 => wrl (sdo (v := .pointer (some ⟨g2, 2, none⟩)) hA (qh ByO_fld_65_2 rfl rfl) fun a hA => ?_)))
 refine sdo hA (zm hM ByO_is1_4 rfl 2 rfl rfl) fun a hA => ?_
 refine sdo (v := .bool true) hA (zk rfl zq) fun a hA => ?_
 refine sdo hA (qe rfl) fun a hA => ?_
 iterate 7 refine qy hA rfl rfl rfl fun a hA => ?_
 refine sdo (v := .bool true) hA (qi rfl rfl rfl rfl) fun a hA => ?_
 refine qb (hK11 _ _ (wp_cond_true (hA.ev rfl) ?_))
 refine wsk fun K12 hK12 => wrl (sdo hA (qe rfl) fun a hA => ?_)
 have hx17 : (p).length = p.length := by simp [yg]
 refine qj hA rfl rfl rfl (qf rfl rfl (fun w => by kernel_rfl)) (kw (l := p) (ui (bs := p) hM 0 rfl).1 (by omega) (by omega)) ?_
 rintro _ w18 ⟨g13, g14, g15, rfl, hM16⟩
 replace hM : Mg w w18 (.row 77 1 (.slice (some ⟨g13, 0, none⟩) ((words (leN p)).length) ((words (leN p)).length)) ((words (leN p)).length) ((uC (words (leN p)))) :: .row 77 1 (.slice (some ⟨g14, 0, none⟩) 1 2) 1 ([.int .u32 1]) :: .row 77 1 (.slice (some ⟨g15, 0, none⟩) 1 2) 1 ([.int .u32 1]) :: .row BY 1 (.slice (some ⟨g7, 0, none⟩) p.length p.length) p.length ((Lib.byteCells p)) :: .obj g4 (.cells #[.bool false, .slice none 0 0, .slice none 0 0, .bool false, .slice none 0 0, .slice none 0 0] 26) :: .obj g2 (.cells #[.int .i64 (((p.length : Nat) : Int)), .bool false, .bool false] 65) :: []) := (hM.both hM16 (qr (by simp) (qr (by simp) (qr (by simp) (zg zh)))) (qr (by simp) (qr (by simp) (qr (by simp) (zg zh)))))
 refine ⟨_, rfl, ?_⟩
 intro a hA
 refine jl (us := [.bool false, .slice (some ⟨g13, 0, none⟩) ((words (leN p)).length) ((words (leN p)).length), .slice (some ⟨g14, 0, none⟩) 1 2, .bool false, .slice none 0 0, .slice (some ⟨g15, 0, none⟩) 1 2]) (L' := (.row 77 1 (.slice (some ⟨g13, 0, none⟩) ((words (leN p)).length) ((words (leN p)).length)) ((words (leN p)).length) ((uC (words (leN p)))) :: .row 77 1 (.slice (some ⟨g14, 0, none⟩) 1 2) 1 ([.int .u32 1]) :: .row 77 1 (.slice (some ⟨g15, 0, none⟩) 1 2) 1 ([.int .u32 1]) :: .row BY 1 (.slice (some ⟨g7, 0, none⟩) p.length p.length) p.length ((Lib.byteCells p)) :: .obj g4 (.cells #[.bool false, .slice (some ⟨g13, 0, none⟩) ((words (leN p)).length) ((words (leN p)).length), .slice (some ⟨g14, 0, none⟩) 1 2, .bool false, .slice none 0 0, .slice (some ⟨g15, 0, none⟩) 1 2] 26) :: .obj g2 (.cells #[.int .i64 (((p.length : Nat) : Int)), .bool false, .bool false] 65) :: [])) hA hM rfl rfl (zy rfl rfl rfl (by kernel_rfl) hM 4 rfl rfl rfl) 4 rfl rfl rfl ?_
 intro w19 hM
 refine qb (hK12 _ _ (wp_ret (hret _ _ (en1 hA rfl (kv hM ByO_isS_26 rfl 4 rfl (cs := [.bool false, .slice (some ⟨g13, 0, none⟩) ((words (leN p)).length) ((words (leN p)).length), .slice (some ⟨g14, 0, none⟩) 1 2, .bool false, .slice none 0 0, .slice (some ⟨g15, 0, none⟩) 1 2]) rfl rfl) ?_))))
 have e9 : kd false false p = Q6.whole false (leN p) := by unfold kd; rw [if_neg (fun h => (by cases h.1))]; rfl
 rw [e9]
 exact ⟨_, _, _, _, _, _, _, _, rfl, ⟨qgc hM 0 rfl, yu (x := 1) hM 1 rfl (by decide), qkg, yu (x := 1) hM 2 rfl (by decide)⟩, hM.bel⟩
theorem qjd {w : World} {sp : Option Addr} {cp : Nat} {p : List UInt8} (hp : Rb w sp p) (hl1 : 1 ≤ p.length) (hl64 : p.length ≤ 64) : Calls Tryz.prog 29 #[.agg #[.int .i64 ((p.length : Nat) : Int), .bool false, .bool true], .slice sp p.length cp] w (AnsV w (kd false true p)) := by
 have hM : Mg w w ([]) := Mg.start w
 refine qz (l := [(0, .agg #[.int .i64 (((p.length : Nat) : Int)), .bool false, .bool true]), (1, .slice sp p.length cp)]) Tryz.func29 rfl Tryz.ntmps29 rfl rfl ?_
 intro Q hret hnorm hP a hA
 refine wsk fun K1 hK1 => wrl (xg (vs := [.int .i64 (((p.length : Nat) : Int)), .bool false, .bool true]) (t := 65) hA hM rfl rfl rfl (fun g => .pointer (some ⟨g, 0, none⟩)) (za rfl rfl) (by decide) ?_)
 intro g2 w3 hM a hA
 refine xg (vs := [.bool false, .slice none 0 0, .slice none 0 0, .bool false, .slice none 0 0, .slice none 0 0]) (t := 26) hA hM rfl rfl rfl (fun g => .pointer (some ⟨g, 0, none⟩)) (qp (z := .agg #[.bool false, .slice none 0 0, .slice none 0 0, .bool false, .slice none 0 0, .slice none 0 0]) (by kernel_rfl) rfl) (by decide) ?_
 intro g4 w5 hM a hA
 refine qb (hK1 _ _ (wsk fun K6 hK6 => wrl (sdo hA (zt hM ByO_isS_65 rfl 1 rfl (cs := [.int .i64 (((p.length : Nat) : Int)), .bool false, .bool true]) rfl rfl) fun a hA => ?_)))
 refine sdo hA (qe rfl) fun a hA => ?_
 refine qj hA rfl rfl rfl (qf rfl rfl (fun w => by kernel_rfl)) (yt (hp.below hM.bel) (by omega)) ?_
 rintro _ w9 ⟨g7, rfl, hM8⟩
 replace hM : Mg w w9 (.row BY 1 (.slice (some ⟨g7, 0, none⟩) p.length p.length) p.length ((Lib.byteCells p)) :: .obj g4 (.cells #[.bool false, .slice none 0 0, .slice none 0 0, .bool false, .slice none 0 0, .slice none 0 0] 26) :: .obj g2 (.cells #[.int .i64 (((p.length : Nat) : Int)), .bool false, .bool true] 65) :: []) := (hM.both hM8 (qr (by simp) (qr (by simp) (zg zh))) (qr (by simp) (zg zh)))
 refine ⟨_, rfl, ?_⟩
 intro a hA
 refine sdo hA (qa rfl) fun a hA => ?_
 refine qb (hK6 _ _ (wsk fun K10 hK10 => wsk fun K11 hK11 => wrl (sdo (v := .pointer (some ⟨g2, 2, none⟩)) hA (qh ByO_fld_65_2 rfl rfl) fun a hA => ?_)))
 refine sdo hA (zm hM ByO_is1_4 rfl 2 rfl rfl) fun a hA => ?_
 refine sdo (v := .bool false) hA (zk rfl zq) fun a hA => ?_
 iterate 2 refine sdo hA (qe rfl) fun a hA => ?_
 refine sdo (v := .pointer (some ⟨g2, 0, none⟩)) hA (qh ByO_fld_65_0 rfl rfl) fun a hA => ?_
 refine sdo hA (zm hM ByO_is1_3 rfl 2 rfl rfl) fun a hA => ?_
 refine sdo (v := .int .i64 (((p.length - 1 : Nat) : Int))) hA (qg rfl rfl (ar_sub ((in_i64 (by omega) (by omega)).trans (by omega)))) fun a hA => ?_
 refine sdo (v := .pointer (some ⟨g7, (p.length - 1) * 1, none⟩)) hA (jj Tryz.underlying31 (by kernel_rfl) rfl rfl rfl (show p.length - 1 < p.length by omega)) fun a hA => ?_
 refine sdo (v := .int .u8 ((((p.getD (p.length - 1) 0).toNat : Nat) : Int))) hA (yw hM 0 rfl (kb (l := p) (i := p.length - 1) (by omega)) ByO_is1_5 rfl) fun a hA => ?_
 rcases tf (decide ((((p.getD (p.length - 1) 0).toNat : Nat) : Int) < 128)) with hb12 | hb12
 ·
  have hb12' := of_decide_eq_true hb12
  refine sdo (v := .bool true) hA (qg rfl rfl (fun w => (zr w).trans (by rw [hb12]))) fun a hA => ?_
  refine sdo (v := .bool true) hA (qi rfl rfl rfl rfl) fun a hA => ?_
  refine qb (hK11 _ _ (wp_cond_true (hA.ev rfl) ?_))
  refine wsk fun K13 hK13 => wrl (sdo hA (qe rfl) fun a hA => ?_)
  have hx18 : (p).length = p.length := by simp [yg]
  refine qj hA rfl rfl rfl (qf rfl rfl (fun w => by kernel_rfl)) (kw (l := p) (ui (bs := p) hM 0 rfl).1 (by omega) (by omega)) ?_
  rintro _ w19 ⟨g14, g15, g16, rfl, hM17⟩
  replace hM : Mg w w19 (.row 77 1 (.slice (some ⟨g14, 0, none⟩) ((words (leN p)).length) ((words (leN p)).length)) ((words (leN p)).length) ((uC (words (leN p)))) :: .row 77 1 (.slice (some ⟨g15, 0, none⟩) 1 2) 1 ([.int .u32 1]) :: .row 77 1 (.slice (some ⟨g16, 0, none⟩) 1 2) 1 ([.int .u32 1]) :: .row BY 1 (.slice (some ⟨g7, 0, none⟩) p.length p.length) p.length ((Lib.byteCells p)) :: .obj g4 (.cells #[.bool false, .slice none 0 0, .slice none 0 0, .bool false, .slice none 0 0, .slice none 0 0] 26) :: .obj g2 (.cells #[.int .i64 (((p.length : Nat) : Int)), .bool false, .bool true] 65) :: []) := (hM.both hM17 (qr (by simp) (qr (by simp) (qr (by simp) (zg zh)))) (qr (by simp) (qr (by simp) (qr (by simp) (zg zh)))))
  refine ⟨_, rfl, ?_⟩
  intro a hA
  refine jl (us := [.bool false, .slice (some ⟨g14, 0, none⟩) ((words (leN p)).length) ((words (leN p)).length), .slice (some ⟨g15, 0, none⟩) 1 2, .bool false, .slice none 0 0, .slice (some ⟨g16, 0, none⟩) 1 2]) (L' := (.row 77 1 (.slice (some ⟨g14, 0, none⟩) ((words (leN p)).length) ((words (leN p)).length)) ((words (leN p)).length) ((uC (words (leN p)))) :: .row 77 1 (.slice (some ⟨g15, 0, none⟩) 1 2) 1 ([.int .u32 1]) :: .row 77 1 (.slice (some ⟨g16, 0, none⟩) 1 2) 1 ([.int .u32 1]) :: .row BY 1 (.slice (some ⟨g7, 0, none⟩) p.length p.length) p.length ((Lib.byteCells p)) :: .obj g4 (.cells #[.bool false, .slice (some ⟨g14, 0, none⟩) ((words (leN p)).length) ((words (leN p)).length), .slice (some ⟨g15, 0, none⟩) 1 2, .bool false, .slice none 0 0, .slice (some ⟨g16, 0, none⟩) 1 2] 26) :: .obj g2 (.cells #[.int .i64 (((p.length : Nat) : Int)), .bool false, .bool true] 65) :: [])) hA hM rfl rfl (zy rfl rfl rfl (by kernel_rfl) hM 4 rfl rfl rfl) 4 rfl rfl rfl ?_
  intro w20 hM
  refine qb (hK13 _ _ (wp_ret (hret _ _ (en1 hA rfl (kv hM ByO_isS_26 rfl 4 rfl (cs := [.bool false, .slice (some ⟨g14, 0, none⟩) ((words (leN p)).length) ((words (leN p)).length), .slice (some ⟨g15, 0, none⟩) 1 2, .bool false, .slice none 0 0, .slice (some ⟨g16, 0, none⟩) 1 2]) rfl rfl) ?_))))
  have e9 : kd false true p = Q6.whole false (leN p) := by unfold kd; rw [if_neg (fun h => (by have h9 : 128 ≤ ((p).getD (p.length - 1) 0).toNat := h.2; omega))]; rfl
  rw [e9]
  exact ⟨_, _, _, _, _, _, _, _, rfl, ⟨qgc hM 0 rfl, yu (x := 1) hM 1 rfl (by decide), qkg, yu (x := 1) hM 2 rfl (by decide)⟩, hM.bel⟩
 ·
  have hb12' := of_decide_eq_false hb12
  refine sdo (v := .bool false) hA (qg rfl rfl (fun w => (zr w).trans (by rw [hb12]))) fun a hA => ?_
  refine sdo (v := .bool false) hA (qi rfl rfl rfl rfl) fun a hA => ?_
  refine qb (hK11 _ _ (wp_cond_false (hA.ev rfl) ?_))
  refine wp_skip (hK10 _ _ (wsk fun K21 hK21 => wsk fun K22 hK22 => wrl (sdo hA (qe rfl) fun a hA => ?_)))
  refine sdo hA (zj Tryz.underlying31 rfl) fun a hA => ?_
  refine sdo hA (qe rfl) fun a hA => ?_
  refine qb (hK22 _ _ (wp_block (jw (fun m_ a w1 => ∃ (i : Nat), m_ = p.length - i ∧ (i ≤ p.length) ∧ Sl a 47 [(0, .agg #[.int .i64 (((p.length : Nat) : Int)), .bool false, .bool true]), (1, .slice sp p.length cp), (2, .pointer (some ⟨g2, 0, none⟩)), (4, .pointer (some ⟨g4, 0, none⟩)), (5, .slice (some ⟨g7, 0, none⟩) p.length p.length), (9, .agg #[.int .i64 (((p.length : Nat) : Int)), .bool false, .bool true]), (10, .slice sp p.length cp), (11, .slice (some ⟨g7, 0, none⟩) p.length p.length), (12, .pointer (some ⟨g2, 2, none⟩)), (13, .bool true), (14, .bool false), (15, .bool false), (16, .slice (some ⟨g7, 0, none⟩) p.length p.length), (17, .pointer (some ⟨g2, 0, none⟩)), (18, .int .i64 (((p.length : Nat) : Int))), (19, .int .i64 (((p.length - 1 : Nat) : Int))), (20, .pointer (some ⟨g7, (p.length - 1) * 1, none⟩)), (21, .int .u8 ((((p.getD (p.length - 1) 0).toNat : Nat) : Int))), (22, .bool false), (23, .bool false), (26, .slice (some ⟨g7, 0, none⟩) p.length p.length), (27, .int .i64 (((p.length : Nat) : Int))), (28, .int .i64 (((i : Nat) : Int)))] ∧ Mg w w1 (.row BY 1 (.slice (some ⟨g7, 0, none⟩) p.length p.length) p.length ((Lib.byteCells (zp p i))) :: .obj g4 (.cells #[.bool false, .slice none 0 0, .slice none 0 0, .bool false, .slice none 0 0, .slice none 0 0] 26) :: .obj g2 (.cells #[.int .i64 (((p.length : Nat) : Int)), .bool false, .bool true] 65) :: [])) _ ⟨0, rfl, Nat.zero_le _, hA.keep _ ⟨rfl, rfl, rfl, rfl, rfl, rfl, rfl, rfl, rfl, rfl, rfl, rfl, rfl, rfl, rfl, rfl, rfl, rfl, rfl, rfl, rfl, rfl, rfl, trivial⟩, hM⟩ ?_)))
  clear hM hA
  rintro m_ a w23 ⟨i, rfl, hinv25, hA, hM⟩ K24 hK24
  have hi9 := hinv25
  refine wsk fun K26 hK26 => wrl ?_
  rcases tf (decide (((i : Nat) : Int) < ((p.length : Nat) : Int))) with hb27 | hb27
  ·
   have hb27' := of_decide_eq_true hb27
   refine sdo (v := .bool true) hA (qg rfl rfl (fun w => (zr w).trans (by rw [hb27]))) fun a hA => ?_
   refine qb (hK26 _ _ (wsk fun K28 hK28 => wp_cond_true (hA.ev rfl) ?_))
   refine wp_skip (hK28 _ _ (wsk fun K29 hK29 => wp_block (wsk fun K30 hK30 => wrl (sdo hA (qe rfl) fun a hA => ?_))))
   refine sdo hA (qa rfl) fun a hA => ?_
   refine qb (hK30 _ _ (wrl ?_))
   iterate 4 refine sdo hA (qe rfl) fun a hA => ?_
   refine sdo (v := .pointer (some ⟨g7, (i) * 1, none⟩)) hA (jj Tryz.underlying31 (by kernel_rfl) rfl rfl rfl (show i < p.length by omega)) fun a hA => ?_
   refine sdo (v := .int .u8 ((((p.getD (i) 0).toNat : Nat) : Int))) hA (yw hM 0 rfl (zdc (l := p) (i := i) (by omega)) ByO_is1_5 rfl) fun a hA => ?_
   have hX8 : (p.getD i 0).toNat < 256 := UInt8.toNat_lt _
   refine sdo (v := .int .u8 (((255 - (p.getD i 0).toNat : Nat) : Int))) hA (zk rfl (zna hX8)) fun a hA => ?_
   refine sdo (v := .pointer (some ⟨g7, (i) * 1, none⟩)) hA (jj Tryz.underlying31 (by kernel_rfl) rfl rfl rfl (show i < p.length by omega)) fun a hA => ?_
   refine zci (cs := [.int .u8 (((255 - (p.getD i 0).toNat : Nat) : Int))]) (L' := (.row BY 1 (.slice (some ⟨g7, 0, none⟩) p.length p.length) p.length ((over (Lib.byteCells (zp p i)) ((i) * 1) [.int .u8 (((255 - (p.getD i 0).toNat : Nat) : Int))])) :: .obj g4 (.cells #[.bool false, .slice none 0 0, .slice none 0 0, .bool false, .slice none 0 0, .slice none 0 0] 26) :: .obj g2 (.cells #[.int .i64 (((p.length : Nat) : Int)), .bool false, .bool true] 65) :: [])) (us := []) hA hM rfl rfl (kl rfl rfl rfl (by kernel_rfl) hM 0 rfl (show (i) * 1 + 1 ≤ p.length * 1 by omega) rfl) 0 rfl rfl ?_
   intro w31 hM
   replace hM : Mg w w31 (.row BY 1 (.slice (some ⟨g7, 0, none⟩) p.length p.length) p.length ((Lib.byteCells (zp p (i + 1)))) :: .obj g4 (.cells #[.bool false, .slice none 0 0, .slice none 0 0, .bool false, .slice none 0 0, .slice none 0 0] 26) :: .obj g2 (.cells #[.int .i64 (((p.length : Nat) : Int)), .bool false, .bool true] 65) :: []) := by
    have h9 := hM
    rw [qva (l := p) (by omega)] at h9
    exact h9
   refine qb (hK29 _ _ (wrl (sdo (v := .int .i64 (((i + 1 : Nat) : Int))) hA (qg rfl rfl (ar_add ((in_i64 (by omega) (by omega)).trans (by omega)))) fun a hA => ?_)))
   refine sdo hA (qe rfl) fun a hA => ?_
   refine qb ?_
   refine hK24 _ _ _ (by omega) ⟨i + 1, rfl, (by omega), hA.keep _ ⟨rfl, rfl, rfl, rfl, rfl, rfl, rfl, rfl, rfl, rfl, rfl, rfl, rfl, rfl, rfl, rfl, rfl, rfl, rfl, rfl, rfl, rfl, rfl, trivial⟩, hM⟩
  ·
   have hb27' := of_decide_eq_false hb27
   refine sdo (v := .bool false) hA (qg rfl rfl (fun w => (zr w).trans (by rw [hb27]))) fun a hA => ?_
   refine qb (hK26 _ _ (wsk fun K32 hK32 => wp_cond_false (hA.ev rfl) ?_))
   refine wp_exit (hK21 _ _ (wsk fun K33 hK33 => wrl (sdo hA (qe rfl) fun a hA => ?_)))
   have hx38 : (zp p i).length = p.length := by simp [yg]
   refine qj hA rfl rfl rfl (qf rfl rfl (fun w => by kernel_rfl)) ((by have h9 := kw (w := w23) (l := zp p i) (ui (bs := zp p i) hM 0 rfl).1 (ca := p.length) (by omega) (by omega); rw [hx38] at h9; exact h9)) ?_
   rintro _ w39 ⟨g34, g35, g36, rfl, hM37⟩
   replace hM : Mg w w39 (.row 77 1 (.slice (some ⟨g34, 0, none⟩) ((words (leN (zp p i))).length) ((words (leN (zp p i))).length)) ((words (leN (zp p i))).length) ((uC (words (leN (zp p i))))) :: .row 77 1 (.slice (some ⟨g35, 0, none⟩) 1 2) 1 ([.int .u32 1]) :: .row 77 1 (.slice (some ⟨g36, 0, none⟩) 1 2) 1 ([.int .u32 1]) :: .row BY 1 (.slice (some ⟨g7, 0, none⟩) p.length p.length) p.length ((Lib.byteCells (zp p i))) :: .obj g4 (.cells #[.bool false, .slice none 0 0, .slice none 0 0, .bool false, .slice none 0 0, .slice none 0 0] 26) :: .obj g2 (.cells #[.int .i64 (((p.length : Nat) : Int)), .bool false, .bool true] 65) :: []) := (hM.both hM37 (qr (by simp) (qr (by simp) (qr (by simp) (zg zh)))) (qr (by simp) (qr (by simp) (qr (by simp) (zg zh)))))
   refine ⟨_, rfl, ?_⟩
   intro a hA
   have hN9 : Nm _ (Q6.whole false (leN (zp p i))) (some ⟨g34, 0, none⟩) (words (leN (zp p i))).length (some ⟨g35, 0, none⟩) 2 none 0 (some ⟨g36, 0, none⟩) 2 := ⟨qgc hM 0 rfl, yu (x := 1) hM 1 rfl (by decide), qkg, yu (x := 1) hM 2 rfl (by decide)⟩
   have hlt9 : leN (zp p i) < 256 ^ p.length := by have h9 := qki (zp p i); rw [show (zp p i).length = p.length from by simp [yg]] at h9; exact h9
   refine qj hA rfl rfl rfl (qf rfl rfl (fun w => by kernel_rfl)) (qvb hl64 hlt9 hN9) ?_
   rintro _ w43 ⟨o42_1, o42_c1, o42_2, o42_c2, o42_3, o42_c3, o42_4, o42_c4, rfl, hn40, hb41⟩
   replace hM := hM.call hb41
   refine ⟨_, rfl, ?_⟩
   intro a hA
   refine sdo hA (qe rfl) fun a hA => ?_
   iterate 2 refine sdo hA (qs (vs := [.agg #[.bool true, .slice o42_1 ((words (leN (zp p i) + 1)).length) o42_c1, .slice o42_2 1 o42_c2, .bool false, .slice o42_3 0 o42_c3, .slice o42_4 1 o42_c4], .int .i64 0]) rfl rfl) fun a hA => ?_
   refine qrg (vs := [.bool false, .slice none 0 0, .slice none 0 0, .bool false, .slice none 0 0, .slice none 0 0]) (t := 26) hA hM rfl rfl rfl (fun g => .pointer (some ⟨g, 0, none⟩)) (qp (z := .agg #[.bool false, .slice none 0 0, .slice none 0 0, .bool false, .slice none 0 0, .slice none 0 0]) (by kernel_rfl) rfl) (by decide) ?_
   intro g44 w45 hM hc46 a hA
   replace hn40 := xm hn40 hc46
   refine ul (us := [.bool true, .slice o42_1 ((words (leN (zp p i) + 1)).length) o42_c1, .slice o42_2 1 o42_c2, .bool false, .slice o42_3 0 o42_c3, .slice o42_4 1 o42_c4]) (L' := (.obj g44 (.cells #[.bool true, .slice o42_1 ((words (leN (zp p i) + 1)).length) o42_c1, .slice o42_2 1 o42_c2, .bool false, .slice o42_3 0 o42_c3, .slice o42_4 1 o42_c4] 26) :: .row 77 1 (.slice (some ⟨g34, 0, none⟩) ((words (leN (zp p i))).length) ((words (leN (zp p i))).length)) ((words (leN (zp p i))).length) ((uC (words (leN (zp p i))))) :: .row 77 1 (.slice (some ⟨g35, 0, none⟩) 1 2) 1 ([.int .u32 1]) :: .row 77 1 (.slice (some ⟨g36, 0, none⟩) 1 2) 1 ([.int .u32 1]) :: .row BY 1 (.slice (some ⟨g7, 0, none⟩) p.length p.length) p.length ((Lib.byteCells (zp p i))) :: .obj g4 (.cells #[.bool false, .slice none 0 0, .slice none 0 0, .bool false, .slice none 0 0, .slice none 0 0] 26) :: .obj g2 (.cells #[.int .i64 (((p.length : Nat) : Int)), .bool false, .bool true] 65) :: [])) hA hM rfl rfl (zy rfl rfl rfl (by kernel_rfl) hM 0 rfl rfl rfl) 0 rfl rfl rfl rfl rfl rfl ?_
   intro w47 hM hc48
   replace hn40 := xm hn40 hc48
   refine sdo hA (qa rfl) fun a hA => ?_
   refine qb (hK33 _ _ (wsk fun K49 hK49 => wrl (sdo hA (zt hM ByO_isS_26 rfl 0 rfl (cs := [.bool true, .slice o42_1 ((words (leN (zp p i) + 1)).length) o42_c1, .slice o42_2 1 o42_c2, .bool false, .slice o42_3 0 o42_c3, .slice o42_4 1 o42_c4]) rfl rfl) fun a hA => ?_)))
   refine ul (us := [.bool true, .slice o42_1 ((words (leN (zp p i) + 1)).length) o42_c1, .slice o42_2 1 o42_c2, .bool false, .slice o42_3 0 o42_c3, .slice o42_4 1 o42_c4]) (L' := (.obj g44 (.cells #[.bool true, .slice o42_1 ((words (leN (zp p i) + 1)).length) o42_c1, .slice o42_2 1 o42_c2, .bool false, .slice o42_3 0 o42_c3, .slice o42_4 1 o42_c4] 26) :: .row 77 1 (.slice (some ⟨g34, 0, none⟩) ((words (leN (zp p i))).length) ((words (leN (zp p i))).length)) ((words (leN (zp p i))).length) ((uC (words (leN (zp p i))))) :: .row 77 1 (.slice (some ⟨g35, 0, none⟩) 1 2) 1 ([.int .u32 1]) :: .row 77 1 (.slice (some ⟨g36, 0, none⟩) 1 2) 1 ([.int .u32 1]) :: .row BY 1 (.slice (some ⟨g7, 0, none⟩) p.length p.length) p.length ((Lib.byteCells (zp p i))) :: .obj g4 (.cells #[.bool true, .slice o42_1 ((words (leN (zp p i) + 1)).length) o42_c1, .slice o42_2 1 o42_c2, .bool false, .slice o42_3 0 o42_c3, .slice o42_4 1 o42_c4] 26) :: .obj g2 (.cells #[.int .i64 (((p.length : Nat) : Int)), .bool false, .bool true] 65) :: [])) hA hM rfl rfl (zy rfl rfl rfl (by kernel_rfl) hM 5 rfl rfl rfl) 5 rfl rfl rfl rfl rfl rfl ?_
   intro w50 hM hc51
   replace hn40 := xm hn40 hc51
   refine qb (hK49 _ _ (wp_ret (hret _ _ (en1 hA rfl (kv hM ByO_isS_26 rfl 5 rfl (cs := [.bool true, .slice o42_1 ((words (leN (zp p i) + 1)).length) o42_c1, .slice o42_2 1 o42_c2, .bool false, .slice o42_3 0 o42_c3, .slice o42_4 1 o42_c4]) rfl rfl) ?_))))
   have hi8 : i = p.length := by omega
   subst hi8
   have e9 : kd false true p = Q6.whole true (leN (zp p p.length) + 1) := by
    unfold kd
    rw [if_pos ⟨rfl, (show 128 ≤ ((p).getD (p.length - 1) 0).toNat from by omega)⟩]
    have h8 := zdd p
    rw [← zdb, show (p).length = p.length from by simp] at h8
    rw [(show um false p = p from rfl), show 256 ^ p.length - leN p = leN (zp p p.length) + 1 from by omega]
   rw [e9]
   exact ⟨_, _, _, _, _, _, _, _, rfl, hn40, hM.bel⟩
theorem ug {w : World} {sp : Option Addr} {cp : Nat} {p : List UInt8} (hp : Rb w sp p) (hl1 : 1 ≤ p.length) (hl64 : p.length ≤ 64) (bg sg : Bool) : Calls Tryz.prog 29 #[.agg #[.int .i64 ((p.length : Nat) : Int), .bool bg, .bool sg], .slice sp p.length cp] w (AnsV w (kd bg sg p)) := by
 cases bg <;> cases sg
 ·
  exact qhg hp hl1 hl64
 ·
  exact qjd hp hl1 hl64
 ·
  exact qjc hp hl1 hl64
 ·
  exact qkj hp hl1 hl64
end Go.Proofs.YtjkpfnghiooblaaGreatDoor.G
namespace Go.Proofs.YtjkpfnghiooblaaGreatDoor
open Go.RowKit
set_option linter.unusedVariables false
set_option linter.unusedSimpArgs false

section
variable {P : Program} {w0 w : World} {l : List (Nat × Value)} {dst : Option Tmp} {ty : TypeId} {pos : String} {after : Array Edge} {guard : Option (Nat × Bool)} {v : Value} {L : List (Nat × List Value)} {R : List (Option Addr × List Nat)} {O : List (Option Addr × Nat × List Nat)}
theorem zxh {t e : TypeId} (ht : P.underlying t = some (.slice e)) (he : (P.info? e).map (·.size) = some 1) {x y1 y2 : Operand} {so : Option Addr} {n cap lo hi q : Nat} {z1 z2 : Int} (hx : ev l x = some (.slice so n cap)) (hy1 : ev l y1 = some (.int .i64 z1)) (hy2 : ev l y2 = some (.int .i64 z2)) (hz1 : z1 = ((lo : Nat) : Int)) (hz2 : z2 = ((hi : Nat) : Int)) (h1 : lo ≤ hi) (h2 : hi ≤ cap) (hq : hi - lo = q) : Does P l ⟨dst, .slice t x (some y1) (some y2) none, ty, pos, after, guard⟩ w (.slice (G.qja so cap lo) q (cap - lo)) w := fun ρ h => by
  subst hz1 hz2 hq
  obtain ⟨i, hii, hs⟩ := jy he
  have k2 : (sizeOf e).run P w = .ok 1 w := by simp [sizeOf, typeInfo, hii, hs]
  have g1 : (0 : Int) ≤ (lo : Nat) ∧ ((lo : Nat) : Int) ≤ (hi : Int) := ⟨by omega, by omega⟩
  have g2 : (0 : Int) ≤ (hi : Nat) ∧ ((hi : Nat) : Int) ≤ (cap : Int) := ⟨by omega, by omega⟩
  simp only [execOp, h x _ hx, h y1 _ hy1, h y2 _ hy2, Option.map_some, Option.map_none, Instr.sliceAt, Instr.slice, Instr.sliceBounds, Instr.sliceBound, asIntOf, run_underlying ht, Sem.run_bind, Sem.run_pure, Result.andThen_ok, g1, g2, k2, and_self, if_true, Int.toNat_natCast, Nat.mul_one, G.qja]
end
def okG (n : Nat) (ap size : Int) : Bool := G.ki size && G.inB n ap size
def zxi (l : List UInt8) (ap size : Int) (bg sg : Bool) : Q6 × Int := if okG l.length ap size = true then (G.kd bg sg ((l.drop ap.toNat).take size.toNat), 0) else (Q6.zero, 1)
theorem znc (n : Nat) : 2 ^ (8 * n) = 256 ^ n := by rw [Nat.pow_mul]
theorem top_bit {l : List UInt8} {n : Nat} (hl : l.length = n) (h1 : 1 ≤ n) : bl (G.leN l) = 8 * n ↔ 128 ≤ (l.getD (n - 1) 0).toNat := by
  have hlt : n - 1 < l.length := by omega
  have e : l = l.take (n - 1) ++ [l[n - 1]] := by
    have := List.take_append_drop (n - 1) l
    rw [List.drop_eq_getElem_cons hlt, List.drop_eq_nil_of_le (by omega)] at this
    exact this.symm
  have ed : l.getD (n - 1) 0 = l[n - 1] := by rw [List.getD_eq_getElem?_getD, List.getElem?_eq_getElem hlt]; rfl
  rw [ed]
  have hx : G.leN l = G.leN (l.take (n - 1)) + 256 ^ (n - 1) * l[n - 1].toNat := by
    have h := congrArg G.leN e
    rw [G.qhf] at h
    rw [h, List.length_take, Nat.min_eq_left (by omega)]
    simp [G.leN]
  have ht := G.qki (l.take (n - 1))
  rw [List.length_take, Nat.min_eq_left (by omega)] at ht
  have hw := G.qki l
  rw [hl] at hw
  have hb : l[n - 1].toNat < 256 := UInt8.toNat_lt _
  obtain ⟨m, rfl⟩ : ∃ m, n = m + 1 := ⟨n - 1, by omega⟩
  simp only [Nat.add_sub_cancel] at *
  have hp : 2 ^ (8 * (m + 1) - 1) = 128 * 256 ^ m := by
    rw [show 8 * (m + 1) - 1 = 8 * m + 7 from by omega, Nat.pow_add, znc]
    omega
  constructor
  · intro h
    have hne : G.leN l ≠ 0 := fun k => by rw [k, bl_zero] at h; omega
    have h2 := bl_ge hne
    rw [h, hp] at h2
    apply Classical.byContradiction
    intro hc
    have : l[m].toNat ≤ 127 := by omega
    have h3 := Nat.mul_le_mul_left (256 ^ m) this
    rw [hx] at h2
    omega
  · intro h
    have h3 := Nat.mul_le_mul_left (256 ^ m) h
    have h4 := bl_eq (x := G.leN l) (n := 8 * (m + 1) - 1) (by rw [hp, hx]; omega) (by rw [show 8 * (m + 1) - 1 + 1 = 8 * (m + 1) from by omega, znc]; exact hw)
    omega
end Go.Proofs.YtjkpfnghiooblaaGreatDoor
namespace Go.Proofs.YtjkpfnghiooblaaGreatDoor
open Go.RowKit
set_option linter.unusedVariables false
set_option linter.unusedSimpArgs false

theorem zxj (N q : Nat) : (((List.replicate N (0 : UInt8)).getD q 0).toNat : Nat) = 0 := by
  rw [List.getD_eq_getElem?_getD, List.getElem?_replicate]
  split <;> rfl
theorem made_at (N q : Nat) (h : q < N) : (madeCells (.int .u8 0 : Value).cells N).toList[q]? = some (.int .u8 0) := by
  unfold madeCells
  rw [Array.toList_map, Array.toList_range, List.getElem?_map, List.getElem?_range h]
  show some ((#[(.int .u8 0 : Value)] : Array Value)[q % 1]!) = _
  rw [Nat.mod_one]
  rfl
section
variable {P : Program} {w0 w : World} {l : List (Nat × Value)} {ops : List Oper} {Q : Exit → Act → World → Prop} {a : Act} {n d : Nat} {o : Oper} {S : World → Prop} {md : Region.Mode} {fuel : Nat} {listed : Array Bool} {L : List (Nat × List Value)} {R : List (Option Addr × List Nat)} {O : List (Option Addr × Nat × List Nat)} {dst : Option Tmp} {ty : TypeId} {pos : String} {after : Array Edge} {guard : Option (Nat × Bool)}
theorem zqc (hA : Sl a n l) (hS : St w0 w L R []) (i : Nat) (hi : ops[i]? = some o) (hg : jc l ops o = true) (hdst : o.dst = some d) (hd : Nat.blt d n = true) {t : TypeId} {x y : Operand} (ho : o = ⟨dst, .makeSlice t x y, ty, pos, after, guard⟩) (ht : P.underlying t = some (.slice G.BY)) (hinfo : (P.info? G.BY).map (fun i => (i.zero, i.size, i.bytes)) = some (some (.int .u8 0), 1, 1)) (hx : ev l x = some (.int .i64 64)) (hy : ev l y = some (.int .i64 64))
    (hk : ∀ g w', St w0 w' L R [] → G.Rb w' (some ⟨g, 0, none⟩) (List.replicate 64 0) → S w' ∧ ∀ a', Sl a' n ((d, .slice (some ⟨g, 0, none⟩) 64 64) :: l) → wpAnyH P md ops.toArray Q S fuel (listed.setIfInBounds i true) a' w') : wpOp P ops.toArray Q i (fun a' w' => S w' ∧ wpAnyH P md ops.toArray Q S fuel (listed.setIfInBounds i true) a' w') a w := by
  obtain ⟨j, hj, hzz⟩ := Option.map_eq_some_iff.1 hinfo
  simp only [Prod.mk.injEq] at hzz
  obtain ⟨hz, hs, hbb⟩ := hzz
  obtain ⟨w', hr, hown, hgr⟩ := run_make_full (P := P) (w := w) w.heap.size t G.BY j (.int .u8 0) 1 ht hj hz hs .i64 .i64 64 (by rw [hbb]; decide) (by unfold maxLen; decide) (Nat.le_refl _)
  have hbel : Below w.heap.size w w' := ⟨hgr.os, hgr.tape, hgr.output, hgr.size, fun k hk => hgr.block k hk (by simp)⟩
  have hrb : G.Rb w' (some ⟨w.heap.size, 0, none⟩) (List.replicate 64 0) := by
    refine ⟨fun _ => ⟨w.heap.size, 0, rfl, (hown.lt w.heap.size rfl).2, fun q hq => ?_⟩⟩
    rw [List.length_replicate] at hq
    have h9 := hown.cells (g := w.heap.size) rfl q (.int .u8 0) (made_at (64 * 1) q (by omega))
    rw [Addr.add_lit] at h9
    rw [h9, zxj]
    rfl
  have h := hk w.heap.size w' (hS.call hbel) hrb
  refine qhi hA i hi hg hdst hd (v := .slice (some ⟨w.heap.size, 0, none⟩) 64 64) (w' := w') ?_ h.1 h.2
  subst ho
  intro ρ hρ
  simp only [execOp, hρ x _ hx, hρ y _ hy, Sem.run_bind, Result.andThen_ok, Sem.run_pure]
  have hr' : (Instr.makeSlice t (.int .i64 64) (.int .i64 64)).run P w = .ok (.slice (some ⟨w.heap.size, 0, none⟩) 64 64) w' := hr
  simp only [hr', Result.andThen_ok]
end
end Go.Proofs.YtjkpfnghiooblaaGreatDoor
namespace Go.Proofs.YtjkpfnghiooblaaGreatDoor
open Go.RowKit
set_option linter.unusedVariables false
set_option linter.unusedSimpArgs false
set_option maxRecDepth 100000
theorem GvB_isS_26 : IsS Tryz.prog 26 6 := ⟨⟨_, Tryz.underlying26⟩, by kernel_rfl⟩
theorem GvB_isS_65 : IsS Tryz.prog 65 3 := ⟨⟨_, Tryz.underlying65⟩, by kernel_rfl⟩
theorem get_no1 {w : World} {so : Option Addr} {ca : Nat} {l : List UInt8} (hb : G.Rb w so l) (hca : l.length ≤ ca) (hl : l.length ≤ 140737488351232) {ap size : Int} (hap0 : -9223372036854775808 ≤ ap) (hap1 : ap ≤ 9223372036854775807) (hsize0 : -9223372036854775808 ≤ size) (hsize1 : size ≤ 9223372036854775807) (bg sg : Bool) (h1 : G.ki size = false) : Calls Tryz.prog 8 #[.slice so l.length ca, .int .i64 ap, .int .i64 size, .bool bg, .bool sg] w (AnsN w (Q6.zero, 1)) := by
 have hS : St w w [] [] [] := St.start w
 refine qz (l := [(0, .slice so l.length ca), (1, .int .i64 ap), (2, .int .i64 size), (3, .bool bg), (4, .bool sg)]) Tryz.func8 rfl Tryz.ntmps8 rfl rfl ?_
 intro Q hret hnorm hP a hA
 refine wsk fun K1 hK1 => wrl (qt (vs := [.bool false, .slice none 0 0, .slice none 0 0, .bool false, .slice none 0 0, .slice none 0 0]) (t := 26) hA hS rfl rfl rfl (fun g => .pointer (some ⟨g, 0, none⟩)) (qp (z := .agg #[.bool false, .slice none 0 0, .slice none 0 0, .bool false, .slice none 0 0, .slice none 0 0]) (by kernel_rfl) rfl) rfl ?_)
 intro g2 w3 hS a hA
 refine sdo hA (qa rfl) fun a hA => ?_
 refine qb (hK1 _ _ (wsk fun K4 hK4 => wrl ?_))
 iterate 3 refine sdo hA (qe rfl) fun a hA => ?_
 refine sdo (v := .agg #[.int .i64 size, .bool bg, .bool sg]) hA (zf rfl (fun w => by kernel_rfl)) fun a hA => ?_
 refine qt (vs := [.int .i64 0, .bool false, .bool false]) (t := 65) hA hS rfl rfl rfl (fun g => .pointer (some ⟨g, 0, none⟩)) (qp (z := .agg #[.int .i64 0, .bool false, .bool false]) (by kernel_rfl) rfl) rfl ?_
 intro g5 w6 hS a hA
 refine qw (us := [.int .i64 size, .bool bg, .bool sg]) hA hS rfl rfl (qm rfl rfl rfl (by kernel_rfl) hS 0 rfl rfl rfl) 0 rfl rfl rfl rfl ?_
 intro w7 hS
 refine qb (hK4 _ _ (wsk fun K8 hK8 => wsk fun K9 hK9 => wrl (sdo hA (qn hS GvB_isS_65 rfl 0 rfl (cs := [.int .i64 size, .bool bg, .bool sg]) rfl rfl) fun a hA => ?_)))
 refine qj hA rfl rfl rfl (qf  rfl rfl (fun w => by kernel_rfl)) ((h1 ▸ G.ux (size := size) (bg := bg) (sg := sg))) ?_
 rintro _ w11 ⟨rfl, hb10⟩
 replace hS := hS.call hb10
 refine ⟨_, rfl, ?_⟩
 intro a hA
 refine sdo (v := .bool true) hA (zk rfl zq) fun a hA => ?_
 refine sdo hA (qe rfl) fun a hA => ?_
 iterate 5 refine qy hA rfl rfl rfl fun a hA => ?_
 refine sdo (v := .bool true) hA (qi rfl rfl rfl rfl) fun a hA => ?_
 refine qb (hK9 _ _ (wp_cond_true (hA.ev rfl) ?_))
 refine wsk fun K12 hK12 => wrl (sdo (v := .agg #[.bool false, .slice none 0 0, .slice none 0 0, .bool false, .slice none 0 0, .slice none 0 0]) hA (zf rfl (fun w => by kernel_rfl)) fun a hA => ?_)
 refine qw (us := [.bool false, .slice none 0 0, .slice none 0 0, .bool false, .slice none 0 0, .slice none 0 0]) hA hS rfl rfl (qm rfl rfl rfl (by kernel_rfl) hS 1 rfl rfl rfl) 1 rfl rfl rfl rfl ?_
 intro w13 hS
 refine sdo hA (qa rfl) fun a hA => ?_
 refine qb (hK12 _ _ (wp_ret (hret _ _ (en2 hA rfl (zb hS GvB_isS_26 rfl 1 rfl (cs := [.bool false, .slice none 0 0, .slice none 0 0, .bool false, .slice none 0 0, .slice none 0 0]) rfl rfl) (qk rfl) ?_))))
 exact ⟨none, 0, none, 0, none, 0, none, 0, rfl, ⟨Sc.none _, Sc.none _, Sc.none _, Sc.none _⟩, hS.bel⟩
theorem get_no2 {w : World} {so : Option Addr} {ca : Nat} {l : List UInt8} (hb : G.Rb w so l) (hca : l.length ≤ ca) (hl : l.length ≤ 140737488351232) {ap size : Int} (hap0 : -9223372036854775808 ≤ ap) (hap1 : ap ≤ 9223372036854775807) (hsize0 : -9223372036854775808 ≤ size) (hsize1 : size ≤ 9223372036854775807) (bg sg : Bool) (h1 : G.ki size = true) (h2 : G.inB l.length ap size = false) : Calls Tryz.prog 8 #[.slice so l.length ca, .int .i64 ap, .int .i64 size, .bool bg, .bool sg] w (AnsN w (Q6.zero, 1)) := by
 have hS : St w w [] [] [] := St.start w
 refine qz (l := [(0, .slice so l.length ca), (1, .int .i64 ap), (2, .int .i64 size), (3, .bool bg), (4, .bool sg)]) Tryz.func8 rfl Tryz.ntmps8 rfl rfl ?_
 intro Q hret hnorm hP a hA
 refine wsk fun K1 hK1 => wrl (qt (vs := [.bool false, .slice none 0 0, .slice none 0 0, .bool false, .slice none 0 0, .slice none 0 0]) (t := 26) hA hS rfl rfl rfl (fun g => .pointer (some ⟨g, 0, none⟩)) (qp (z := .agg #[.bool false, .slice none 0 0, .slice none 0 0, .bool false, .slice none 0 0, .slice none 0 0]) (by kernel_rfl) rfl) rfl ?_)
 intro g2 w3 hS a hA
 refine sdo hA (qa rfl) fun a hA => ?_
 refine qb (hK1 _ _ (wsk fun K4 hK4 => wrl ?_))
 iterate 3 refine sdo hA (qe rfl) fun a hA => ?_
 refine sdo (v := .agg #[.int .i64 size, .bool bg, .bool sg]) hA (zf rfl (fun w => by kernel_rfl)) fun a hA => ?_
 refine qt (vs := [.int .i64 0, .bool false, .bool false]) (t := 65) hA hS rfl rfl rfl (fun g => .pointer (some ⟨g, 0, none⟩)) (qp (z := .agg #[.int .i64 0, .bool false, .bool false]) (by kernel_rfl) rfl) rfl ?_
 intro g5 w6 hS a hA
 refine qw (us := [.int .i64 size, .bool bg, .bool sg]) hA hS rfl rfl (qm rfl rfl rfl (by kernel_rfl) hS 0 rfl rfl rfl) 0 rfl rfl rfl rfl ?_
 intro w7 hS
 refine qb (hK4 _ _ (wsk fun K8 hK8 => wsk fun K9 hK9 => wrl (sdo hA (qn hS GvB_isS_65 rfl 0 rfl (cs := [.int .i64 size, .bool bg, .bool sg]) rfl rfl) fun a hA => ?_)))
 refine qj hA rfl rfl rfl (qf  rfl rfl (fun w => by kernel_rfl)) ((h1 ▸ G.ux (size := size) (bg := bg) (sg := sg))) ?_
 rintro _ w11 ⟨rfl, hb10⟩
 replace hS := hS.call hb10
 refine ⟨_, rfl, ?_⟩
 intro a hA
 refine sdo (v := .bool false) hA (zk rfl zq) fun a hA => ?_
 iterate 4 refine sdo hA (qe rfl) fun a hA => ?_
 refine qj hA rfl rfl rfl (qf  rfl rfl (fun w => by kernel_rfl)) (G.qkf hl (by omega) (by omega) (by omega) (by omega) h2) ?_
 rintro _ w13 ⟨rfl, hb12⟩
 replace hS := hS.call hb12
 refine ⟨_, rfl, ?_⟩
 intro a hA
 refine sdo (v := .bool true) hA (zk rfl zq) fun a hA => ?_
 refine sdo (v := .bool true) hA (qi rfl rfl rfl rfl) fun a hA => ?_
 refine qb (hK9 _ _ (wp_cond_true (hA.ev rfl) ?_))
 refine wsk fun K14 hK14 => wrl (sdo (v := .agg #[.bool false, .slice none 0 0, .slice none 0 0, .bool false, .slice none 0 0, .slice none 0 0]) hA (zf rfl (fun w => by kernel_rfl)) fun a hA => ?_)
 refine qw (us := [.bool false, .slice none 0 0, .slice none 0 0, .bool false, .slice none 0 0, .slice none 0 0]) hA hS rfl rfl (qm rfl rfl rfl (by kernel_rfl) hS 1 rfl rfl rfl) 1 rfl rfl rfl rfl ?_
 intro w15 hS
 refine sdo hA (qa rfl) fun a hA => ?_
 refine qb (hK14 _ _ (wp_ret (hret _ _ (en2 hA rfl (zb hS GvB_isS_26 rfl 1 rfl (cs := [.bool false, .slice none 0 0, .slice none 0 0, .bool false, .slice none 0 0, .slice none 0 0]) rfl rfl) (qk rfl) ?_))))
 exact ⟨none, 0, none, 0, none, 0, none, 0, rfl, ⟨Sc.none _, Sc.none _, Sc.none _, Sc.none _⟩, hS.bel⟩
theorem get_ok {w : World} {so : Option Addr} {ca : Nat} {l : List UInt8} (hb : G.Rb w so l) (hca : l.length ≤ ca) (hl : l.length ≤ 140737488351232) {an nn : Nat} (hn1 : 1 ≤ nn) (hn64 : nn ≤ 64) (hle : an + nn ≤ l.length) (bg sg : Bool) : Calls Tryz.prog 8 #[.slice so l.length ca, .int .i64 ((an : Nat) : Int), .int .i64 ((nn : Nat) : Int), .bool bg, .bool sg] w (AnsN w (G.kd bg sg ((l.drop an).take nn), 0)) := by
 have hpl : ((l.drop an).take nn).length = nn := by rw [List.length_take, List.length_drop]; omega
 have hk1 : G.ki ((nn : Nat) : Int) = true := by unfold G.ki; apply decide_eq_true; omega
 have hk2 : G.inB l.length ((an : Nat) : Int) ((nn : Nat) : Int) = true := by unfold G.inB; apply decide_eq_true; omega
 have hS : St w w [] [] [] := St.start w
 refine qz (l := [(0, .slice so l.length ca), (1, .int .i64 (((an : Nat) : Int))), (2, .int .i64 (((nn : Nat) : Int))), (3, .bool bg), (4, .bool sg)]) Tryz.func8 rfl Tryz.ntmps8 rfl rfl ?_
 intro Q hret hnorm hP a hA
 refine wsk fun K1 hK1 => wrl (qt (vs := [.bool false, .slice none 0 0, .slice none 0 0, .bool false, .slice none 0 0, .slice none 0 0]) (t := 26) hA hS rfl rfl rfl (fun g => .pointer (some ⟨g, 0, none⟩)) (qp (z := .agg #[.bool false, .slice none 0 0, .slice none 0 0, .bool false, .slice none 0 0, .slice none 0 0]) (by kernel_rfl) rfl) rfl ?_)
 intro g2 w3 hS a hA
 refine sdo hA (qa rfl) fun a hA => ?_
 refine qb (hK1 _ _ (wsk fun K4 hK4 => wrl ?_))
 iterate 3 refine sdo hA (qe rfl) fun a hA => ?_
 refine sdo (v := .agg #[.int .i64 (((nn : Nat) : Int)), .bool bg, .bool sg]) hA (zf rfl (fun w => by kernel_rfl)) fun a hA => ?_
 refine qt (vs := [.int .i64 0, .bool false, .bool false]) (t := 65) hA hS rfl rfl rfl (fun g => .pointer (some ⟨g, 0, none⟩)) (qp (z := .agg #[.int .i64 0, .bool false, .bool false]) (by kernel_rfl) rfl) rfl ?_
 intro g5 w6 hS a hA
 refine qw (us := [.int .i64 (((nn : Nat) : Int)), .bool bg, .bool sg]) hA hS rfl rfl (qm rfl rfl rfl (by kernel_rfl) hS 0 rfl rfl rfl) 0 rfl rfl rfl rfl ?_
 intro w7 hS
 refine qb (hK4 _ _ (wsk fun K8 hK8 => wsk fun K9 hK9 => wrl (sdo hA (qn hS GvB_isS_65 rfl 0 rfl (cs := [.int .i64 (((nn : Nat) : Int)), .bool bg, .bool sg]) rfl rfl) fun a hA => ?_)))
 refine qj hA rfl rfl rfl (qf  rfl rfl (fun w => by kernel_rfl)) ((hk1 ▸ G.ux (size := ((nn : Nat) : Int)) (bg := bg) (sg := sg))) ?_
 rintro _ w11 ⟨rfl, hb10⟩
 replace hS := hS.call hb10
 refine ⟨_, rfl, ?_⟩
 intro a hA
 refine sdo (v := .bool false) hA (zk rfl zq) fun a hA => ?_
 iterate 4 refine sdo hA (qe rfl) fun a hA => ?_
 refine qj hA rfl rfl rfl (qf  rfl rfl (fun w => by kernel_rfl)) (G.qkf hl (by omega) (by omega) (by omega) (by omega) hk2) ?_
 rintro _ w13 ⟨rfl, hb12⟩
 replace hS := hS.call hb12
 refine ⟨_, rfl, ?_⟩
 intro a hA
 refine sdo (v := .bool false) hA (zk rfl zq) fun a hA => ?_
 refine sdo (v := .bool false) hA (qi rfl rfl rfl rfl) fun a hA => ?_
 refine qb (hK9 _ _ (wp_cond_false (hA.ev rfl) ?_))
 refine wp_skip (hK8 _ _ (wsk fun K14 hK14 => jh (S := fun w1 => St w w1 [(g5, [.int .i64 (((nn : Nat) : Int)), .bool bg, .bool sg])] [] []) (by kernel_rfl) ?_))
 replace hS := hS.drew
 refine ql hA 0 rfl rfl rfl rfl hP (hS.partD (.cons_cons _ (.cons _ .slnil)) 0 rfl (.refl _)) (fun w1 hS => qn hS GvB_isS_65 rfl 0 rfl (cs := [.int .i64 (((nn : Nat) : Int)), .bool bg, .bool sg]) rfl rfl) fun a hA => ?_
 refine ql hA 1 rfl rfl rfl rfl hP (hS.partD (.cons_cons _ (.cons _ .slnil)) 0 rfl (.refl _)) (fun w1 hS => qe rfl) fun a hA => ?_
 refine ql hA 2 rfl rfl rfl rfl hP (hS.partD (.cons_cons _ (.cons _ .slnil)) 0 rfl (.refl _)) (fun w1 hS => qe rfl) fun a hA => ?_
 refine ql hA 3 rfl rfl rfl rfl hP (hS.partD (.cons_cons _ (.cons _ .slnil)) 0 rfl (.refl _)) (fun w1 hS => qe rfl) fun a hA => ?_
 refine ql hA 4 rfl rfl rfl rfl hP (hS.partD (.cons_cons _ (.cons _ .slnil)) 0 rfl (.refl _)) (fun w1 hS => qe rfl) fun a hA => ?_
 refine ql (v := .int .i64 (((an + nn : Nat) : Int))) hA 5 rfl rfl rfl rfl hP (hS.partD (.cons_cons _ (.cons _ .slnil)) 0 rfl (.refl _)) (fun w1 hS => qg rfl rfl (fun w => (yd (yb (by omega) (by omega)) w).trans (by rw [show (((an : Nat) : Int) + ((nn : Nat) : Int) : Int) = ((an + nn : Nat) : Int) from by omega]))) fun a hA => ?_
 refine ql (v := .slice ((G.qja so ca an)) nn ((ca - an))) hA 6 rfl rfl rfl rfl hP (hS.partD (.cons_cons _ (.cons _ .slnil)) 0 rfl (.refl _)) (fun w1 hS => zxh (lo := an) (hi := an + nn) Tryz.underlying31 (by kernel_rfl) rfl rfl rfl (by first | rfl | omega) (by first | rfl | omega) (by omega) (by omega) (by omega)) fun a hA => ?_
 refine zd (by kernel_rfl) (zi hA 7 rfl rfl rfl rfl (qf  rfl rfl (fun w => by kernel_rfl)) ((by have h9 := G.ug (w := w13.drew) (p := ((l.drop an).take nn)) (((hb.drop ca an hca).takeZ nn).below hS.bel) (cp := ca - an) (by omega) (by omega) bg sg; rw [hpl] at h9; exact h9)) ?_)
 rintro _ w18 ⟨p15_1, p15_c1, p15_2, p15_c2, p15_3, p15_c3, p15_4, p15_c4, rfl, hn16, hb17⟩
 replace hS := hS.call hb17
 replace hS := hS.addR hn16.s1.rd
 replace hS := hS.addR hn16.s2.rd
 replace hS := hS.addR hn16.s3.rd
 replace hS := hS.addR hn16.s4.rd
 refine ⟨_, rfl, (hS.partD (.cons_cons _ (.cons _ .slnil)) 4 rfl (.refl _)), ?_⟩
 intro a hA
 refine zd (by kernel_rfl) (zv (us := [.bool ((G.kd bg sg ((l.drop an).take nn)).b1), .slice p15_1 (((G.kd bg sg ((l.drop an).take nn)).t1).length) p15_c1, .slice p15_2 (((G.kd bg sg ((l.drop an).take nn)).q1).length) p15_c2, .bool ((G.kd bg sg ((l.drop an).take nn)).b2), .slice p15_3 (((G.kd bg sg ((l.drop an).take nn)).t2).length) p15_c3, .slice p15_4 (((G.kd bg sg ((l.drop an).take nn)).q2).length) p15_c4]) hA hS 8 rfl rfl rfl (qm rfl rfl rfl (by kernel_rfl) hS 1 rfl rfl rfl) 1 rfl rfl rfl rfl ?_)
 intro w19 hS
 refine ⟨(hS.partD (.cons_cons _ (.cons _ .slnil)) 4 rfl (.refl _)), ?_⟩
 refine ql hA 9 rfl rfl rfl rfl hP (hS.partD (.cons_cons _ (.cons _ .slnil)) 4 rfl (.refl _)) (fun w1 hS => qa rfl) fun a hA => ?_
 refine zu (by kernel_rfl) ?_
 refine hK14 _ _ (wp_ret (hret _ _ (en2 hA rfl (zb hS GvB_isS_26 rfl 1 rfl (cs := [.bool ((G.kd bg sg ((l.drop an).take nn)).b1), .slice p15_1 (((G.kd bg sg ((l.drop an).take nn)).t1).length) p15_c1, .slice p15_2 (((G.kd bg sg ((l.drop an).take nn)).q1).length) p15_c2, .bool ((G.kd bg sg ((l.drop an).take nn)).b2), .slice p15_3 (((G.kd bg sg ((l.drop an).take nn)).t2).length) p15_c3, .slice p15_4 (((G.kd bg sg ((l.drop an).take nn)).q2).length) p15_c4]) rfl rfl) (qk rfl) ?_)))
 exact ⟨p15_1, p15_c1, p15_2, p15_c2, p15_3, p15_c3, p15_4, p15_c4, rfl, ⟨⟨(hS.rd 3 rfl), hn16.s1.nil, hn16.s1.cap⟩, ⟨(hS.rd 2 rfl), hn16.s2.nil, hn16.s2.cap⟩, ⟨(hS.rd 1 rfl), hn16.s3.nil, hn16.s3.cap⟩, ⟨(hS.rd 0 rfl), hn16.s4.nil, hn16.s4.cap⟩⟩, hS.bel⟩
theorem zya {w : World} {so : Option Addr} {ca : Nat} {l : List UInt8} (hb : G.Rb w so l) (hca : l.length ≤ ca) (hl : l.length ≤ 140737488351232) {ap size : Int} (hap0 : -9223372036854775808 ≤ ap) (hap1 : ap ≤ 9223372036854775807) (hsize0 : -9223372036854775808 ≤ size) (hsize1 : size ≤ 9223372036854775807) (bg sg : Bool) : Calls Tryz.prog 8 #[.slice so l.length ca, .int .i64 ap, .int .i64 size, .bool bg, .bool sg] w (AnsN w (zxi l ap size bg sg)) := by
 unfold zxi okG
 cases h1 : G.ki size with
 | false => simp only [Bool.false_and, Bool.false_eq_true, if_false]; exact get_no1 hb hca hl hap0 hap1 hsize0 hsize1 bg sg h1
 | true =>
 cases h2 : G.inB l.length ap size with
 | false => simp only [Bool.and_false, Bool.false_eq_true, if_false]; exact get_no2 hb hca hl hap0 hap1 hsize0 hsize1 bg sg h1 h2
 | true =>
  simp only [Bool.and_true, if_true]
  have k1 : 1 ≤ size ∧ size ≤ 64 := of_decide_eq_true h1
  have k2 : 0 ≤ ap ∧ 0 ≤ size ∧ ap ≤ (l.length : Int) - size := of_decide_eq_true h2
  obtain ⟨an, rfl⟩ := Int.eq_ofNat_of_zero_le k2.1
  obtain ⟨nn, rfl⟩ := Int.eq_ofNat_of_zero_le k2.2.1
  rw [Int.toNat_natCast, Int.toNat_natCast]
  exact get_ok hb hca hl (by omega) (by omega) (by omega) bg sg
end Go.Proofs.YtjkpfnghiooblaaGreatDoor
namespace Go.Proofs.YtjkpfnghiooblaaGreatDoor
open Go.RowKit
set_option linter.unusedVariables false
set_option linter.unusedSimpArgs false
set_option maxRecDepth 100000



end Go.Proofs.YtjkpfnghiooblaaGreatDoor
namespace Go.Proofs.YtjkpfnghiooblaaGreatDoor
open Go.RowKit
set_option linter.unusedVariables false
set_option linter.unusedSimpArgs false

end Go.Proofs.YtjkpfnghiooblaaGreatDoor
namespace Go.Proofs.YtjkpfnghiooblaaGreatDoor.G
open Go.RowKit
set_option linter.unusedVariables false
set_option linter.unusedSimpArgs false

section
variable {P : Program} {w0 w : World} {L : List Ck} {l : List (Nat × Value)} {dst : Option Tmp} {ty : TypeId} {pos : String} {after : Array Edge} {guard : Option (Nat × Bool)} {v : Value}
theorem qyd {b o : Nat} (hc : w.cell? ⟨b, o, none⟩ = some v) {t : TypeId} (ht : Is1 P t) {x : Operand} (hx : ev l x = some (.pointer (some ⟨b, o, none⟩))) : Does P l ⟨dst, .load t x, ty, pos, after, guard⟩ w v w := xv hx (kq ht hc)
variable {ops : List Oper} {Q : Exit → Act → World → Prop} {a : Act} {n : Nat} {o : Oper} {rest : List Oper} {d : Nat}
theorem qye (hA : Sl a n l) (hM : Mg w0 w L) {t e ty : TypeId} {z : Value} {sz by_ : Nat} {dst : Option Tmp} {pos : String} {after : Array Edge} {guard : Option (Nat × Bool)} (ht : P.underlying t = some (.slice e)) (hinfo : (P.info? e).map (fun i => (i.zero, i.size, i.bytes)) = some (some z, sz, by_)) {x y : Operand} {m : Nat} (hx : ev l x = some (.int .i64 ((m : Nat) : Int))) (hy : ev l y = some (.int .i64 ((m : Nat) : Int))) (ho : o = ⟨dst, .makeSlice t x y, ty, pos, after, guard⟩) (hg : jc l ops o = true) (hdst : o.dst = some d) (hd : Nat.blt d n = true) (hb : by_ * m ≤ 281474976710656) (h63 : m ≤ 9223372036854775807) (hnb : e ≠ BY ∨ qci L)
    (hk : ∀ g w', Mg w0 w' (.row e sz (.slice (some ⟨g, 0, none⟩) m m) m (madeCells z.cells (m * sz)).toList :: L) → Carry w w' → ∀ a', Sl a' n ((d, .slice (some ⟨g, 0, none⟩) m m) :: l) → wpList P ops.toArray Q rest a' w') : wpList P ops.toArray Q (o :: rest) a w := by
  subst ho
  obtain ⟨i, hi, hzz⟩ := Option.map_eq_some_iff.1 hinfo
  simp only [Prod.mk.injEq] at hzz
  obtain ⟨hz, hs, hbb⟩ := hzz
  obtain ⟨w', hr, hown, hgr⟩ := run_make_full (P := P) (w := w) w0.heap.size t e i z sz ht hi hz hs .i64 .i64 m (by rw [hbb]; exact hb) (by unfold maxLen; omega) hM.bel.size
  have hbel : Below w.heap.size w w' := ⟨hgr.os, hgr.tape, hgr.output, hgr.size, fun k hk => hgr.block k hk (by simp)⟩
  refine yi hA hg hdst hd (v := .slice (some ⟨w.heap.size, 0, none⟩) m m) (w' := w') (fun ρ h => ?_) (hk w.heap.size w' (hM.add hbel hown (fun k e => by simp [Ck.at_, Value.ownBlock] at e; omega) (.inr (.inl ⟨_, _, _, _, _, rfl, hnb⟩))) (fun _ _ r => r.below hbel))
  simp only [execOp, h x _ hx, h y _ hy, Sem.run_bind, hr, Result.andThen_ok, Sem.run_pure]
theorem qla (hA : Sl a n l) (hM : Mg w0 w L) (hg : jc l ops o = true) (hdst : o.dst = none) {g q : Nat} {c u : Value} {e : TypeId} {sz m cap : Nat} {xs : List Value} (he : Sets P l o w (w.setCells g q [c])) (k : Nat) (hk0 : L[k]? = some (.row e sz (.slice (some ⟨g, 0, none⟩) m cap) m xs)) (hu : xs[q]? = some u) (hn : zih u = true) {L' : List Ck} (hL : L.set k (.row e sz (.slice (some ⟨g, 0, none⟩) m cap) m (over xs q [c])) = L')
    (hk : ∀ w', Mg w0 w' L' → Carry w w' → wpList P ops.toArray Q rest a w') : wpList P ops.toArray Q (o :: rest) a w :=
  qaj hA hg hdst he (hk _ (by subst hL; exact Mg.rowPuts [c] w L xs q hM k hk0) (fun so ls r => Rd.setNo r (qce hM k hk0 q u hu) (zmi hn) c))
end
theorem qyf {P : Program} {ts : Array TypeId} {ty : TypeId} {m k : Nat} : ∀ w cs, (builtin .min ts ty cs #[.int .i64 ((m : Nat) : Int), .int .i64 ((k : Nat) : Int)]).run P w = .ok (.value (.int .i64 ((min m k : Nat) : Int))) w := fun w cs => by
  have e : (if ((k : Nat) : Int) < ((m : Nat) : Int) then ((k : Nat) : Int) else ((m : Nat) : Int)) = ((min m k : Nat) : Int) := by split <;> omega
  simp only [BigFrame.builtin_min, Sem.run_bind, run_min_int2, Result.andThen_ok, Sem.run_pure, e]
def leB (n F : Nat) : List UInt8 := (List.range n).map fun i => UInt8.ofNat (F / 256 ^ i % 256)
def lbI (n F i : Nat) : List UInt8 := (List.range n).map fun j => if j < i then UInt8.ofNat (F / 256 ^ j % 256) else 0
theorem yx (n F : Nat) : (leB n F).length = n := by simp [leB]
theorem uz (n F i : Nat) : (lbI n F i).length = n := by simp [lbI]
theorem znd {n F i j : Nat} (h : j < n) : (lbI n F i).getD j 0 = if j < i then UInt8.ofNat (F / 256 ^ j % 256) else 0 := by
  unfold lbI
  rw [List.getD_eq_getElem?_getD, List.getElem?_map, List.getElem?_range h]
  rfl
theorem qvc (x : Nat) : (UInt8.ofNat (x % 256)).toNat = x % 256 := by rw [UInt8.toNat_ofNat']; omega
theorem qri (n F : Nat) : (madeCells (Value.int .u8 0).cells (n * 1)).toList = Lib.byteCells (lbI n F 0) := by
  unfold madeCells Lib.byteCells lbI
  rw [Array.toList_map, Array.toList_range, Nat.mul_one, List.map_map]
  refine List.map_congr_left fun k _ => ?_
  show (Value.int .u8 0).cells[k % 1]! = _
  rw [Nat.mod_one]
  simp
  rfl
theorem qrj {n F i : Nat} (h : i < n) : over (Lib.byteCells (lbI n F i)) (i * 1) [.int .u8 ((F / 256 ^ i % 256 : Nat) : Int)] = Lib.byteCells (lbI n F (i + 1)) := by
  rw [Nat.mul_one]
  show (Lib.byteCells (lbI n F i)).set i _ = _
  refine List.ext_getElem? fun k => ?_
  have hl : (Lib.byteCells (lbI n F i)).length = n := by rw [Lib.byteCells_length, uz]
  by_cases hk : k < n
  · by_cases e : k = i
    · subst e
      rw [List.getElem?_set_self (by omega)]
      have h2 := kb (l := lbI n F (k + 1)) (i := k) (by rw [uz]; exact hk)
      rw [Nat.mul_one, znd hk, if_pos (by omega), qvc] at h2
      exact h2.symm
    · rw [List.getElem?_set_ne (fun q => e q.symm)]
      have h1 := kb (l := lbI n F i) (i := k) (by rw [uz]; exact hk)
      have h2 := kb (l := lbI n F (i + 1)) (i := k) (by rw [uz]; exact hk)
      rw [Nat.mul_one, znd hk] at h1 h2
      rw [h1, h2]
      by_cases q : k < i
      · rw [if_pos q, if_pos (by omega)]
      · rw [if_neg q, if_neg (by omega)]
  · rw [List.getElem?_eq_none (by simp; omega), List.getElem?_eq_none (by rw [Lib.byteCells_length, uz]; omega)]
theorem qsa {n F i : Nat} (hi : i = min n ((words F).length * 4)) : lbI n F i = leB n F := by
  unfold lbI leB
  refine List.map_congr_left fun j hj => ?_
  have hj := List.mem_range.1 hj
  by_cases h : j < i
  · rw [if_pos h]
  · rw [if_neg h]
    have hge : (words F).length * 4 ≤ j := by omega
    have hF : F < 256 ^ j := by
      have h1 := words_length_iff.1 (Nat.le_refl (words F).length)
      refine Nat.lt_of_lt_of_le h1 ?_
      rw [pw_two, show (256 : Nat) = 2 ^ 8 from rfl, ← Nat.pow_mul]
      exact Nat.pow_le_pow_right (by decide) (by omega)
    rw [Nat.div_eq_of_lt hF]
    rfl
theorem qyg : ∀ (n F : Nat), F < 256 ^ n → leN (leB n F) = F
  | 0, F, h => by simp at h; subst h; rfl
  | n + 1, F, h => by
    have h1 : F / 256 < 256 ^ n := by rw [Nat.pow_succ] at h; exact Nat.div_lt_of_lt_mul (by rw [Nat.mul_comm]; exact h)
    have ih := qyg n (F / 256) h1
    have e : leB (n + 1) F = UInt8.ofNat (F % 256) :: leB n (F / 256) := by
      unfold leB
      rw [List.range_succ_eq_map, List.map_cons, List.map_map]
      congr 1
      · rw [Nat.pow_zero, Nat.div_one]
      · refine List.map_congr_left fun j _ => ?_
        show UInt8.ofNat (F / 256 ^ (j + 1) % 256) = UInt8.ofNat (F / 256 / 256 ^ j % 256)
        rw [Nat.div_div_eq_div_mul, Nat.pow_succ, Nat.mul_comm 256]
    rw [e, leN, ih, qvc]
    omega
theorem qyh (F i : Nat) : (words F).getD (i / 4) 0 / 2 ^ (i % 4 * 8) % 256 = F / 256 ^ i % 256 := by
  rw [words_getD, pw_two]
  have hr : i % 4 < 4 := Nat.mod_lt _ (by decide)
  have e1 : (4294967296 : Nat) = 2 ^ (i % 4 * 8) * 2 ^ (32 - i % 4 * 8) := by
    rw [← Nat.pow_add, show i % 4 * 8 + (32 - i % 4 * 8) = 32 from by omega]
  rw [e1, Nat.mod_mul_right_div_self, Nat.div_div_eq_div_mul, ← Nat.pow_add]
  have e2 : 32 * (i / 4) + i % 4 * 8 = 8 * i := by omega
  rw [e2, Nat.pow_mul, Nat.mod_mod_of_dvd]
  have e3 : (2 : Nat) ^ (32 - i % 4 * 8) = 2 ^ 8 * 2 ^ (24 - i % 4 * 8) := by rw [← Nat.pow_add]; congr 1; omega
  rw [e3]
  exact Nat.dvd_mul_right _ _
theorem low_low (bg : Bool) (p : List UInt8) : um bg (um bg p) = p := by unfold um; cases bg <;> simp
end Go.Proofs.YtjkpfnghiooblaaGreatDoor.G
namespace Go.Proofs.YtjkpfnghiooblaaGreatDoor.G
open Go.RowKit
set_option linter.unusedVariables false
set_option linter.unusedSimpArgs false
set_option maxRecDepth 100000
theorem ByP_is1_22 : Is1 Tryz.prog 22 := ⟨⟨_, Tryz.underlying22, rfl⟩, by kernel_rfl⟩
theorem ByP_is1_3 : Is1 Tryz.prog 3 := ⟨⟨_, Tryz.underlying3, rfl⟩, by kernel_rfl⟩
theorem ByP_is1_4 : Is1 Tryz.prog 4 := ⟨⟨_, Tryz.underlying4, rfl⟩, by kernel_rfl⟩
theorem ByP_is1_77 : Is1 Tryz.prog 77 := ⟨⟨_, Tryz.underlying77, rfl⟩, by kernel_rfl⟩
theorem ByP_fld_24_0 : FieldAt Tryz.prog 24 0 0 := ⟨_, _, Tryz.underlying24, rfl, rfl, by kernel_rfl⟩
theorem ByP_fld_24_1 : FieldAt Tryz.prog 24 1 1 := ⟨_, _, Tryz.underlying24, rfl, rfl, by kernel_rfl⟩
theorem ByP_fld_26_0 : FieldAt Tryz.prog 26 0 0 := ⟨_, _, Tryz.underlying26, rfl, rfl, by kernel_rfl⟩
theorem ByP_fld_65_0 : FieldAt Tryz.prog 65 0 0 := ⟨_, _, Tryz.underlying65, rfl, rfl, by kernel_rfl⟩
theorem ByP_fld_65_2 : FieldAt Tryz.prog 65 2 2 := ⟨_, _, Tryz.underlying65, rfl, rfl, by kernel_rfl⟩
theorem ByP_isS_26 : IsS Tryz.prog 26 6 := ⟨⟨_, Tryz.underlying26⟩, by kernel_rfl⟩
theorem ByP_isS_65 : IsS Tryz.prog 65 3 := ⟨⟨_, Tryz.underlying65⟩, by kernel_rfl⟩
theorem qvd {w : World} {n : Nat} {bg : Bool} (h1 : 1 ≤ n) (h64 : n ≤ 64) : Calls Tryz.prog 72 #[.agg #[.int .i64 ((n : Nat) : Int), .bool bg, .bool true]] w fun e w' => e = .returned (.int .i64 ((n * 8 - 1 : Nat) : Int)) ∧ Below w.heap.size w w' := by
 have hM : Mg w w ([]) := Mg.start w
 refine qz (l := [(0, .agg #[.int .i64 (((n : Nat) : Int)), .bool bg, .bool true])]) Tryz.func72 rfl Tryz.ntmps72 rfl rfl ?_
 intro Q hret hnorm hP a hA
 refine wsk fun K1 hK1 => wrl (xg (vs := [.int .i64 (((n : Nat) : Int)), .bool bg, .bool true]) (t := 65) hA hM rfl rfl rfl (fun g => .pointer (some ⟨g, 0, none⟩)) (za rfl rfl) (by decide) ?_)
 intro g2 w3 hM a hA
 refine sdo hA (qa rfl) fun a hA => ?_
 refine qb (hK1 _ _ (wsk fun K4 hK4 => wsk fun K5 hK5 => wrl (sdo (v := .pointer (some ⟨g2, 2, none⟩)) hA (qh ByP_fld_65_2 rfl rfl) fun a hA => ?_)))
 refine sdo hA (zm hM ByP_is1_4 rfl 0 rfl rfl) fun a hA => ?_
 refine qb (hK5 _ _ (wp_cond_true (hA.ev rfl) ?_))
 refine wsk fun K6 hK6 => wrl (sdo (v := .pointer (some ⟨g2, 0, none⟩)) hA (qh ByP_fld_65_0 rfl rfl) fun a hA => ?_)
 refine sdo hA (zm hM ByP_is1_3 rfl 0 rfl rfl) fun a hA => ?_
 refine sdo (v := .int .i64 (((n * 8 : Nat) : Int))) hA (qg rfl rfl (ar_mul ((in_i64 (by omega) (by omega)).trans (by omega)))) fun a hA => ?_
 refine sdo (v := .int .i64 (((n * 8 - 1 : Nat) : Int))) hA (qg rfl rfl (ar_sub ((in_i64 (by omega) (by omega)).trans (by omega)))) fun a hA => ?_
 refine sdo hA (qa rfl) fun a hA => ?_
 refine qb (hK6 _ _ (wp_ret (hret _ _ (en1 hA rfl (qk rfl) ?_))))
 exact ⟨rfl, hM.bel⟩
theorem zii {w : World} {n : Nat} {bg : Bool} (h1 : 1 ≤ n) (h64 : n ≤ 64) : Calls Tryz.prog 72 #[.agg #[.int .i64 ((n : Nat) : Int), .bool bg, .bool false]] w fun e w' => e = .returned (.int .i64 ((n * 8 : Nat) : Int)) ∧ Below w.heap.size w w' := by
 have hM : Mg w w ([]) := Mg.start w
 refine qz (l := [(0, .agg #[.int .i64 (((n : Nat) : Int)), .bool bg, .bool false])]) Tryz.func72 rfl Tryz.ntmps72 rfl rfl ?_
 intro Q hret hnorm hP a hA
 refine wsk fun K1 hK1 => wrl (xg (vs := [.int .i64 (((n : Nat) : Int)), .bool bg, .bool false]) (t := 65) hA hM rfl rfl rfl (fun g => .pointer (some ⟨g, 0, none⟩)) (za rfl rfl) (by decide) ?_)
 intro g2 w3 hM a hA
 refine sdo hA (qa rfl) fun a hA => ?_
 refine qb (hK1 _ _ (wsk fun K4 hK4 => wsk fun K5 hK5 => wrl (sdo (v := .pointer (some ⟨g2, 2, none⟩)) hA (qh ByP_fld_65_2 rfl rfl) fun a hA => ?_)))
 refine sdo hA (zm hM ByP_is1_4 rfl 0 rfl rfl) fun a hA => ?_
 refine qb (hK5 _ _ (wp_cond_false (hA.ev rfl) ?_))
 refine wp_skip (hK4 _ _ (wsk fun K6 hK6 => wrl (sdo (v := .pointer (some ⟨g2, 0, none⟩)) hA (qh ByP_fld_65_0 rfl rfl) fun a hA => ?_)))
 refine sdo hA (zm hM ByP_is1_3 rfl 0 rfl rfl) fun a hA => ?_
 refine sdo (v := .int .i64 (((n * 8 : Nat) : Int))) hA (qg rfl rfl (ar_mul ((in_i64 (by omega) (by omega)).trans (by omega)))) fun a hA => ?_
 refine sdo hA (qa rfl) fun a hA => ?_
 refine qb (hK6 _ _ (wp_ret (hret _ _ (en1 hA rfl (qk rfl) ?_))))
 exact ⟨rfl, hM.bel⟩
theorem yh {w w' : World} {q : Q6} {o1 o2 o3 o4 : Option Addr} {c1 c2 c3 c4 : Nat} (h : Nm w q o1 c1 o2 c2 o3 c3 o4 c4) (hb : Below w.heap.size w w') : Nm w' q o1 c1 o2 c2 o3 c3 o4 c4 := xm h (fun _ _ r => r.below hb)
theorem zne {b : Bool} {x : Nat} (hx : (words x).length ≤ 512) (hb : b.toNat ≤ x) : jo (Q6.whole b x) = 0 := by
 unfold jo xe
 rw [vk hx hb]
 simp [Q6.whole]
theorem zyc (z : Nat) : IntKind.u8.wrap ((z : Nat) : Int) = ((z % 256 : Nat) : Int) := by
 have e : IntKind.u8.wrap ((z : Nat) : Int) = ((z : Nat) : Int) % 256 := by
  unfold IntKind.wrap
  show (if (false : Bool) = true then _ else _) = _
  rfl
 rw [e]
 omega
theorem qad (bg : Bool) {w : World} {sp : Option Addr} {cp : Nat} {p : List UInt8} {sg : Bool} (hp : Rb w sp p) (hl : p.length ≤ 140737488351232) : Calls Tryz.prog 73 #[.agg #[.int .i64 ((p.length : Nat) : Int), .bool bg, .bool sg], .slice sp p.length cp] w fun e w' => ∃ g, e = .returned (.slice (some ⟨g, 0, none⟩) p.length p.length) ∧ Mg w w' [.row BY 1 (.slice (some ⟨g, 0, none⟩) p.length p.length) p.length (Lib.byteCells (um bg p))] := by
 cases bg
 ·
  exact yt hp hl
 ·
  exact uj hp hl
theorem qyi {w : World} {b : Bool} {x n : Nat} {o1 o2 o3 o4 : Option Addr} {c1 c2 c3 c4 : Nat} (ha : Nm w (Q6.whole b x) o1 c1 o2 c2 o3 c3 o4 c4) (hx : (words x).length ≤ 512) (hbx : b.toNat ≤ x) (h1 : 1 ≤ n) (h64 : n ≤ 64) (bg : Bool) {F ln : Nat} (hF : fld b (x - b.toNat) 0 (n * 8) = F) (hln : bl (x - b.toNat) = ln) (hroom : ln ≤ n * 8 - 1)  : Calls Tryz.prog 27 #[.agg #[.int .i64 ((n : Nat) : Int), .bool bg, .bool true], xb (Q6.whole b x) o1 c1 o2 c2 o3 c3 o4 c4] w fun e w' => ∃ g, e = .returned (.tuple #[.slice (some ⟨g, 0, none⟩) n n, .int .i64 0]) ∧ Mg w w' [.row BY 1 (.slice (some ⟨g, 0, none⟩) n n) n (Lib.byteCells (um bg (leB n F)))] := by
 have hw := zne hx hbx
 have hwl : (words F).length ≤ 512 := by rw [← hF]; exact zkb (by omega)
 have hM : Mg w w ([]) := Mg.start w
 refine qz (l := [(0, .agg #[.int .i64 (((n : Nat) : Int)), .bool bg, .bool true]), (1, .agg #[.bool b, .slice o1 ((words x).length) c1, .slice o2 1 c2, .bool false, .slice o3 0 c3, .slice o4 1 c4])]) Tryz.func27 rfl Tryz.ntmps27 rfl rfl ?_
 intro Q hret hnorm hP a hA
 refine wsk fun K1 hK1 => wrl (xg (vs := [.int .i64 (((n : Nat) : Int)), .bool bg, .bool true]) (t := 65) hA hM rfl rfl rfl (fun g => .pointer (some ⟨g, 0, none⟩)) (za rfl rfl) (by decide) ?_)
 intro g2 w3 hM a hA
 refine xg (vs := [.bool b, .slice o1 ((words x).length) c1, .slice o2 1 c2, .bool false, .slice o3 0 c3, .slice o4 1 c4]) (t := 26) hA hM rfl rfl rfl (fun g => .pointer (some ⟨g, 0, none⟩)) (za rfl rfl) (by decide) ?_
 intro g4 w5 hM a hA
 iterate 2 refine sdo hA (qa rfl) fun a hA => ?_
 refine qb (hK1 _ _ (wsk fun K6 hK6 => wrl (sdo hA (zt hM ByP_isS_26 rfl 0 rfl (cs := [.bool b, .slice o1 ((words x).length) c1, .slice o2 1 c2, .bool false, .slice o3 0 c3, .slice o4 1 c4]) rfl rfl) fun a hA => ?_)))
 refine qj hA rfl rfl rfl (qf rfl rfl (fun w => by kernel_rfl)) ((by have h9 := qbg (w := w5) (yh ha hM.bel) (xj hx) hw hx hbx; rw [yn hw, hln] at h9; exact h9)) ?_
 rintro _ w8 ⟨rfl, hb7⟩
 replace hM := hM.call hb7
 refine ⟨_, rfl, ?_⟩
 intro a hA
 refine sdo hA (qe rfl) fun a hA => ?_
 iterate 2 refine sdo hA (qs (vs := [.int .i64 (((ln : Nat) : Int)), .int .i64 0]) rfl rfl) fun a hA => ?_
 iterate 2 refine sdo hA (qa rfl) fun a hA => ?_
 refine qb (hK6 _ _ (wsk fun K9 hK9 => wsk fun K10 hK10 => wrl (sdo hA (qe rfl) fun a hA => ?_)))
 refine sdo (v := .bool false) hA (qg rfl rfl (fun w => by kernel_rfl)) fun a hA => ?_
 refine qb (hK10 _ _ (wp_cond_false (hA.ev rfl) ?_))
 refine wp_skip (hK9 _ _ (wsk fun K11 hK11 => wsk fun K12 hK12 => wrl (sdo (v := .pointer (some ⟨g4, 0, none⟩)) hA (qh ByP_fld_26_0 rfl rfl) fun a hA => ?_)))
 refine sdo (v := .pointer (some ⟨g4, 0, none⟩)) hA (qh ByP_fld_24_0 rfl rfl) fun a hA => ?_
 refine sdo hA (zm hM ByP_is1_4 rfl 0 rfl rfl) fun a hA => ?_
 refine sdo hA (qe rfl) fun a hA => ?_
 rcases b with _ | _
 ·
  iterate 3 refine qy hA rfl rfl rfl fun a hA => ?_
  refine sdo (v := .bool false) hA (qi rfl rfl rfl rfl) fun a hA => ?_
  iterate 2 refine sdo hA (qe rfl) fun a hA => ?_
  refine sdo hA (zt hM ByP_isS_65 rfl 1 rfl (cs := [.int .i64 (((n : Nat) : Int)), .bool bg, .bool true]) rfl rfl) fun a hA => ?_
  refine qj hA rfl rfl rfl (qf rfl rfl (fun w => by kernel_rfl)) (qvd h1 h64) ?_
  rintro _ w14 ⟨rfl, hb13⟩
  replace hM := hM.call hb13
  refine ⟨_, rfl, ?_⟩
  intro a hA
  refine sdo (v := .bool false) hA (qg rfl rfl (fun w => (jt w).trans (by rw [show (decide (((n * 8 - 1 : Nat) : Int) < ((ln : Nat) : Int))) = false from (decide_eq_false (by omega))]))) fun a hA => ?_
  refine sdo (v := .bool false) hA (qi rfl rfl rfl rfl) fun a hA => ?_
  refine qb (hK12 _ _ (wp_cond_false (hA.ev rfl) ?_))
  refine wp_skip (hK11 _ _ (wsk fun K15 hK15 => wrl (sdo hA (zt hM ByP_isS_26 rfl 0 rfl (cs := [.bool false, .slice o1 ((words x).length) c1, .slice o2 1 c2, .bool false, .slice o3 0 c3, .slice o4 1 c4]) rfl rfl) fun a hA => ?_)))
  refine sdo (v := .pointer (some ⟨g2, 0, none⟩)) hA (qh ByP_fld_65_0 rfl rfl) fun a hA => ?_
  refine sdo hA (zm hM ByP_is1_3 rfl 1 rfl rfl) fun a hA => ?_
  refine sdo (v := .int .i64 (((n * 8 : Nat) : Int))) hA (qg rfl rfl (ar_mul ((in_i64 (by omega) (by omega)).trans (by omega)))) fun a hA => ?_
  refine qj hA rfl rfl rfl (qf rfl rfl (fun w => by kernel_rfl)) ((show Calls Tryz.prog 9 _ _ (AnsN _ (Q6.whole false F, 0)) from (by have h9 := uy (w := w14) (S := 0) (E := n * 8) (yh ha hM.bel) (xj hx) (by omega) (by omega) hw hx hbx; rw [qae hw (by omega) (by omega), Nat.sub_zero, hF] at h9; exact h9))) ?_
  rintro _ w19 ⟨o18_1, o18_c1, o18_2, o18_c2, o18_3, o18_c3, o18_4, o18_c4, rfl, hn16, hb17⟩
  replace hM := hM.call hb17
  refine ⟨_, rfl, ?_⟩
  intro a hA
  refine sdo hA (qe rfl) fun a hA => ?_
  iterate 2 refine sdo hA (qs (vs := [.agg #[.bool false, .slice o18_1 ((words F).length) o18_c1, .slice o18_2 1 o18_c2, .bool false, .slice o18_3 0 o18_c3, .slice o18_4 1 o18_c4], .int .i64 0]) rfl rfl) fun a hA => ?_
  refine qrg (vs := [.bool false, .slice none 0 0, .slice none 0 0, .bool false, .slice none 0 0, .slice none 0 0]) (t := 26) hA hM rfl rfl rfl (fun g => .pointer (some ⟨g, 0, none⟩)) (qp (z := .agg #[.bool false, .slice none 0 0, .slice none 0 0, .bool false, .slice none 0 0, .slice none 0 0]) (by kernel_rfl) rfl) (by decide) ?_
  intro g20 w21 hM hc22 a hA
  replace hn16 := xm hn16 hc22
  refine ul (us := [.bool false, .slice o18_1 ((words F).length) o18_c1, .slice o18_2 1 o18_c2, .bool false, .slice o18_3 0 o18_c3, .slice o18_4 1 o18_c4]) (L' := (.obj g20 (.cells #[.bool false, .slice o18_1 ((words F).length) o18_c1, .slice o18_2 1 o18_c2, .bool false, .slice o18_3 0 o18_c3, .slice o18_4 1 o18_c4] 26) :: .obj g4 (.cells #[.bool false, .slice o1 ((words x).length) c1, .slice o2 1 c2, .bool false, .slice o3 0 c3, .slice o4 1 c4] 26) :: .obj g2 (.cells #[.int .i64 (((n : Nat) : Int)), .bool bg, .bool true] 65) :: [])) hA hM rfl rfl (zy rfl rfl rfl (by kernel_rfl) hM 0 rfl rfl rfl) 0 rfl rfl rfl rfl rfl rfl ?_
  intro w23 hM hc24
  replace hn16 := xm hn16 hc24
  refine sdo hA (qa rfl) fun a hA => ?_
  refine qb (hK15 _ _ (wsk fun K25 hK25 => wrl (sdo (v := .pointer (some ⟨g2, 0, none⟩)) hA (qh ByP_fld_65_0 rfl rfl) fun a hA => ?_)))
  refine sdo hA (zm hM ByP_is1_3 rfl 2 rfl rfl) fun a hA => ?_
  refine qye (z := .int .u8 0) (sz := 1) (by_ := 1) (m := n) hA hM Tryz.underlying31 (by kernel_rfl) rfl rfl rfl rfl rfl rfl (by omega) (by omega) (.inr (qr (by simp) (qr (by simp) (qr (by simp) (zg zh))))) ?_
  intro gx w26 hM hc27 a hA
  replace hn16 := xm hn16 hc27
  rw [qri n F] at hM
  refine sdo hA (qa rfl) fun a hA => ?_
  refine qb (hK25 _ _ (wsk fun K28 hK28 => wsk fun K29 hK29 => wrl (sdo (v := .pointer (some ⟨g2, 0, none⟩)) hA (qh ByP_fld_65_0 rfl rfl) fun a hA => ?_)))
  refine sdo hA (zm hM ByP_is1_3 rfl 3 rfl rfl) fun a hA => ?_
  refine sdo (v := .pointer (some ⟨g20, 0, none⟩)) hA (qh ByP_fld_26_0 rfl rfl) fun a hA => ?_
  refine sdo (v := .pointer (some ⟨g20, 1, none⟩)) hA (qh ByP_fld_24_1 rfl rfl) fun a hA => ?_
  refine sdo hA (zm hM ByP_is1_22 rfl 1 rfl rfl) fun a hA => ?_
  refine sdo hA (zj Tryz.underlying22 rfl) fun a hA => ?_
  refine sdo (v := .int .i64 ((((words F).length * 4 : Nat) : Int))) hA (qg rfl rfl (ar_mul ((in_i64 (by omega) (by omega)).trans (by omega)))) fun a hA => ?_
  refine sdo (v := .int .i64 (((min n ((words F).length * 4) : Nat) : Int))) hA (vh rfl qyf) fun a hA => ?_
  refine sdo hA (qe rfl) fun a hA => ?_
  refine qb (hK29 _ _ (wp_block (jw (fun m_ a w1 => ∃ (i : Nat), m_ = n - i ∧ (i ≤ min n ((words F).length * 4) ∧ Rd w1 o18_1 (words F)) ∧ Sl a 75 [(0, .agg #[.int .i64 (((n : Nat) : Int)), .bool bg, .bool true]), (1, .agg #[.bool false, .slice o1 ((words x).length) c1, .slice o2 1 c2, .bool false, .slice o3 0 c3, .slice o4 1 c4]), (2, .pointer (some ⟨g2, 0, none⟩)), (3, .pointer (some ⟨g4, 0, none⟩)), (4, .slice none 0 0), (5, .int .i64 0), (6, .int .i64 (((ln : Nat) : Int))), (7, .int .i64 0), (8, .pointer (some ⟨g20, 0, none⟩)), (9, .int .i64 0), (10, .slice (some ⟨gx, 0, none⟩) n n), (12, .tuple #[.int .i64 (((ln : Nat) : Int)), .int .i64 0]), (13, .agg #[.bool false, .slice o1 ((words x).length) c1, .slice o2 1 c2, .bool false, .slice o3 0 c3, .slice o4 1 c4]), (14, .tuple #[.int .i64 (((ln : Nat) : Int)), .int .i64 0]), (15, .int .i64 (((ln : Nat) : Int))), (16, .int .i64 0), (17, .int .i64 0), (18, .bool false), (20, .pointer (some ⟨g4, 0, none⟩)), (21, .pointer (some ⟨g4, 0, none⟩)), (22, .bool false), (23, .bool false), (27, .bool false), (28, .bool false), (29, .int .i64 (((ln : Nat) : Int))), (30, .agg #[.int .i64 (((n : Nat) : Int)), .bool bg, .bool true]), (31, .int .i64 (((n * 8 - 1 : Nat) : Int))), (32, .bool false), (33, .bool false), (34, .tuple #[.agg #[.bool false, .slice o18_1 ((words F).length) o18_c1, .slice o18_2 1 o18_c2, .bool false, .slice o18_3 0 o18_c3, .slice o18_4 1 o18_c4], .int .i64 0]), (35, .agg #[.bool false, .slice o1 ((words x).length) c1, .slice o2 1 c2, .bool false, .slice o3 0 c3, .slice o4 1 c4]), (36, .pointer (some ⟨g2, 0, none⟩)), (37, .int .i64 (((n : Nat) : Int))), (38, .int .i64 (((n * 8 : Nat) : Int))), (39, .tuple #[.agg #[.bool false, .slice o18_1 ((words F).length) o18_c1, .slice o18_2 1 o18_c2, .bool false, .slice o18_3 0 o18_c3, .slice o18_4 1 o18_c4], .int .i64 0]), (40, .agg #[.bool false, .slice o18_1 ((words F).length) o18_c1, .slice o18_2 1 o18_c2, .bool false, .slice o18_3 0 o18_c3, .slice o18_4 1 o18_c4]), (41, .int .i64 0), (42, .pointer (some ⟨g2, 0, none⟩)), (43, .int .i64 (((n : Nat) : Int))), (44, .slice (some ⟨gx, 0, none⟩) n n), (45, .pointer (some ⟨g2, 0, none⟩)), (46, .int .i64 (((n : Nat) : Int))), (47, .pointer (some ⟨g20, 0, none⟩)), (48, .pointer (some ⟨g20, 1, none⟩)), (49, .slice o18_1 ((words F).length) o18_c1), (50, .int .i64 ((((words F).length : Nat) : Int))), (51, .int .i64 ((((words F).length * 4 : Nat) : Int))), (52, .int .i64 (((min n ((words F).length * 4) : Nat) : Int))), (53, .int .i64 (((i : Nat) : Int)))] ∧ Mg w w1 (.row BY 1 (.slice (some ⟨gx, 0, none⟩) n n) n ((Lib.byteCells (lbI n F i))) :: .obj g20 (.cells #[.bool false, .slice o18_1 ((words F).length) o18_c1, .slice o18_2 1 o18_c2, .bool false, .slice o18_3 0 o18_c3, .slice o18_4 1 o18_c4] 26) :: .obj g4 (.cells #[.bool false, .slice o1 ((words x).length) c1, .slice o2 1 c2, .bool false, .slice o3 0 c3, .slice o4 1 c4] 26) :: .obj g2 (.cells #[.int .i64 (((n : Nat) : Int)), .bool bg, .bool true] 65) :: [])) _ ⟨0, rfl, ⟨Nat.zero_le _, hn16.s1.rd⟩, hA.keep _ ⟨rfl, rfl, rfl, rfl, rfl, rfl, rfl, rfl, rfl, rfl, rfl, rfl, rfl, rfl, rfl, rfl, rfl, rfl, rfl, rfl, rfl, rfl, rfl, rfl, rfl, rfl, rfl, rfl, rfl, rfl, rfl, rfl, rfl, rfl, rfl, rfl, rfl, rfl, rfl, rfl, rfl, rfl, rfl, rfl, rfl, rfl, rfl, rfl, rfl, trivial⟩, hM⟩ ?_)))
  clear hM hA
  rintro m_ a w30 ⟨i, rfl, hinv32, hA, hM⟩ K31 hK31
  obtain ⟨hi9, hrdF⟩ := hinv32
  refine wsk fun K33 hK33 => wrl ?_
  rcases tf (decide (((i : Nat) : Int) < ((min n ((words F).length * 4) : Nat) : Int))) with hb34 | hb34
  ·
   have hb34' := of_decide_eq_true hb34
   refine sdo (v := .bool true) hA (qg rfl rfl (fun w => (zr w).trans (by rw [hb34]))) fun a hA => ?_
   refine qb (hK33 _ _ (wsk fun K35 hK35 => wp_cond_true (hA.ev rfl) ?_))
   refine wp_skip (hK35 _ _ (wsk fun K36 hK36 => wp_block (wsk fun K37 hK37 => wrl (sdo hA (qe rfl) fun a hA => ?_))))
   refine sdo hA (qa rfl) fun a hA => ?_
   refine qb (hK37 _ _ (wrl ?_))
   iterate 2 refine sdo hA (qe rfl) fun a hA => ?_
   refine sdo (v := .pointer (some ⟨g20, 0, none⟩)) hA (qh ByP_fld_26_0 rfl rfl) fun a hA => ?_
   refine sdo (v := .pointer (some ⟨g20, 1, none⟩)) hA (qh ByP_fld_24_1 rfl rfl) fun a hA => ?_
   refine sdo hA (zm hM ByP_is1_22 rfl 1 rfl rfl) fun a hA => ?_
   refine sdo hA (qe rfl) fun a hA => ?_
   refine sdo (v := .int .i64 (((i / 4 : Nat) : Int))) hA (qg rfl rfl (ar_quo (by decide) ((congrArg IntKind.i64.wrap (Int.tdiv_eq_ediv_of_nonneg (by omega))).trans ((in_i64 (by omega) (by omega)).trans (by omega))))) fun a hA => ?_
   have hj9 : i / 4 < (words F).length := by omega
   obtain ⟨bx38, ox39, hx40⟩ := hrdF.addr hj9
   refine sdo (v := .pointer (some ⟨bx38, ox39 + i / 4, none⟩)) hA (zw (k := i / 4) Tryz.underlying22 (by kernel_rfl) rfl rfl rfl hx40 hj9) fun a hA => ?_
   refine sdo (v := .int .u32 ((((words F).getD (i / 4) 0 : Nat) : Int))) hA (qyd (hrdF.at_ hx40 hj9) ByP_is1_77 rfl) fun a hA => ?_
   refine sdo hA (qe rfl) fun a hA => ?_
   refine sdo (v := .int .i64 (((i % 4 : Nat) : Int))) hA (qg rfl rfl (ar_rem (by decide) ((Int.tmod_eq_emod_of_nonneg (by omega)).trans (by omega)))) fun a hA => ?_
   refine sdo (v := .int .i64 (((i % 4 * 8 : Nat) : Int))) hA (qg rfl rfl (ar_mul ((in_i64 (by omega) (by omega)).trans (by omega)))) fun a hA => ?_
   refine sdo (v := .int .u32 ((((words F).getD (i / 4) 0 / 2 ^ (i % 4 * 8) : Nat) : Int))) hA (qg rfl rfl (ar_shr (n := i % 4 * 8) rfl (Nat.ble_eq_true_of_le (show i % 4 * 8 ≤ 32 by omega)) (by rw [Int.natCast_ediv, Int.natCast_pow]; rfl))) fun a hA => ?_
   refine sdo (v := .int .u8 (((F / 256 ^ i % 256 : Nat) : Int))) hA (jv rfl (ar_conv Tryz.underlying77 Tryz.underlying5 (by rw [← qyh]; exact zyc _))) fun a hA => ?_
   refine sdo (v := .pointer (some ⟨gx, (i) * 1, none⟩)) hA (jj Tryz.underlying31 (by kernel_rfl) rfl rfl rfl (show i < n by omega)) fun a hA => ?_
   refine qla (c := .int .u8 (((F / 256 ^ i % 256 : Nat) : Int))) (L' := (.row BY 1 (.slice (some ⟨gx, 0, none⟩) n n) n ((over (Lib.byteCells (lbI n F i)) ((i) * 1) [.int .u8 (((F / 256 ^ i % 256 : Nat) : Int))])) :: .obj g20 (.cells #[.bool false, .slice o18_1 ((words F).length) o18_c1, .slice o18_2 1 o18_c2, .bool false, .slice o18_3 0 o18_c3, .slice o18_4 1 o18_c4] 26) :: .obj g4 (.cells #[.bool false, .slice o1 ((words x).length) c1, .slice o2 1 c2, .bool false, .slice o3 0 c3, .slice o4 1 c4] 26) :: .obj g2 (.cells #[.int .i64 (((n : Nat) : Int)), .bool bg, .bool true] 65) :: [])) hA hM rfl rfl (kl rfl rfl rfl (by kernel_rfl) hM 0 rfl (show (i) * 1 + 1 ≤ n * 1 by omega) rfl) 0 rfl (kb (l := lbI n F i) (i := i) (by rw [uz]; omega)) rfl rfl ?_
   intro w41 hM hc42
   replace hrdF := hc42 _ _ hrdF
   replace hM : Mg w w41 (.row BY 1 (.slice (some ⟨gx, 0, none⟩) n n) n ((Lib.byteCells (lbI n F (i + 1)))) :: .obj g20 (.cells #[.bool false, .slice o18_1 ((words F).length) o18_c1, .slice o18_2 1 o18_c2, .bool false, .slice o18_3 0 o18_c3, .slice o18_4 1 o18_c4] 26) :: .obj g4 (.cells #[.bool false, .slice o1 ((words x).length) c1, .slice o2 1 c2, .bool false, .slice o3 0 c3, .slice o4 1 c4] 26) :: .obj g2 (.cells #[.int .i64 (((n : Nat) : Int)), .bool bg, .bool true] 65) :: []) := by
    have h9 := hM
    rw [qrj (by omega)] at h9
    exact h9
   refine qb (hK36 _ _ (wrl (sdo (v := .int .i64 (((i + 1 : Nat) : Int))) hA (qg rfl rfl (ar_add ((in_i64 (by omega) (by omega)).trans (by omega)))) fun a hA => ?_)))
   refine sdo hA (qe rfl) fun a hA => ?_
   refine qb ?_
   refine hK31 _ _ _ (by omega) ⟨i + 1, rfl, ⟨by omega, hrdF⟩, hA.keep _ ⟨rfl, rfl, rfl, rfl, rfl, rfl, rfl, rfl, rfl, rfl, rfl, rfl, rfl, rfl, rfl, rfl, rfl, rfl, rfl, rfl, rfl, rfl, rfl, rfl, rfl, rfl, rfl, rfl, rfl, rfl, rfl, rfl, rfl, rfl, rfl, rfl, rfl, rfl, rfl, rfl, rfl, rfl, rfl, rfl, rfl, rfl, rfl, rfl, rfl, trivial⟩, hM⟩
  ·
   have hb34' := of_decide_eq_false hb34
   refine sdo (v := .bool false) hA (qg rfl rfl (fun w => (zr w).trans (by rw [hb34]))) fun a hA => ?_
   refine qb (hK33 _ _ (wsk fun K43 hK43 => wp_cond_false (hA.ev rfl) ?_))
   refine wp_exit (hK28 _ _ (wsk fun K44 hK44 => wrl (sdo hA (zt hM ByP_isS_65 rfl 3 rfl (cs := [.int .i64 (((n : Nat) : Int)), .bool bg, .bool true]) rfl rfl) fun a hA => ?_)))
   refine sdo hA (qe rfl) fun a hA => ?_
   have hi8 : i = min n ((words F).length * 4) := by omega
   have hd8 := qsa hi8
   replace hM : Mg w w30 (.row BY 1 (.slice (some ⟨gx, 0, none⟩) n n) n ((Lib.byteCells (leB n F))) :: .obj g20 (.cells #[.bool false, .slice o18_1 ((words F).length) o18_c1, .slice o18_2 1 o18_c2, .bool false, .slice o18_3 0 o18_c3, .slice o18_4 1 o18_c4] 26) :: .obj g4 (.cells #[.bool false, .slice o1 ((words x).length) c1, .slice o2 1 c2, .bool false, .slice o3 0 c3, .slice o4 1 c4] 26) :: .obj g2 (.cells #[.int .i64 (((n : Nat) : Int)), .bool bg, .bool true] 65) :: []) := by
    have h9 := hM
    rw [hd8] at h9
    exact h9
   refine qj hA rfl rfl rfl (qf rfl rfl (fun w => by kernel_rfl)) ((by have h9 := qad bg (w := w30) (sg := true) (cp := n) (ui (bs := leB n F) hM 0 rfl).1 (by rw [yx]; omega); rw [yx] at h9; exact h9)) ?_
   rintro _ w47 ⟨g45, rfl, hM46⟩
   replace hM : Mg w w47 (.row BY 1 (.slice (some ⟨g45, 0, none⟩) n n) n ((Lib.byteCells (um bg (leB n F)))) :: .row BY 1 (.slice (some ⟨gx, 0, none⟩) n n) n ((Lib.byteCells (leB n F))) :: .obj g20 (.cells #[.bool false, .slice o18_1 ((words F).length) o18_c1, .slice o18_2 1 o18_c2, .bool false, .slice o18_3 0 o18_c3, .slice o18_4 1 o18_c4] 26) :: .obj g4 (.cells #[.bool false, .slice o1 ((words x).length) c1, .slice o2 1 c2, .bool false, .slice o3 0 c3, .slice o4 1 c4] 26) :: .obj g2 (.cells #[.int .i64 (((n : Nat) : Int)), .bool bg, .bool true] 65) :: []) := (hM.both hM46 (qr (by simp) (qr (by simp) (qr (by simp) (qr (by simp) (zg zh))))) (qr (by simp) (zg zh)))
   refine ⟨_, rfl, ?_⟩
   intro a hA
   iterate 2 refine sdo hA (qa rfl) fun a hA => ?_
   refine qb (hK44 _ _ (wp_ret (hret _ _ (en2 hA rfl (qk rfl) (qk rfl) ?_))))
   exact ⟨g45, rfl, hM.sub (.cons_cons _ (.cons _ (.cons _ (.cons _ (.cons _ (.refl _))))))⟩
 ·
  refine sdo (v := .pointer (some ⟨g2, 2, none⟩)) hA (qh ByP_fld_65_2 rfl rfl) fun a hA => ?_
  refine sdo hA (zm hM ByP_is1_4 rfl 1 rfl rfl) fun a hA => ?_
  refine sdo (v := .bool false) hA (zk rfl zq) fun a hA => ?_
  refine sdo (v := .bool false) hA (qi rfl rfl rfl rfl) fun a hA => ?_
  iterate 2 refine sdo hA (qe rfl) fun a hA => ?_
  refine sdo hA (zt hM ByP_isS_65 rfl 1 rfl (cs := [.int .i64 (((n : Nat) : Int)), .bool bg, .bool true]) rfl rfl) fun a hA => ?_
  refine qj hA rfl rfl rfl (qf rfl rfl (fun w => by kernel_rfl)) (qvd h1 h64) ?_
  rintro _ w49 ⟨rfl, hb48⟩
  replace hM := hM.call hb48
  refine ⟨_, rfl, ?_⟩
  intro a hA
  refine sdo (v := .bool false) hA (qg rfl rfl (fun w => (jt w).trans (by rw [show (decide (((n * 8 - 1 : Nat) : Int) < ((ln : Nat) : Int))) = false from (decide_eq_false (by omega))]))) fun a hA => ?_
  refine sdo (v := .bool false) hA (qi rfl rfl rfl rfl) fun a hA => ?_
  refine qb (hK12 _ _ (wp_cond_false (hA.ev rfl) ?_))
  refine wp_skip (hK11 _ _ (wsk fun K50 hK50 => wrl (sdo hA (zt hM ByP_isS_26 rfl 0 rfl (cs := [.bool true, .slice o1 ((words x).length) c1, .slice o2 1 c2, .bool false, .slice o3 0 c3, .slice o4 1 c4]) rfl rfl) fun a hA => ?_)))
  refine sdo (v := .pointer (some ⟨g2, 0, none⟩)) hA (qh ByP_fld_65_0 rfl rfl) fun a hA => ?_
  refine sdo hA (zm hM ByP_is1_3 rfl 1 rfl rfl) fun a hA => ?_
  refine sdo (v := .int .i64 (((n * 8 : Nat) : Int))) hA (qg rfl rfl (ar_mul ((in_i64 (by omega) (by omega)).trans (by omega)))) fun a hA => ?_
  refine qj hA rfl rfl rfl (qf rfl rfl (fun w => by kernel_rfl)) ((show Calls Tryz.prog 9 _ _ (AnsN _ (Q6.whole false F, 0)) from (by have h9 := uy (w := w49) (S := 0) (E := n * 8) (yh ha hM.bel) (xj hx) (by omega) (by omega) hw hx hbx; rw [qae hw (by omega) (by omega), Nat.sub_zero, hF] at h9; exact h9))) ?_
  rintro _ w54 ⟨o53_1, o53_c1, o53_2, o53_c2, o53_3, o53_c3, o53_4, o53_c4, rfl, hn51, hb52⟩
  replace hM := hM.call hb52
  refine ⟨_, rfl, ?_⟩
  intro a hA
  refine sdo hA (qe rfl) fun a hA => ?_
  iterate 2 refine sdo hA (qs (vs := [.agg #[.bool false, .slice o53_1 ((words F).length) o53_c1, .slice o53_2 1 o53_c2, .bool false, .slice o53_3 0 o53_c3, .slice o53_4 1 o53_c4], .int .i64 0]) rfl rfl) fun a hA => ?_
  refine qrg (vs := [.bool false, .slice none 0 0, .slice none 0 0, .bool false, .slice none 0 0, .slice none 0 0]) (t := 26) hA hM rfl rfl rfl (fun g => .pointer (some ⟨g, 0, none⟩)) (qp (z := .agg #[.bool false, .slice none 0 0, .slice none 0 0, .bool false, .slice none 0 0, .slice none 0 0]) (by kernel_rfl) rfl) (by decide) ?_
  intro g55 w56 hM hc57 a hA
  replace hn51 := xm hn51 hc57
  refine ul (us := [.bool false, .slice o53_1 ((words F).length) o53_c1, .slice o53_2 1 o53_c2, .bool false, .slice o53_3 0 o53_c3, .slice o53_4 1 o53_c4]) (L' := (.obj g55 (.cells #[.bool false, .slice o53_1 ((words F).length) o53_c1, .slice o53_2 1 o53_c2, .bool false, .slice o53_3 0 o53_c3, .slice o53_4 1 o53_c4] 26) :: .obj g4 (.cells #[.bool true, .slice o1 ((words x).length) c1, .slice o2 1 c2, .bool false, .slice o3 0 c3, .slice o4 1 c4] 26) :: .obj g2 (.cells #[.int .i64 (((n : Nat) : Int)), .bool bg, .bool true] 65) :: [])) hA hM rfl rfl (zy rfl rfl rfl (by kernel_rfl) hM 0 rfl rfl rfl) 0 rfl rfl rfl rfl rfl rfl ?_
  intro w58 hM hc59
  replace hn51 := xm hn51 hc59
  refine sdo hA (qa rfl) fun a hA => ?_
  refine qb (hK50 _ _ (wsk fun K60 hK60 => wrl (sdo (v := .pointer (some ⟨g2, 0, none⟩)) hA (qh ByP_fld_65_0 rfl rfl) fun a hA => ?_)))
  refine sdo hA (zm hM ByP_is1_3 rfl 2 rfl rfl) fun a hA => ?_
  refine qye (z := .int .u8 0) (sz := 1) (by_ := 1) (m := n) hA hM Tryz.underlying31 (by kernel_rfl) rfl rfl rfl rfl rfl rfl (by omega) (by omega) (.inr (qr (by simp) (qr (by simp) (qr (by simp) (zg zh))))) ?_
  intro gx w61 hM hc62 a hA
  replace hn51 := xm hn51 hc62
  rw [qri n F] at hM
  refine sdo hA (qa rfl) fun a hA => ?_
  refine qb (hK60 _ _ (wsk fun K63 hK63 => wsk fun K64 hK64 => wrl (sdo (v := .pointer (some ⟨g2, 0, none⟩)) hA (qh ByP_fld_65_0 rfl rfl) fun a hA => ?_)))
  refine sdo hA (zm hM ByP_is1_3 rfl 3 rfl rfl) fun a hA => ?_
  refine sdo (v := .pointer (some ⟨g55, 0, none⟩)) hA (qh ByP_fld_26_0 rfl rfl) fun a hA => ?_
  refine sdo (v := .pointer (some ⟨g55, 1, none⟩)) hA (qh ByP_fld_24_1 rfl rfl) fun a hA => ?_
  refine sdo hA (zm hM ByP_is1_22 rfl 1 rfl rfl) fun a hA => ?_
  refine sdo hA (zj Tryz.underlying22 rfl) fun a hA => ?_
  refine sdo (v := .int .i64 ((((words F).length * 4 : Nat) : Int))) hA (qg rfl rfl (ar_mul ((in_i64 (by omega) (by omega)).trans (by omega)))) fun a hA => ?_
  refine sdo (v := .int .i64 (((min n ((words F).length * 4) : Nat) : Int))) hA (vh rfl qyf) fun a hA => ?_
  refine sdo hA (qe rfl) fun a hA => ?_
  refine qb (hK64 _ _ (wp_block (jw (fun m_ a w1 => ∃ (i : Nat), m_ = n - i ∧ (i ≤ min n ((words F).length * 4) ∧ Rd w1 o53_1 (words F)) ∧ Sl a 75 [(0, .agg #[.int .i64 (((n : Nat) : Int)), .bool bg, .bool true]), (1, .agg #[.bool true, .slice o1 ((words x).length) c1, .slice o2 1 c2, .bool false, .slice o3 0 c3, .slice o4 1 c4]), (2, .pointer (some ⟨g2, 0, none⟩)), (3, .pointer (some ⟨g4, 0, none⟩)), (4, .slice none 0 0), (5, .int .i64 0), (6, .int .i64 (((ln : Nat) : Int))), (7, .int .i64 0), (8, .pointer (some ⟨g55, 0, none⟩)), (9, .int .i64 0), (10, .slice (some ⟨gx, 0, none⟩) n n), (12, .tuple #[.int .i64 (((ln : Nat) : Int)), .int .i64 0]), (13, .agg #[.bool true, .slice o1 ((words x).length) c1, .slice o2 1 c2, .bool false, .slice o3 0 c3, .slice o4 1 c4]), (14, .tuple #[.int .i64 (((ln : Nat) : Int)), .int .i64 0]), (15, .int .i64 (((ln : Nat) : Int))), (16, .int .i64 0), (17, .int .i64 0), (18, .bool false), (20, .pointer (some ⟨g4, 0, none⟩)), (21, .pointer (some ⟨g4, 0, none⟩)), (22, .bool true), (23, .bool true), (24, .pointer (some ⟨g2, 2, none⟩)), (25, .bool true), (26, .bool false), (27, .bool false), (28, .bool false), (29, .int .i64 (((ln : Nat) : Int))), (30, .agg #[.int .i64 (((n : Nat) : Int)), .bool bg, .bool true]), (31, .int .i64 (((n * 8 - 1 : Nat) : Int))), (32, .bool false), (33, .bool false), (34, .tuple #[.agg #[.bool false, .slice o53_1 ((words F).length) o53_c1, .slice o53_2 1 o53_c2, .bool false, .slice o53_3 0 o53_c3, .slice o53_4 1 o53_c4], .int .i64 0]), (35, .agg #[.bool true, .slice o1 ((words x).length) c1, .slice o2 1 c2, .bool false, .slice o3 0 c3, .slice o4 1 c4]), (36, .pointer (some ⟨g2, 0, none⟩)), (37, .int .i64 (((n : Nat) : Int))), (38, .int .i64 (((n * 8 : Nat) : Int))), (39, .tuple #[.agg #[.bool false, .slice o53_1 ((words F).length) o53_c1, .slice o53_2 1 o53_c2, .bool false, .slice o53_3 0 o53_c3, .slice o53_4 1 o53_c4], .int .i64 0]), (40, .agg #[.bool false, .slice o53_1 ((words F).length) o53_c1, .slice o53_2 1 o53_c2, .bool false, .slice o53_3 0 o53_c3, .slice o53_4 1 o53_c4]), (41, .int .i64 0), (42, .pointer (some ⟨g2, 0, none⟩)), (43, .int .i64 (((n : Nat) : Int))), (44, .slice (some ⟨gx, 0, none⟩) n n), (45, .pointer (some ⟨g2, 0, none⟩)), (46, .int .i64 (((n : Nat) : Int))), (47, .pointer (some ⟨g55, 0, none⟩)), (48, .pointer (some ⟨g55, 1, none⟩)), (49, .slice o53_1 ((words F).length) o53_c1), (50, .int .i64 ((((words F).length : Nat) : Int))), (51, .int .i64 ((((words F).length * 4 : Nat) : Int))), (52, .int .i64 (((min n ((words F).length * 4) : Nat) : Int))), (53, .int .i64 (((i : Nat) : Int)))] ∧ Mg w w1 (.row BY 1 (.slice (some ⟨gx, 0, none⟩) n n) n ((Lib.byteCells (lbI n F i))) :: .obj g55 (.cells #[.bool false, .slice o53_1 ((words F).length) o53_c1, .slice o53_2 1 o53_c2, .bool false, .slice o53_3 0 o53_c3, .slice o53_4 1 o53_c4] 26) :: .obj g4 (.cells #[.bool true, .slice o1 ((words x).length) c1, .slice o2 1 c2, .bool false, .slice o3 0 c3, .slice o4 1 c4] 26) :: .obj g2 (.cells #[.int .i64 (((n : Nat) : Int)), .bool bg, .bool true] 65) :: [])) _ ⟨0, rfl, ⟨Nat.zero_le _, hn51.s1.rd⟩, hA.keep _ ⟨rfl, rfl, rfl, rfl, rfl, rfl, rfl, rfl, rfl, rfl, rfl, rfl, rfl, rfl, rfl, rfl, rfl, rfl, rfl, rfl, rfl, rfl, rfl, rfl, rfl, rfl, rfl, rfl, rfl, rfl, rfl, rfl, rfl, rfl, rfl, rfl, rfl, rfl, rfl, rfl, rfl, rfl, rfl, rfl, rfl, rfl, rfl, rfl, rfl, rfl, rfl, rfl, trivial⟩, hM⟩ ?_)))
  clear hM hA
  rintro m_ a w65 ⟨i, rfl, hinv67, hA, hM⟩ K66 hK66
  obtain ⟨hi9, hrdF⟩ := hinv67
  refine wsk fun K68 hK68 => wrl ?_
  rcases tf (decide (((i : Nat) : Int) < ((min n ((words F).length * 4) : Nat) : Int))) with hb69 | hb69
  ·
   have hb69' := of_decide_eq_true hb69
   refine sdo (v := .bool true) hA (qg rfl rfl (fun w => (zr w).trans (by rw [hb69]))) fun a hA => ?_
   refine qb (hK68 _ _ (wsk fun K70 hK70 => wp_cond_true (hA.ev rfl) ?_))
   refine wp_skip (hK70 _ _ (wsk fun K71 hK71 => wp_block (wsk fun K72 hK72 => wrl (sdo hA (qe rfl) fun a hA => ?_))))
   refine sdo hA (qa rfl) fun a hA => ?_
   refine qb (hK72 _ _ (wrl ?_))
   iterate 2 refine sdo hA (qe rfl) fun a hA => ?_
   refine sdo (v := .pointer (some ⟨g55, 0, none⟩)) hA (qh ByP_fld_26_0 rfl rfl) fun a hA => ?_
   refine sdo (v := .pointer (some ⟨g55, 1, none⟩)) hA (qh ByP_fld_24_1 rfl rfl) fun a hA => ?_
   refine sdo hA (zm hM ByP_is1_22 rfl 1 rfl rfl) fun a hA => ?_
   refine sdo hA (qe rfl) fun a hA => ?_
   refine sdo (v := .int .i64 (((i / 4 : Nat) : Int))) hA (qg rfl rfl (ar_quo (by decide) ((congrArg IntKind.i64.wrap (Int.tdiv_eq_ediv_of_nonneg (by omega))).trans ((in_i64 (by omega) (by omega)).trans (by omega))))) fun a hA => ?_
   have hj9 : i / 4 < (words F).length := by omega
   obtain ⟨bx73, ox74, hx75⟩ := hrdF.addr hj9
   refine sdo (v := .pointer (some ⟨bx73, ox74 + i / 4, none⟩)) hA (zw (k := i / 4) Tryz.underlying22 (by kernel_rfl) rfl rfl rfl hx75 hj9) fun a hA => ?_
   refine sdo (v := .int .u32 ((((words F).getD (i / 4) 0 : Nat) : Int))) hA (qyd (hrdF.at_ hx75 hj9) ByP_is1_77 rfl) fun a hA => ?_
   refine sdo hA (qe rfl) fun a hA => ?_
   refine sdo (v := .int .i64 (((i % 4 : Nat) : Int))) hA (qg rfl rfl (ar_rem (by decide) ((Int.tmod_eq_emod_of_nonneg (by omega)).trans (by omega)))) fun a hA => ?_
   refine sdo (v := .int .i64 (((i % 4 * 8 : Nat) : Int))) hA (qg rfl rfl (ar_mul ((in_i64 (by omega) (by omega)).trans (by omega)))) fun a hA => ?_
   refine sdo (v := .int .u32 ((((words F).getD (i / 4) 0 / 2 ^ (i % 4 * 8) : Nat) : Int))) hA (qg rfl rfl (ar_shr (n := i % 4 * 8) rfl (Nat.ble_eq_true_of_le (show i % 4 * 8 ≤ 32 by omega)) (by rw [Int.natCast_ediv, Int.natCast_pow]; rfl))) fun a hA => ?_
   refine sdo (v := .int .u8 (((F / 256 ^ i % 256 : Nat) : Int))) hA (jv rfl (ar_conv Tryz.underlying77 Tryz.underlying5 (by rw [← qyh]; exact zyc _))) fun a hA => ?_
   refine sdo (v := .pointer (some ⟨gx, (i) * 1, none⟩)) hA (jj Tryz.underlying31 (by kernel_rfl) rfl rfl rfl (show i < n by omega)) fun a hA => ?_
   refine qla (c := .int .u8 (((F / 256 ^ i % 256 : Nat) : Int))) (L' := (.row BY 1 (.slice (some ⟨gx, 0, none⟩) n n) n ((over (Lib.byteCells (lbI n F i)) ((i) * 1) [.int .u8 (((F / 256 ^ i % 256 : Nat) : Int))])) :: .obj g55 (.cells #[.bool false, .slice o53_1 ((words F).length) o53_c1, .slice o53_2 1 o53_c2, .bool false, .slice o53_3 0 o53_c3, .slice o53_4 1 o53_c4] 26) :: .obj g4 (.cells #[.bool true, .slice o1 ((words x).length) c1, .slice o2 1 c2, .bool false, .slice o3 0 c3, .slice o4 1 c4] 26) :: .obj g2 (.cells #[.int .i64 (((n : Nat) : Int)), .bool bg, .bool true] 65) :: [])) hA hM rfl rfl (kl rfl rfl rfl (by kernel_rfl) hM 0 rfl (show (i) * 1 + 1 ≤ n * 1 by omega) rfl) 0 rfl (kb (l := lbI n F i) (i := i) (by rw [uz]; omega)) rfl rfl ?_
   intro w76 hM hc77
   replace hrdF := hc77 _ _ hrdF
   replace hM : Mg w w76 (.row BY 1 (.slice (some ⟨gx, 0, none⟩) n n) n ((Lib.byteCells (lbI n F (i + 1)))) :: .obj g55 (.cells #[.bool false, .slice o53_1 ((words F).length) o53_c1, .slice o53_2 1 o53_c2, .bool false, .slice o53_3 0 o53_c3, .slice o53_4 1 o53_c4] 26) :: .obj g4 (.cells #[.bool true, .slice o1 ((words x).length) c1, .slice o2 1 c2, .bool false, .slice o3 0 c3, .slice o4 1 c4] 26) :: .obj g2 (.cells #[.int .i64 (((n : Nat) : Int)), .bool bg, .bool true] 65) :: []) := by
    have h9 := hM
    rw [qrj (by omega)] at h9
    exact h9
   refine qb (hK71 _ _ (wrl (sdo (v := .int .i64 (((i + 1 : Nat) : Int))) hA (qg rfl rfl (ar_add ((in_i64 (by omega) (by omega)).trans (by omega)))) fun a hA => ?_)))
   refine sdo hA (qe rfl) fun a hA => ?_
   refine qb ?_
   refine hK66 _ _ _ (by omega) ⟨i + 1, rfl, ⟨by omega, hrdF⟩, hA.keep _ ⟨rfl, rfl, rfl, rfl, rfl, rfl, rfl, rfl, rfl, rfl, rfl, rfl, rfl, rfl, rfl, rfl, rfl, rfl, rfl, rfl, rfl, rfl, rfl, rfl, rfl, rfl, rfl, rfl, rfl, rfl, rfl, rfl, rfl, rfl, rfl, rfl, rfl, rfl, rfl, rfl, rfl, rfl, rfl, rfl, rfl, rfl, rfl, rfl, rfl, rfl, rfl, rfl, trivial⟩, hM⟩
  ·
   have hb69' := of_decide_eq_false hb69
   refine sdo (v := .bool false) hA (qg rfl rfl (fun w => (zr w).trans (by rw [hb69]))) fun a hA => ?_
   refine qb (hK68 _ _ (wsk fun K78 hK78 => wp_cond_false (hA.ev rfl) ?_))
   refine wp_exit (hK63 _ _ (wsk fun K79 hK79 => wrl (sdo hA (zt hM ByP_isS_65 rfl 3 rfl (cs := [.int .i64 (((n : Nat) : Int)), .bool bg, .bool true]) rfl rfl) fun a hA => ?_)))
   refine sdo hA (qe rfl) fun a hA => ?_
   have hi8 : i = min n ((words F).length * 4) := by omega
   have hd8 := qsa hi8
   replace hM : Mg w w65 (.row BY 1 (.slice (some ⟨gx, 0, none⟩) n n) n ((Lib.byteCells (leB n F))) :: .obj g55 (.cells #[.bool false, .slice o53_1 ((words F).length) o53_c1, .slice o53_2 1 o53_c2, .bool false, .slice o53_3 0 o53_c3, .slice o53_4 1 o53_c4] 26) :: .obj g4 (.cells #[.bool true, .slice o1 ((words x).length) c1, .slice o2 1 c2, .bool false, .slice o3 0 c3, .slice o4 1 c4] 26) :: .obj g2 (.cells #[.int .i64 (((n : Nat) : Int)), .bool bg, .bool true] 65) :: []) := by
    have h9 := hM
    rw [hd8] at h9
    exact h9
   refine qj hA rfl rfl rfl (qf rfl rfl (fun w => by kernel_rfl)) ((by have h9 := qad bg (w := w65) (sg := true) (cp := n) (ui (bs := leB n F) hM 0 rfl).1 (by rw [yx]; omega); rw [yx] at h9; exact h9)) ?_
   rintro _ w82 ⟨g80, rfl, hM81⟩
   replace hM : Mg w w82 (.row BY 1 (.slice (some ⟨g80, 0, none⟩) n n) n ((Lib.byteCells (um bg (leB n F)))) :: .row BY 1 (.slice (some ⟨gx, 0, none⟩) n n) n ((Lib.byteCells (leB n F))) :: .obj g55 (.cells #[.bool false, .slice o53_1 ((words F).length) o53_c1, .slice o53_2 1 o53_c2, .bool false, .slice o53_3 0 o53_c3, .slice o53_4 1 o53_c4] 26) :: .obj g4 (.cells #[.bool true, .slice o1 ((words x).length) c1, .slice o2 1 c2, .bool false, .slice o3 0 c3, .slice o4 1 c4] 26) :: .obj g2 (.cells #[.int .i64 (((n : Nat) : Int)), .bool bg, .bool true] 65) :: []) := (hM.both hM81 (qr (by simp) (qr (by simp) (qr (by simp) (qr (by simp) (zg zh))))) (qr (by simp) (zg zh)))
   refine ⟨_, rfl, ?_⟩
   intro a hA
   iterate 2 refine sdo hA (qa rfl) fun a hA => ?_
   refine qb (hK79 _ _ (wp_ret (hret _ _ (en2 hA rfl (qk rfl) (qk rfl) ?_))))
   exact ⟨g80, rfl, hM.sub (.cons_cons _ (.cons _ (.cons _ (.cons _ (.cons _ (.refl _))))))⟩
theorem qsg {w : World} {b : Bool} {x n : Nat} {o1 o2 o3 o4 : Option Addr} {c1 c2 c3 c4 : Nat} (ha : Nm w (Q6.whole b x) o1 c1 o2 c2 o3 c3 o4 c4) (hx : (words x).length ≤ 512) (hbx : b.toNat ≤ x) (h1 : 1 ≤ n) (h64 : n ≤ 64) (bg : Bool) {F ln : Nat} (hF : fld b (x - b.toNat) 0 (n * 8) = F) (hln : bl (x - b.toNat) = ln) (hroom : ln ≤ n * 8) (hneg : b = false) : Calls Tryz.prog 27 #[.agg #[.int .i64 ((n : Nat) : Int), .bool bg, .bool false], xb (Q6.whole b x) o1 c1 o2 c2 o3 c3 o4 c4] w fun e w' => ∃ g, e = .returned (.tuple #[.slice (some ⟨g, 0, none⟩) n n, .int .i64 0]) ∧ Mg w w' [.row BY 1 (.slice (some ⟨g, 0, none⟩) n n) n (Lib.byteCells (um bg (leB n F)))] := by
 have hw := zne hx hbx
 subst hneg
 have hwl : (words F).length ≤ 512 := by rw [← hF]; exact zkb (by omega)
 have hM : Mg w w ([]) := Mg.start w
 refine qz (l := [(0, .agg #[.int .i64 (((n : Nat) : Int)), .bool bg, .bool false]), (1, .agg #[.bool false, .slice o1 ((words x).length) c1, .slice o2 1 c2, .bool false, .slice o3 0 c3, .slice o4 1 c4])]) Tryz.func27 rfl Tryz.ntmps27 rfl rfl ?_
 intro Q hret hnorm hP a hA
 refine wsk fun K1 hK1 => wrl (xg (vs := [.int .i64 (((n : Nat) : Int)), .bool bg, .bool false]) (t := 65) hA hM rfl rfl rfl (fun g => .pointer (some ⟨g, 0, none⟩)) (za rfl rfl) (by decide) ?_)
 intro g2 w3 hM a hA
 refine xg (vs := [.bool false, .slice o1 ((words x).length) c1, .slice o2 1 c2, .bool false, .slice o3 0 c3, .slice o4 1 c4]) (t := 26) hA hM rfl rfl rfl (fun g => .pointer (some ⟨g, 0, none⟩)) (za rfl rfl) (by decide) ?_
 intro g4 w5 hM a hA
 iterate 2 refine sdo hA (qa rfl) fun a hA => ?_
 refine qb (hK1 _ _ (wsk fun K6 hK6 => wrl (sdo hA (zt hM ByP_isS_26 rfl 0 rfl (cs := [.bool false, .slice o1 ((words x).length) c1, .slice o2 1 c2, .bool false, .slice o3 0 c3, .slice o4 1 c4]) rfl rfl) fun a hA => ?_)))
 refine qj hA rfl rfl rfl (qf rfl rfl (fun w => by kernel_rfl)) ((by have h9 := qbg (w := w5) (yh ha hM.bel) (xj hx) hw hx hbx; rw [yn hw, hln] at h9; exact h9)) ?_
 rintro _ w8 ⟨rfl, hb7⟩
 replace hM := hM.call hb7
 refine ⟨_, rfl, ?_⟩
 intro a hA
 refine sdo hA (qe rfl) fun a hA => ?_
 iterate 2 refine sdo hA (qs (vs := [.int .i64 (((ln : Nat) : Int)), .int .i64 0]) rfl rfl) fun a hA => ?_
 iterate 2 refine sdo hA (qa rfl) fun a hA => ?_
 refine qb (hK6 _ _ (wsk fun K9 hK9 => wsk fun K10 hK10 => wrl (sdo hA (qe rfl) fun a hA => ?_)))
 refine sdo (v := .bool false) hA (qg rfl rfl (fun w => by kernel_rfl)) fun a hA => ?_
 refine qb (hK10 _ _ (wp_cond_false (hA.ev rfl) ?_))
 refine wp_skip (hK9 _ _ (wsk fun K11 hK11 => wsk fun K12 hK12 => wrl (sdo (v := .pointer (some ⟨g4, 0, none⟩)) hA (qh ByP_fld_26_0 rfl rfl) fun a hA => ?_)))
 refine sdo (v := .pointer (some ⟨g4, 0, none⟩)) hA (qh ByP_fld_24_0 rfl rfl) fun a hA => ?_
 refine sdo hA (zm hM ByP_is1_4 rfl 0 rfl rfl) fun a hA => ?_
 refine sdo hA (qe rfl) fun a hA => ?_
 iterate 3 refine qy hA rfl rfl rfl fun a hA => ?_
 refine sdo (v := .bool false) hA (qi rfl rfl rfl rfl) fun a hA => ?_
 iterate 2 refine sdo hA (qe rfl) fun a hA => ?_
 refine sdo hA (zt hM ByP_isS_65 rfl 1 rfl (cs := [.int .i64 (((n : Nat) : Int)), .bool bg, .bool false]) rfl rfl) fun a hA => ?_
 refine qj hA rfl rfl rfl (qf rfl rfl (fun w => by kernel_rfl)) (zii h1 h64) ?_
 rintro _ w14 ⟨rfl, hb13⟩
 replace hM := hM.call hb13
 refine ⟨_, rfl, ?_⟩
 intro a hA
 refine sdo (v := .bool false) hA (qg rfl rfl (fun w => (jt w).trans (by rw [show (decide (((n * 8 : Nat) : Int) < ((ln : Nat) : Int))) = false from (decide_eq_false (by omega))]))) fun a hA => ?_
 refine sdo (v := .bool false) hA (qi rfl rfl rfl rfl) fun a hA => ?_
 refine qb (hK12 _ _ (wp_cond_false (hA.ev rfl) ?_))
 refine wp_skip (hK11 _ _ (wsk fun K15 hK15 => wrl (sdo hA (zt hM ByP_isS_26 rfl 0 rfl (cs := [.bool false, .slice o1 ((words x).length) c1, .slice o2 1 c2, .bool false, .slice o3 0 c3, .slice o4 1 c4]) rfl rfl) fun a hA => ?_)))
 refine sdo (v := .pointer (some ⟨g2, 0, none⟩)) hA (qh ByP_fld_65_0 rfl rfl) fun a hA => ?_
 refine sdo hA (zm hM ByP_is1_3 rfl 1 rfl rfl) fun a hA => ?_
 refine sdo (v := .int .i64 (((n * 8 : Nat) : Int))) hA (qg rfl rfl (ar_mul ((in_i64 (by omega) (by omega)).trans (by omega)))) fun a hA => ?_
 refine qj hA rfl rfl rfl (qf rfl rfl (fun w => by kernel_rfl)) ((show Calls Tryz.prog 9 _ _ (AnsN _ (Q6.whole false F, 0)) from (by have h9 := uy (w := w14) (S := 0) (E := n * 8) (yh ha hM.bel) (xj hx) (by omega) (by omega) hw hx hbx; rw [qae hw (by omega) (by omega), Nat.sub_zero, hF] at h9; exact h9))) ?_
 rintro _ w19 ⟨o18_1, o18_c1, o18_2, o18_c2, o18_3, o18_c3, o18_4, o18_c4, rfl, hn16, hb17⟩
 replace hM := hM.call hb17
 refine ⟨_, rfl, ?_⟩
 intro a hA
 refine sdo hA (qe rfl) fun a hA => ?_
 iterate 2 refine sdo hA (qs (vs := [.agg #[.bool false, .slice o18_1 ((words F).length) o18_c1, .slice o18_2 1 o18_c2, .bool false, .slice o18_3 0 o18_c3, .slice o18_4 1 o18_c4], .int .i64 0]) rfl rfl) fun a hA => ?_
 refine qrg (vs := [.bool false, .slice none 0 0, .slice none 0 0, .bool false, .slice none 0 0, .slice none 0 0]) (t := 26) hA hM rfl rfl rfl (fun g => .pointer (some ⟨g, 0, none⟩)) (qp (z := .agg #[.bool false, .slice none 0 0, .slice none 0 0, .bool false, .slice none 0 0, .slice none 0 0]) (by kernel_rfl) rfl) (by decide) ?_
 intro g20 w21 hM hc22 a hA
 replace hn16 := xm hn16 hc22
 refine ul (us := [.bool false, .slice o18_1 ((words F).length) o18_c1, .slice o18_2 1 o18_c2, .bool false, .slice o18_3 0 o18_c3, .slice o18_4 1 o18_c4]) (L' := (.obj g20 (.cells #[.bool false, .slice o18_1 ((words F).length) o18_c1, .slice o18_2 1 o18_c2, .bool false, .slice o18_3 0 o18_c3, .slice o18_4 1 o18_c4] 26) :: .obj g4 (.cells #[.bool false, .slice o1 ((words x).length) c1, .slice o2 1 c2, .bool false, .slice o3 0 c3, .slice o4 1 c4] 26) :: .obj g2 (.cells #[.int .i64 (((n : Nat) : Int)), .bool bg, .bool false] 65) :: [])) hA hM rfl rfl (zy rfl rfl rfl (by kernel_rfl) hM 0 rfl rfl rfl) 0 rfl rfl rfl rfl rfl rfl ?_
 intro w23 hM hc24
 replace hn16 := xm hn16 hc24
 refine sdo hA (qa rfl) fun a hA => ?_
 refine qb (hK15 _ _ (wsk fun K25 hK25 => wrl (sdo (v := .pointer (some ⟨g2, 0, none⟩)) hA (qh ByP_fld_65_0 rfl rfl) fun a hA => ?_)))
 refine sdo hA (zm hM ByP_is1_3 rfl 2 rfl rfl) fun a hA => ?_
 refine qye (z := .int .u8 0) (sz := 1) (by_ := 1) (m := n) hA hM Tryz.underlying31 (by kernel_rfl) rfl rfl rfl rfl rfl rfl (by omega) (by omega) (.inr (qr (by simp) (qr (by simp) (qr (by simp) (zg zh))))) ?_
 intro gx w26 hM hc27 a hA
 replace hn16 := xm hn16 hc27
 rw [qri n F] at hM
 refine sdo hA (qa rfl) fun a hA => ?_
 refine qb (hK25 _ _ (wsk fun K28 hK28 => wsk fun K29 hK29 => wrl (sdo (v := .pointer (some ⟨g2, 0, none⟩)) hA (qh ByP_fld_65_0 rfl rfl) fun a hA => ?_)))
 refine sdo hA (zm hM ByP_is1_3 rfl 3 rfl rfl) fun a hA => ?_
 refine sdo (v := .pointer (some ⟨g20, 0, none⟩)) hA (qh ByP_fld_26_0 rfl rfl) fun a hA => ?_
 refine sdo (v := .pointer (some ⟨g20, 1, none⟩)) hA (qh ByP_fld_24_1 rfl rfl) fun a hA => ?_
 refine sdo hA (zm hM ByP_is1_22 rfl 1 rfl rfl) fun a hA => ?_
 refine sdo hA (zj Tryz.underlying22 rfl) fun a hA => ?_
 refine sdo (v := .int .i64 ((((words F).length * 4 : Nat) : Int))) hA (qg rfl rfl (ar_mul ((in_i64 (by omega) (by omega)).trans (by omega)))) fun a hA => ?_
 refine sdo (v := .int .i64 (((min n ((words F).length * 4) : Nat) : Int))) hA (vh rfl qyf) fun a hA => ?_
 refine sdo hA (qe rfl) fun a hA => ?_
 refine qb (hK29 _ _ (wp_block (jw (fun m_ a w1 => ∃ (i : Nat), m_ = n - i ∧ (i ≤ min n ((words F).length * 4) ∧ Rd w1 o18_1 (words F)) ∧ Sl a 75 [(0, .agg #[.int .i64 (((n : Nat) : Int)), .bool bg, .bool false]), (1, .agg #[.bool false, .slice o1 ((words x).length) c1, .slice o2 1 c2, .bool false, .slice o3 0 c3, .slice o4 1 c4]), (2, .pointer (some ⟨g2, 0, none⟩)), (3, .pointer (some ⟨g4, 0, none⟩)), (4, .slice none 0 0), (5, .int .i64 0), (6, .int .i64 (((ln : Nat) : Int))), (7, .int .i64 0), (8, .pointer (some ⟨g20, 0, none⟩)), (9, .int .i64 0), (10, .slice (some ⟨gx, 0, none⟩) n n), (12, .tuple #[.int .i64 (((ln : Nat) : Int)), .int .i64 0]), (13, .agg #[.bool false, .slice o1 ((words x).length) c1, .slice o2 1 c2, .bool false, .slice o3 0 c3, .slice o4 1 c4]), (14, .tuple #[.int .i64 (((ln : Nat) : Int)), .int .i64 0]), (15, .int .i64 (((ln : Nat) : Int))), (16, .int .i64 0), (17, .int .i64 0), (18, .bool false), (20, .pointer (some ⟨g4, 0, none⟩)), (21, .pointer (some ⟨g4, 0, none⟩)), (22, .bool false), (23, .bool false), (27, .bool false), (28, .bool false), (29, .int .i64 (((ln : Nat) : Int))), (30, .agg #[.int .i64 (((n : Nat) : Int)), .bool bg, .bool false]), (31, .int .i64 (((n * 8 : Nat) : Int))), (32, .bool false), (33, .bool false), (34, .tuple #[.agg #[.bool false, .slice o18_1 ((words F).length) o18_c1, .slice o18_2 1 o18_c2, .bool false, .slice o18_3 0 o18_c3, .slice o18_4 1 o18_c4], .int .i64 0]), (35, .agg #[.bool false, .slice o1 ((words x).length) c1, .slice o2 1 c2, .bool false, .slice o3 0 c3, .slice o4 1 c4]), (36, .pointer (some ⟨g2, 0, none⟩)), (37, .int .i64 (((n : Nat) : Int))), (38, .int .i64 (((n * 8 : Nat) : Int))), (39, .tuple #[.agg #[.bool false, .slice o18_1 ((words F).length) o18_c1, .slice o18_2 1 o18_c2, .bool false, .slice o18_3 0 o18_c3, .slice o18_4 1 o18_c4], .int .i64 0]), (40, .agg #[.bool false, .slice o18_1 ((words F).length) o18_c1, .slice o18_2 1 o18_c2, .bool false, .slice o18_3 0 o18_c3, .slice o18_4 1 o18_c4]), (41, .int .i64 0), (42, .pointer (some ⟨g2, 0, none⟩)), (43, .int .i64 (((n : Nat) : Int))), (44, .slice (some ⟨gx, 0, none⟩) n n), (45, .pointer (some ⟨g2, 0, none⟩)), (46, .int .i64 (((n : Nat) : Int))), (47, .pointer (some ⟨g20, 0, none⟩)), (48, .pointer (some ⟨g20, 1, none⟩)), (49, .slice o18_1 ((words F).length) o18_c1), (50, .int .i64 ((((words F).length : Nat) : Int))), (51, .int .i64 ((((words F).length * 4 : Nat) : Int))), (52, .int .i64 (((min n ((words F).length * 4) : Nat) : Int))), (53, .int .i64 (((i : Nat) : Int)))] ∧ Mg w w1 (.row BY 1 (.slice (some ⟨gx, 0, none⟩) n n) n ((Lib.byteCells (lbI n F i))) :: .obj g20 (.cells #[.bool false, .slice o18_1 ((words F).length) o18_c1, .slice o18_2 1 o18_c2, .bool false, .slice o18_3 0 o18_c3, .slice o18_4 1 o18_c4] 26) :: .obj g4 (.cells #[.bool false, .slice o1 ((words x).length) c1, .slice o2 1 c2, .bool false, .slice o3 0 c3, .slice o4 1 c4] 26) :: .obj g2 (.cells #[.int .i64 (((n : Nat) : Int)), .bool bg, .bool false] 65) :: [])) _ ⟨0, rfl, ⟨Nat.zero_le _, hn16.s1.rd⟩, hA.keep _ ⟨rfl, rfl, rfl, rfl, rfl, rfl, rfl, rfl, rfl, rfl, rfl, rfl, rfl, rfl, rfl, rfl, rfl, rfl, rfl, rfl, rfl, rfl, rfl, rfl, rfl, rfl, rfl, rfl, rfl, rfl, rfl, rfl, rfl, rfl, rfl, rfl, rfl, rfl, rfl, rfl, rfl, rfl, rfl, rfl, rfl, rfl, rfl, rfl, rfl, trivial⟩, hM⟩ ?_)))
 clear hM hA
 rintro m_ a w30 ⟨i, rfl, hinv32, hA, hM⟩ K31 hK31
 obtain ⟨hi9, hrdF⟩ := hinv32
 refine wsk fun K33 hK33 => wrl ?_
 rcases tf (decide (((i : Nat) : Int) < ((min n ((words F).length * 4) : Nat) : Int))) with hb34 | hb34
 ·
  have hb34' := of_decide_eq_true hb34
  refine sdo (v := .bool true) hA (qg rfl rfl (fun w => (zr w).trans (by rw [hb34]))) fun a hA => ?_
  refine qb (hK33 _ _ (wsk fun K35 hK35 => wp_cond_true (hA.ev rfl) ?_))
  refine wp_skip (hK35 _ _ (wsk fun K36 hK36 => wp_block (wsk fun K37 hK37 => wrl (sdo hA (qe rfl) fun a hA => ?_))))
  refine sdo hA (qa rfl) fun a hA => ?_
  refine qb (hK37 _ _ (wrl ?_))
  iterate 2 refine sdo hA (qe rfl) fun a hA => ?_
  refine sdo (v := .pointer (some ⟨g20, 0, none⟩)) hA (qh ByP_fld_26_0 rfl rfl) fun a hA => ?_
  refine sdo (v := .pointer (some ⟨g20, 1, none⟩)) hA (qh ByP_fld_24_1 rfl rfl) fun a hA => ?_
  refine sdo hA (zm hM ByP_is1_22 rfl 1 rfl rfl) fun a hA => ?_
  refine sdo hA (qe rfl) fun a hA => ?_
  refine sdo (v := .int .i64 (((i / 4 : Nat) : Int))) hA (qg rfl rfl (ar_quo (by decide) ((congrArg IntKind.i64.wrap (Int.tdiv_eq_ediv_of_nonneg (by omega))).trans ((in_i64 (by omega) (by omega)).trans (by omega))))) fun a hA => ?_
  have hj9 : i / 4 < (words F).length := by omega
  obtain ⟨bx38, ox39, hx40⟩ := hrdF.addr hj9
  refine sdo (v := .pointer (some ⟨bx38, ox39 + i / 4, none⟩)) hA (zw (k := i / 4) Tryz.underlying22 (by kernel_rfl) rfl rfl rfl hx40 hj9) fun a hA => ?_
  refine sdo (v := .int .u32 ((((words F).getD (i / 4) 0 : Nat) : Int))) hA (qyd (hrdF.at_ hx40 hj9) ByP_is1_77 rfl) fun a hA => ?_
  refine sdo hA (qe rfl) fun a hA => ?_
  refine sdo (v := .int .i64 (((i % 4 : Nat) : Int))) hA (qg rfl rfl (ar_rem (by decide) ((Int.tmod_eq_emod_of_nonneg (by omega)).trans (by omega)))) fun a hA => ?_
  refine sdo (v := .int .i64 (((i % 4 * 8 : Nat) : Int))) hA (qg rfl rfl (ar_mul ((in_i64 (by omega) (by omega)).trans (by omega)))) fun a hA => ?_
  refine sdo (v := .int .u32 ((((words F).getD (i / 4) 0 / 2 ^ (i % 4 * 8) : Nat) : Int))) hA (qg rfl rfl (ar_shr (n := i % 4 * 8) rfl (Nat.ble_eq_true_of_le (show i % 4 * 8 ≤ 32 by omega)) (by rw [Int.natCast_ediv, Int.natCast_pow]; rfl))) fun a hA => ?_
  refine sdo (v := .int .u8 (((F / 256 ^ i % 256 : Nat) : Int))) hA (jv rfl (ar_conv Tryz.underlying77 Tryz.underlying5 (by rw [← qyh]; exact zyc _))) fun a hA => ?_
  refine sdo (v := .pointer (some ⟨gx, (i) * 1, none⟩)) hA (jj Tryz.underlying31 (by kernel_rfl) rfl rfl rfl (show i < n by omega)) fun a hA => ?_
  refine qla (c := .int .u8 (((F / 256 ^ i % 256 : Nat) : Int))) (L' := (.row BY 1 (.slice (some ⟨gx, 0, none⟩) n n) n ((over (Lib.byteCells (lbI n F i)) ((i) * 1) [.int .u8 (((F / 256 ^ i % 256 : Nat) : Int))])) :: .obj g20 (.cells #[.bool false, .slice o18_1 ((words F).length) o18_c1, .slice o18_2 1 o18_c2, .bool false, .slice o18_3 0 o18_c3, .slice o18_4 1 o18_c4] 26) :: .obj g4 (.cells #[.bool false, .slice o1 ((words x).length) c1, .slice o2 1 c2, .bool false, .slice o3 0 c3, .slice o4 1 c4] 26) :: .obj g2 (.cells #[.int .i64 (((n : Nat) : Int)), .bool bg, .bool false] 65) :: [])) hA hM rfl rfl (kl rfl rfl rfl (by kernel_rfl) hM 0 rfl (show (i) * 1 + 1 ≤ n * 1 by omega) rfl) 0 rfl (kb (l := lbI n F i) (i := i) (by rw [uz]; omega)) rfl rfl ?_
  intro w41 hM hc42
  replace hrdF := hc42 _ _ hrdF
  replace hM : Mg w w41 (.row BY 1 (.slice (some ⟨gx, 0, none⟩) n n) n ((Lib.byteCells (lbI n F (i + 1)))) :: .obj g20 (.cells #[.bool false, .slice o18_1 ((words F).length) o18_c1, .slice o18_2 1 o18_c2, .bool false, .slice o18_3 0 o18_c3, .slice o18_4 1 o18_c4] 26) :: .obj g4 (.cells #[.bool false, .slice o1 ((words x).length) c1, .slice o2 1 c2, .bool false, .slice o3 0 c3, .slice o4 1 c4] 26) :: .obj g2 (.cells #[.int .i64 (((n : Nat) : Int)), .bool bg, .bool false] 65) :: []) := by
   have h9 := hM
   rw [qrj (by omega)] at h9
   exact h9
  refine qb (hK36 _ _ (wrl (sdo (v := .int .i64 (((i + 1 : Nat) : Int))) hA (qg rfl rfl (ar_add ((in_i64 (by omega) (by omega)).trans (by omega)))) fun a hA => ?_)))
  refine sdo hA (qe rfl) fun a hA => ?_
  refine qb ?_
  refine hK31 _ _ _ (by omega) ⟨i + 1, rfl, ⟨by omega, hrdF⟩, hA.keep _ ⟨rfl, rfl, rfl, rfl, rfl, rfl, rfl, rfl, rfl, rfl, rfl, rfl, rfl, rfl, rfl, rfl, rfl, rfl, rfl, rfl, rfl, rfl, rfl, rfl, rfl, rfl, rfl, rfl, rfl, rfl, rfl, rfl, rfl, rfl, rfl, rfl, rfl, rfl, rfl, rfl, rfl, rfl, rfl, rfl, rfl, rfl, rfl, rfl, rfl, trivial⟩, hM⟩
 ·
  have hb34' := of_decide_eq_false hb34
  refine sdo (v := .bool false) hA (qg rfl rfl (fun w => (zr w).trans (by rw [hb34]))) fun a hA => ?_
  refine qb (hK33 _ _ (wsk fun K43 hK43 => wp_cond_false (hA.ev rfl) ?_))
  refine wp_exit (hK28 _ _ (wsk fun K44 hK44 => wrl (sdo hA (zt hM ByP_isS_65 rfl 3 rfl (cs := [.int .i64 (((n : Nat) : Int)), .bool bg, .bool false]) rfl rfl) fun a hA => ?_)))
  refine sdo hA (qe rfl) fun a hA => ?_
  have hi8 : i = min n ((words F).length * 4) := by omega
  have hd8 := qsa hi8
  replace hM : Mg w w30 (.row BY 1 (.slice (some ⟨gx, 0, none⟩) n n) n ((Lib.byteCells (leB n F))) :: .obj g20 (.cells #[.bool false, .slice o18_1 ((words F).length) o18_c1, .slice o18_2 1 o18_c2, .bool false, .slice o18_3 0 o18_c3, .slice o18_4 1 o18_c4] 26) :: .obj g4 (.cells #[.bool false, .slice o1 ((words x).length) c1, .slice o2 1 c2, .bool false, .slice o3 0 c3, .slice o4 1 c4] 26) :: .obj g2 (.cells #[.int .i64 (((n : Nat) : Int)), .bool bg, .bool false] 65) :: []) := by
   have h9 := hM
   rw [hd8] at h9
   exact h9
  refine qj hA rfl rfl rfl (qf rfl rfl (fun w => by kernel_rfl)) ((by have h9 := qad bg (w := w30) (sg := false) (cp := n) (ui (bs := leB n F) hM 0 rfl).1 (by rw [yx]; omega); rw [yx] at h9; exact h9)) ?_
  rintro _ w47 ⟨g45, rfl, hM46⟩
  replace hM : Mg w w47 (.row BY 1 (.slice (some ⟨g45, 0, none⟩) n n) n ((Lib.byteCells (um bg (leB n F)))) :: .row BY 1 (.slice (some ⟨gx, 0, none⟩) n n) n ((Lib.byteCells (leB n F))) :: .obj g20 (.cells #[.bool false, .slice o18_1 ((words F).length) o18_c1, .slice o18_2 1 o18_c2, .bool false, .slice o18_3 0 o18_c3, .slice o18_4 1 o18_c4] 26) :: .obj g4 (.cells #[.bool false, .slice o1 ((words x).length) c1, .slice o2 1 c2, .bool false, .slice o3 0 c3, .slice o4 1 c4] 26) :: .obj g2 (.cells #[.int .i64 (((n : Nat) : Int)), .bool bg, .bool false] 65) :: []) := (hM.both hM46 (qr (by simp) (qr (by simp) (qr (by simp) (qr (by simp) (zg zh))))) (qr (by simp) (zg zh)))
  refine ⟨_, rfl, ?_⟩
  intro a hA
  iterate 2 refine sdo hA (qa rfl) fun a hA => ?_
  refine qb (hK44 _ _ (wp_ret (hret _ _ (en2 hA rfl (qk rfl) (qk rfl) ?_))))
  exact ⟨g45, rfl, hM.sub (.cons_cons _ (.cons _ (.cons _ (.cons _ (.cons _ (.refl _))))))⟩
end Go.Proofs.YtjkpfnghiooblaaGreatDoor.G
namespace Go.Proofs.YtjkpfnghiooblaaGreatDoor.G
open Go.RowKit
set_option linter.unusedVariables false
set_option linter.unusedSimpArgs false
set_option maxRecDepth 100000
theorem ByQ_isS_26 : IsS Tryz.prog 26 6 := ⟨⟨_, Tryz.underlying26⟩, by kernel_rfl⟩
theorem ByQ_isS_65 : IsS Tryz.prog 65 3 := ⟨⟨_, Tryz.underlying65⟩, by kernel_rfl⟩
def roomN (n : Nat) (sg : Bool) : Nat := if sg = true then n * 8 - 1 else n * 8
theorem zyd {w : World} {b : Bool} {x n : Nat} {o1 o2 o3 o4 : Option Addr} {c1 c2 c3 c4 : Nat} (ha : Nm w (Q6.whole b x) o1 c1 o2 c2 o3 c3 o4 c4) (hx : (words x).length ≤ 512) (hbx : b.toNat ≤ x) (h1 : 1 ≤ n) (h64 : n ≤ 64) (bg sg : Bool) {F ln : Nat} (hF : fld b (x - b.toNat) 0 (n * 8) = F) (hln : bl (x - b.toNat) = ln) (hroom : ln ≤ roomN n sg) (hneg : b = true → sg = true) : Calls Tryz.prog 27 #[.agg #[.int .i64 ((n : Nat) : Int), .bool bg, .bool sg], xb (Q6.whole b x) o1 c1 o2 c2 o3 c3 o4 c4] w fun e w' => ∃ g, e = .returned (.tuple #[.slice (some ⟨g, 0, none⟩) n n, .int .i64 0]) ∧ Mg w w' [.row BY 1 (.slice (some ⟨g, 0, none⟩) n n) n (Lib.byteCells (um bg (leB n F)))] := by
 cases sg
 ·
  have hb0 : b = false := by cases b; rfl; exact absurd (hneg rfl) (by decide)
  exact qsg ha hx hbx h1 h64 bg hF hln hroom hb0
 ·
  exact qyi ha hx hbx h1 h64 bg hF hln hroom
theorem zij {w : World} {size : Int} {bg sg : Bool} {c : Bool} (h : ki size = c) : Calls Tryz.prog 25 #[.agg #[.int .i64 size, .bool bg, .bool sg]] w fun e w' => e = .returned (.bool c) ∧ Below w.heap.size w w' := h ▸ ux
theorem put_ok {w : World} {so : Option Addr} {ca : Nat} {l : List UInt8} (hb : Rb w so l) (hca : l.length ≤ ca) (hl : l.length ≤ 140737488351232) {an n : Nat} (h1 : 1 ≤ n) (h64 : n ≤ 64) (hle : an + n ≤ l.length) (bg sg : Bool) {q : Q6} {o1 o2 o3 o4 : Option Addr} {c1 c2 c3 c4 : Nat} {pl : List UInt8} (hpl : pl.length = n) (hlaid : ∀ W, Below w.heap.size w W → Calls Tryz.prog 27 #[.agg #[.int .i64 ((n : Nat) : Int), .bool bg, .bool sg], xb q o1 c1 o2 c2 o3 c3 o4 c4] W fun e w' => ∃ g, e = .returned (.tuple #[.slice (some ⟨g, 0, none⟩) n n, .int .i64 0]) ∧ Mg W w' [.row BY 1 (.slice (some ⟨g, 0, none⟩) n n) n (Lib.byteCells pl)]) : Calls Tryz.prog 7 #[.slice so l.length ca, .int .i64 ((an : Nat) : Int), .int .i64 ((n : Nat) : Int), .bool bg, .bool sg, xb q o1 c1 o2 c2 o3 c3 o4 c4] w fun e w' => ∃ v, e = .returned (.tuple #[v, .int .i64 0]) ∧ Mg w w' [.row BY 1 v (ovl an pl l).length (Lib.byteCells (ovl an pl l))] := by
 have k1 : ki ((n : Nat) : Int) = true := by unfold ki; apply decide_eq_true; omega
 have k2 : inB l.length ((an : Nat) : Int) ((n : Nat) : Int) = true := by unfold inB; apply decide_eq_true; omega
 have hM : Mg w w ([]) := Mg.start w
 refine qz (l := [(0, .slice so l.length ca), (1, .int .i64 (((an : Nat) : Int))), (2, .int .i64 (((n : Nat) : Int))), (3, .bool bg), (4, .bool sg), (5, .agg #[.bool q.b1, .slice o1 q.t1.length c1, .slice o2 q.q1.length c2, .bool q.b2, .slice o3 q.t2.length c3, .slice o4 q.q2.length c4])]) Tryz.func7 rfl Tryz.ntmps7 rfl rfl ?_
 intro Q hret hnorm hP a hA
 refine wsk fun K1 hK1 => wrl (xg (vs := [.bool q.b1, .slice o1 q.t1.length c1, .slice o2 q.q1.length c2, .bool q.b2, .slice o3 q.t2.length c3, .slice o4 q.q2.length c4]) (t := 26) hA hM rfl rfl rfl (fun g => .pointer (some ⟨g, 0, none⟩)) (za rfl rfl) (by decide) ?_)
 intro g2 w3 hM a hA
 iterate 2 refine sdo hA (qa rfl) fun a hA => ?_
 refine qb (hK1 _ _ (wsk fun K4 hK4 => wrl ?_))
 iterate 3 refine sdo hA (qe rfl) fun a hA => ?_
 refine sdo (v := .agg #[.int .i64 (((n : Nat) : Int)), .bool bg, .bool sg]) hA (zf rfl (fun w => by kernel_rfl)) fun a hA => ?_
 refine xg (vs := [.int .i64 0, .bool false, .bool false]) (t := 65) hA hM rfl rfl rfl (fun g => .pointer (some ⟨g, 0, none⟩)) (qp (z := .agg #[.int .i64 0, .bool false, .bool false]) (by kernel_rfl) rfl) (by decide) ?_
 intro g5 w6 hM a hA
 refine jl (us := [.int .i64 (((n : Nat) : Int)), .bool bg, .bool sg]) (L' := (.obj g5 (.cells #[.int .i64 (((n : Nat) : Int)), .bool bg, .bool sg] 65) :: .obj g2 (.cells #[.bool q.b1, .slice o1 q.t1.length c1, .slice o2 q.q1.length c2, .bool q.b2, .slice o3 q.t2.length c3, .slice o4 q.q2.length c4] 26) :: [])) hA hM rfl rfl (zy rfl rfl rfl (by kernel_rfl) hM 0 rfl rfl rfl) 0 rfl rfl rfl ?_
 intro w7 hM
 refine qb (hK4 _ _ (wsk fun K8 hK8 => wsk fun K9 hK9 => wrl (sdo hA (zt hM ByQ_isS_65 rfl 0 rfl (cs := [.int .i64 (((n : Nat) : Int)), .bool bg, .bool sg]) rfl rfl) fun a hA => ?_)))
 refine qj hA rfl rfl rfl (qf rfl rfl (fun w => by kernel_rfl)) (zij k1) ?_
 rintro _ w11 ⟨rfl, hb10⟩
 replace hM := hM.call hb10
 refine ⟨_, rfl, ?_⟩
 intro a hA
 refine sdo (v := .bool false) hA (zk rfl zq) fun a hA => ?_
 iterate 4 refine sdo hA (qe rfl) fun a hA => ?_
 refine qj hA rfl rfl rfl (qf rfl rfl (fun w => by kernel_rfl)) (qkf hl (by omega) (by omega) (by omega) (by omega) k2) ?_
 rintro _ w13 ⟨rfl, hb12⟩
 replace hM := hM.call hb12
 refine ⟨_, rfl, ?_⟩
 intro a hA
 refine sdo (v := .bool false) hA (zk rfl zq) fun a hA => ?_
 refine sdo (v := .bool false) hA (qi rfl rfl rfl rfl) fun a hA => ?_
 refine qb (hK9 _ _ (wp_cond_false (hA.ev rfl) ?_))
 refine wp_skip (hK8 _ _ (wsk fun K14 hK14 => wrl (sdo hA (zt hM ByQ_isS_65 rfl 0 rfl (cs := [.int .i64 (((n : Nat) : Int)), .bool bg, .bool sg]) rfl rfl) fun a hA => ?_)))
 refine sdo hA (zt hM ByQ_isS_26 rfl 1 rfl (cs := [.bool q.b1, .slice o1 q.t1.length c1, .slice o2 q.q1.length c2, .bool q.b2, .slice o3 q.t2.length c3, .slice o4 q.q2.length c4]) rfl rfl) fun a hA => ?_
 refine qj hA rfl rfl rfl (qf rfl rfl (fun w => by kernel_rfl)) (hlaid _ hM.bel) ?_
 rintro _ w17 ⟨g15, rfl, hM16⟩
 replace hM : Mg w w17 (.row BY 1 (.slice (some ⟨g15, 0, none⟩) n n) n ((Lib.byteCells pl)) :: .obj g5 (.cells #[.int .i64 (((n : Nat) : Int)), .bool bg, .bool sg] 65) :: .obj g2 (.cells #[.bool q.b1, .slice o1 q.t1.length c1, .slice o2 q.q1.length c2, .bool q.b2, .slice o3 q.t2.length c3, .slice o4 q.q2.length c4] 26) :: []) := (hM.both hM16 (qr (by simp) (qr (by simp) (zg zh))) (qr (by simp) (zg zh)))
 refine ⟨_, rfl, ?_⟩
 intro a hA
 refine sdo hA (qe rfl) fun a hA => ?_
 iterate 2 refine sdo hA (qs (vs := [.slice (some ⟨g15, 0, none⟩) n n, .int .i64 0]) rfl rfl) fun a hA => ?_
 iterate 2 refine sdo hA (qa rfl) fun a hA => ?_
 refine qb (hK14 _ _ (wsk fun K18 hK18 => wsk fun K19 hK19 => wrl (sdo hA (qe rfl) fun a hA => ?_)))
 refine sdo (v := .bool false) hA (qg rfl rfl (fun w => by kernel_rfl)) fun a hA => ?_
 refine qb (hK19 _ _ (wp_cond_false (hA.ev rfl) ?_))
 refine wp_skip (hK18 _ _ (wsk fun K20 hK20 => wrl ?_))
 iterate 3 refine sdo hA (qe rfl) fun a hA => ?_
 refine qj hA rfl rfl rfl (qf rfl rfl (fun w => by kernel_rfl)) ((by have h9 := qxh (w := w17) (an := an) (ca := ca) (cp := n) (l := l) (p := pl) (hb.below hM.bel) (ui (bs := pl) hM 0 rfl).1 hl (by omega); rw [hpl] at h9; exact h9)) ?_
 rintro _ w23 ⟨v21, rfl, hM22⟩
 replace hM : Mg w w23 (.row BY 1 (v21) ((ovl an pl l).length) ((Lib.byteCells (ovl an pl l))) :: .row BY 1 (.slice (some ⟨g15, 0, none⟩) n n) n ((Lib.byteCells pl)) :: .obj g5 (.cells #[.int .i64 (((n : Nat) : Int)), .bool bg, .bool sg] 65) :: .obj g2 (.cells #[.bool q.b1, .slice o1 q.t1.length c1, .slice o2 q.q1.length c2, .bool q.b2, .slice o3 q.t2.length c3, .slice o4 q.q2.length c4] 26) :: []) := (hM.both hM22 (qr (by simp) (qr (by simp) (qr (by simp) (zg zh)))) (qr (by simp) (zg zh)))
 refine ⟨_, rfl, ?_⟩
 intro a hA
 iterate 2 refine sdo hA (qa rfl) fun a hA => ?_
 refine qb (hK20 _ _ (wp_ret (hret _ _ (en2 hA rfl (qk rfl) (qk rfl) ?_))))
 exact ⟨_, rfl, hM.sub (.cons_cons _ (.cons _ (.cons _ (.cons _ (.refl _)))))⟩
end Go.Proofs.YtjkpfnghiooblaaGreatDoor.G
namespace Go.Proofs.YtjkpfnghiooblaaGreatDoor
open Go.RowKit
set_option linter.unusedVariables false
set_option linter.unusedSimpArgs false

theorem ovl_get {an : Nat} {p l : List UInt8} {n : Nat} (hp : p.length = n) (hle : an + n ≤ l.length) : ((G.ovl an p l).drop an).take n = p := by
  unfold G.ovl
  rw [List.append_assoc, List.drop_append_of_le_length (by rw [List.length_take]; omega), List.drop_take, Nat.sub_self, List.take_zero, List.nil_append, ← hp, List.take_left]
theorem zqd {b : Bool} {x n : Nat} (h1 : 1 ≤ n) (hb : b.toNat ≤ x) (hroom : bl (x - b.toNat) ≤ n * 8 - 1) : (b = false ∧ fld b (x - b.toNat) 0 (n * 8) = x ∧ x < 2 ^ (n * 8 - 1)) ∨ (b = true ∧ fld b (x - b.toNat) 0 (n * 8) = 256 ^ n - x ∧ 1 ≤ x ∧ x ≤ 2 ^ (n * 8 - 1)) := by
  have hz := zbg b (x - b.toNat) (n * 8)
  have hlt := bl_le.1 hroom
  have hp : 2 ^ (n * 8) = 2 * 2 ^ (n * 8 - 1) := by rw [← Nat.pow_succ']; congr 1; omega
  have h256 : 256 ^ n = 2 ^ (n * 8) := by rw [Nat.mul_comm, znc]
  cases b with
  | false =>
    left
    refine ⟨rfl, ?_, by simpa using hlt⟩
    simp only [Bool.toNat_false, Nat.sub_zero] at hz hlt ⊢
    unfold ka at hz
    rw [if_neg (by decide)] at hz
    have e : ((x : Nat) : Int) % ((2 ^ (n * 8) : Nat) : Int) = ((x % 2 ^ (n * 8) : Nat) : Int) := rfl
    rw [e, Nat.mod_eq_of_lt (by omega)] at hz
    exact (Int.ofNat.inj hz).symm
  | true =>
    right
    simp only [Bool.toNat_true] at hz hlt hb
    refine ⟨rfl, ?_, hb, by omega⟩
    show fld true (x - 1) 0 (n * 8) = _
    unfold ka at hz
    rw [if_pos rfl] at hz
    have e : -((((x - 1 : Nat) : Int)) + 1) = (((2 ^ (n * 8) - x : Nat)) : Int) + ((2 ^ (n * 8) : Nat) : Int) * (-1) := by omega
    rw [e, Int.add_mul_emod_self_left] at hz
    have e2 : (((2 ^ (n * 8) - x : Nat)) : Int) % ((2 ^ (n * 8) : Nat) : Int) = (((2 ^ (n * 8) - x) % 2 ^ (n * 8) : Nat) : Int) := rfl
    have hpos : 0 < 2 ^ (n * 8 - 1) := Nat.two_pow_pos _
    rw [e2, Nat.mod_eq_of_lt (by omega)] at hz
    rw [h256]
    exact (Int.ofNat.inj hz).symm
theorem zja {b : Bool} {x n : Nat} (bg : Bool) (h1 : 1 ≤ n) (hb : b.toNat ≤ x) (hroom : bl (x - b.toNat) ≤ n * 8 - 1) : G.kd bg true (G.um bg (G.leB n (fld b (x - b.toNat) 0 (n * 8)))) = Q6.whole b x := by
  have h256 : 256 ^ n = 2 ^ (n * 8) := by rw [Nat.mul_comm, znc]
  have hp : 2 ^ (n * 8) = 2 * 2 ^ (n * 8 - 1) := by rw [← Nat.pow_succ']; congr 1; omega
  have hpos : 0 < 2 ^ (n * 8 - 1) := Nat.two_pow_pos _
  have hlen : (G.um bg (G.leB n (fld b (x - b.toNat) 0 (n * 8)))).length = n := by rw [G.znb, G.yx]
  unfold G.kd
  rw [hlen, G.low_low]
  have htop := top_bit (l := G.leB n (fld b (x - b.toNat) 0 (n * 8))) (G.yx _ _) h1
  rcases zqd h1 hb hroom with ⟨rfl, hF, hx⟩ | ⟨rfl, hF, hx1, hx2⟩
  · rw [hF] at htop ⊢
    have hN : G.leN (G.leB n x) = x := G.qyg n x (by omega)
    rw [hN] at htop ⊢
    have hbl : bl x ≤ n * 8 - 1 := bl_le.2 hx
    rw [if_neg (fun k => by have := htop.2 k.2; omega)]
  · rw [hF] at htop ⊢
    have hN : G.leN (G.leB n (256 ^ n - x)) = 256 ^ n - x := G.qyg n _ (by omega)
    rw [hN] at htop ⊢
    have hbl : bl (256 ^ n - x) = 8 * n := by
      have h4 := bl_eq (x := 256 ^ n - x) (n := n * 8 - 1) (by omega) (by rw [show n * 8 - 1 + 1 = n * 8 from by omega]; omega)
      omega
    rw [if_pos ⟨rfl, htop.1 hbl⟩, show 256 ^ n - (256 ^ n - x) = x from by omega]
end Go.Proofs.YtjkpfnghiooblaaGreatDoor
namespace Go.Proofs.YtjkpfnghiooblaaGreatDoor
open Go.RowKit
set_option linter.unusedVariables false
set_option linter.unusedSimpArgs false
set_option maxRecDepth 100000
theorem WnD_isS_26 : IsS Tryz.prog 26 6 := ⟨⟨_, Tryz.underlying26⟩, by kernel_rfl⟩
theorem zyf {w : World} {b : Bool} {x : Nat} {o1 o2 o3 o4 : Option Addr} {c1 c2 c3 c4 : Nat} (ha : Nm w (Q6.whole b x) o1 c1 o2 c2 o3 c3 o4 c4) (hx : (words x).length ≤ 512) (hb : b.toNat ≤ x) (hr : bl (x - b.toNat) ≤ 500) (bg : Bool) :
  ∃ p : List UInt8, p.length = 64 ∧ zxi p 0 64 bg true = (Q6.whole b x, 0) ∧ ∀ W so ca, Below w.heap.size w W → G.Rb W so (List.replicate 64 0) → 64 ≤ ca → Calls Tryz.prog 7 #[.slice so 64 ca, .int .i64 0, .int .i64 64, .bool bg, .bool true, xb (Q6.whole b x) o1 c1 o2 c2 o3 c3 o4 c4] W (fun e w' => ∃ v, e = .returned (.tuple #[v, .int .i64 0]) ∧ G.Mg W w' [.row G.BY 1 v p.length (Lib.byteCells p)]) := by
 have hr2 : bl (x - b.toNat) ≤ 64 * 8 - 1 := by omega
 have hll : (List.replicate 64 (0 : UInt8)).length = 64 := List.length_replicate
 have hpl : (G.um bg (G.leB 64 (fld b (x - b.toNat) 0 (64 * 8)))).length = 64 := by rw [G.znb, G.yx]
 have hle : 0 + 64 ≤ (List.replicate 64 (0 : UInt8)).length := by rw [hll]; decide
 have hov : (G.ovl 0 (G.um bg (G.leB 64 (fld b (x - b.toNat) 0 (64 * 8)))) (List.replicate 64 0)).length = 64 := by rw [G.zmg (by rw [hpl]; exact hle)]; exact hll
 refine ⟨G.ovl 0 (G.um bg (G.leB 64 (fld b (x - b.toNat) 0 (64 * 8)))) (List.replicate 64 0), hov, ?_, fun W so ca hW hR hca => ?_⟩
 ·
  have hk : okG (G.ovl 0 (G.um bg (G.leB 64 (fld b (x - b.toNat) 0 (64 * 8)))) (List.replicate 64 0)).length 0 64 = true := by
   rw [hov]; decide
  unfold zxi
  rw [if_pos hk]
  have h9 := ovl_get (an := 0) hpl hle
  show (G.kd bg true (((G.ovl 0 _ _).drop 0).take 64), (0 : Int)) = _
  rw [h9, zja bg (by decide) hb hr2]
 ·
  have h8 := G.put_ok (an := 0) (n := 64) hR (by rw [hll]; exact hca) (by rw [hll]; decide) (by decide) (by decide) hle bg true hpl (fun W' hW' => G.zyd (G.yh (G.yh ha hW) hW') hx hb (by decide) (by decide) bg true rfl rfl hr2 (fun _ => rfl))
  rw [hll] at h8
  exact h8
set_option maxHeartbeats 2000000 in
theorem zyg {w : World} {b : Bool} {x : Nat} {a1 a2 a3 a4 : Option Addr} {ac1 ac2 ac3 ac4 : Nat} (ha : Nm w (Q6.whole b x) a1 ac1 a2 ac2 a3 ac3 a4 ac4) (hx : (words x).length ≤ 512) (hb : b.toNat ≤ x) (bg : Bool) {n0 : Int} (e0 : vz (Q6.whole b x) = (n0, 0)) (hn0 : n0 ≤ 500) {F X2 X3 : Nat} (e1 : yl (Q6.whole b x) 0 100 = (Q6.whole false F, 0)) (e2 : vl (Q6.whole b x) (-100) = (Q6.whole b X2, 0)) (e3 : vl (Q6.whole b X2) 100 = (Q6.whole b X3, 0)) (e4 : kx (fun x y => x ||| y) (fun b c => b || c) (Q6.whole b X3) (Q6.whole false F) = (Q6.whole b x, 0)) (e5 : yf (Q6.whole b X3) (Q6.whole false F) = (Q6.whole b x, 0)) (l1 : (words F).length ≤ 512) (l2 : (words X2).length ≤ 512) (l3 : (words X3).length ≤ 512) {p : List UInt8} (hpl : p.length = 64) (hget : zxi p 0 64 bg true = (Q6.whole b x, 0)) (hPut : ∀ W so ca, Below w.heap.size w W → G.Rb W so (List.replicate 64 0) → 64 ≤ ca → Calls Tryz.prog 7 #[.slice so 64 ca, .int .i64 0, .int .i64 64, .bool bg, .bool true, xb (Q6.whole b x) a1 ac1 a2 ac2 a3 ac3 a4 ac4] W (fun e w' => ∃ v, e = .returned (.tuple #[v, .int .i64 0]) ∧ G.Mg W w' [.row G.BY 1 v p.length (Lib.byteCells p)])) {tx : List UInt8} (htx : vt 16 (Q6.whole b x) = tx) (hrd : qcg tx 16 = (Q6.whole b x, 0)) (htl : tx.length ≤ 16384) (hs : jk (Q6.whole b x) = true) (hwk : ∀ W, Below w.heap.size w W → Calls Tryz.prog 6 #[] W fun e w' => e = .returned (.bool true) ∧ Below W.heap.size W w') : Calls Tryz.prog 3 #[xb (Q6.whole b x) a1 ac1 a2 ac2 a3 ac3 a4 ac4, .bool bg] w fun e w' => e = .returned (.bool true) ∧ Below w.heap.size w w' := by
 have hl : LenQ (Q6.whole b x) := xj hx
 have hS : St w w [] [(a4, [1]), (a3, []), (a2, [1]), (a1, words x)] [] := ((((St.start w).addR ha.s1.rd).addR ha.s2.rd).addR ha.s3.rd).addR ha.s4.rd
 refine qz (l := [(0, .agg #[.bool b, .slice a1 ((words x).length) ac1, .slice a2 1 ac2, .bool false, .slice a3 0 ac3, .slice a4 1 ac4]), (1, .bool bg)]) Tryz.func3 rfl Tryz.ntmps3 rfl rfl ?_
 intro Q hret hnorm hP a hA
 refine wsk fun K1 hK1 => wrl (qt hA hS rfl rfl rfl (fun g => .pointer (some ⟨g, 0, none⟩)) (za rfl rfl) rfl ?_)
 intro g2 w3 hS a hA
 refine sdo hA (qa rfl) fun a hA => ?_
 refine qb (hK1 _ _ (wsk fun K4 hK4 => wrl (sdo hA (qn hS WnD_isS_26 rfl 0 rfl (cs := [.bool b, .slice a1 ((words x).length) ac1, .slice a2 1 ac2, .bool false, .slice a3 0 ac3, .slice a4 1 ac4]) rfl rfl) fun a hA => ?_)))
 refine qj hA rfl rfl rfl (qf  rfl rfl (fun w => by kernel_rfl)) ((e0 ▸ qma (show Nm _ _ a1 ac1 a2 ac2 a3 ac3 a4 ac4 from ⟨⟨(hS.rd 3 rfl), ha.s1.nil, ha.s1.cap⟩, ⟨(hS.rd 2 rfl), ha.s2.nil, ha.s2.cap⟩, ⟨(hS.rd 1 rfl), ha.s3.nil, ha.s3.cap⟩, ⟨(hS.rd 0 rfl), ha.s4.nil, ha.s4.cap⟩⟩) hl)) ?_
 rintro _ w6 ⟨rfl, hb5⟩
 replace hS := hS.call hb5
 refine ⟨_, rfl, ?_⟩
 intro a hA
 refine sdo hA (qe rfl) fun a hA => ?_
 iterate 2 refine sdo hA (qs (vs := [.int .i64 n0, .int .i64 0]) rfl rfl) fun a hA => ?_
 iterate 2 refine sdo hA (qa rfl) fun a hA => ?_
 refine qb (hK4 _ _ (wsk fun K7 hK7 => wsk fun K8 hK8 => wrl (qj hA rfl rfl rfl (qf  rfl rfl (fun w => by kernel_rfl)) (hwk _ hS.bel) ?_)))
 rintro _ w10 ⟨rfl, hb9⟩
 replace hS := hS.call hb9
 refine ⟨_, rfl, ?_⟩
 intro a hA
 refine sdo (v := .bool false) hA (zk rfl zq) fun a hA => ?_
 iterate 2 refine sdo hA (qe rfl) fun a hA => ?_
 refine sdo (v := .bool false) hA (qg rfl rfl (fun w => by kernel_rfl)) fun a hA => ?_
 refine sdo (v := .bool false) hA (qi rfl rfl rfl rfl) fun a hA => ?_
 iterate 2 refine sdo hA (qe rfl) fun a hA => ?_
 refine sdo (v := .bool false) hA (qg rfl rfl (fun w => (jt w).trans (by rw [show (decide (500 < n0)) = false from (decide_eq_false (by omega))]))) fun a hA => ?_
 refine sdo (v := .bool false) hA (qi rfl rfl rfl rfl) fun a hA => ?_
 refine qb (hK8 _ _ (wp_cond_false (hA.ev rfl) ?_))
 refine wp_skip (hK7 _ _ (wsk fun K11 hK11 => jh (S := fun w1 => St w w1 [(g2, [.bool b, .slice a1 ((words x).length) ac1, .slice a2 1 ac2, .bool false, .slice a3 0 ac3, .slice a4 1 ac4])] [(a4, [1]), (a3, []), (a2, [1]), (a1, words x)] []) (by kernel_rfl) ?_))
 replace hS := hS.drew
 refine ql hA 1 rfl rfl rfl rfl hP hS (fun w1 hS => qe rfl) fun a hA => ?_
 refine ql hA 2 rfl rfl rfl rfl hP hS (fun w1 hS => qn hS WnD_isS_26 rfl 0 rfl (cs := [.bool b, .slice a1 ((words x).length) ac1, .slice a2 1 ac2, .bool false, .slice a3 0 ac3, .slice a4 1 ac4]) rfl rfl) fun a hA => ?_
 refine zd (by kernel_rfl) (zqc hA hS 0 rfl rfl rfl rfl rfl Tryz.underlying31 (by kernel_rfl) rfl rfl ?_)
 intro g12 w13 hS hzg12
 refine ⟨hS, ?_⟩
 intro a hA
 refine zd (by kernel_rfl) (zi hA 3 rfl rfl rfl rfl (qf  rfl rfl (fun w => by kernel_rfl)) ((hPut _ _ _ hS.bel hzg12 (Nat.le_refl _))) ?_)
 rintro _ w18 ⟨v14, rfl, hM17⟩
 obtain ⟨so15, ca16, rfl⟩ := G.qrc (hM17.has 0 rfl)
 replace hS := hS.call hM17.bel
 refine ⟨_, rfl, hS, ?_⟩
 intro a hA
 refine ql hA 4 rfl rfl rfl rfl hP hS (fun w1 hS => qe rfl) fun a hA => ?_
 refine ql (v := .slice so15 p.length ca16) hA 5 rfl rfl rfl rfl hP hS (fun w1 hS => qs (vs := [.slice so15 p.length ca16, .int .i64 0]) rfl rfl) fun a hA => ?_
 refine ql (v := .int .i64 0) hA 6 rfl rfl rfl rfl hP hS (fun w1 hS => qs (vs := [.slice so15 p.length ca16, .int .i64 0]) rfl rfl) fun a hA => ?_
 refine ql hA 7 rfl rfl rfl rfl hP hS (fun w1 hS => qa rfl) fun a hA => ?_
 refine ql hA 8 rfl rfl rfl rfl hP hS (fun w1 hS => qa rfl) fun a hA => ?_
 refine zu (by kernel_rfl) ?_
 refine hK11 _ _ (wsk fun K19 hK19 => ?_)
 have hWz20 : Below w.heap.size w w18 := hS.bel
 have hFg2z20 : Blk w18 g2 [.bool b, .slice a1 ((words x).length) ac1, .slice a2 1 ac2, .bool false, .slice a3 0 ac3, .slice a4 1 ac4] := (hS.own (g2, [.bool b, .slice a1 ((words x).length) ac1, .slice a2 1 ac2, .bool false, .slice a3 0 ac3, .slice a4 1 ac4]) (by simp)).2
 have hRz20 : G.Rb w18 so15 p := (G.ui (bs := p) hM17 0 rfl).1
 have hRcz20 := G.own_cap hM17 0 rfl
 clear hS
 have hS : St w18 w18 [] [] [] := St.start w18
 have haw : Nm w18 (Q6.whole b x) a1 ac1 a2 ac2 a3 ac3 a4 ac4 := G.yh ha hWz20
 refine wrl ?_
 iterate 2 refine sdo hA (qe rfl) fun a hA => ?_
 refine qj hA rfl rfl rfl (qf  rfl rfl (fun w => by kernel_rfl)) ((hget ▸ zya (l := p) (hRz20.below hS.bel) hRcz20 (by omega) (by omega) (by omega) (by omega) (by omega) bg true)) ?_
 rintro _ w24 ⟨p21_1, p21_c1, p21_2, p21_c2, p21_3, p21_c3, p21_4, p21_c4, rfl, hn22, hb23⟩
 replace hS := hS.call hb23
 replace hS := hS.addR hn22.s1.rd
 replace hS := hS.addR hn22.s2.rd
 replace hS := hS.addR hn22.s3.rd
 replace hS := hS.addR hn22.s4.rd
 refine ⟨_, rfl, ?_⟩
 intro a hA
 refine sdo hA (qe rfl) fun a hA => ?_
 iterate 2 refine sdo hA (qs (vs := [.agg #[.bool b, .slice p21_1 ((words x).length) p21_c1, .slice p21_2 1 p21_c2, .bool false, .slice p21_3 0 p21_c3, .slice p21_4 1 p21_c4], .int .i64 0]) rfl rfl) fun a hA => ?_
 refine qt (vs := [.bool false, .slice none 0 0, .slice none 0 0, .bool false, .slice none 0 0, .slice none 0 0]) (t := 26) hA hS rfl rfl rfl (fun g => .pointer (some ⟨g, 0, none⟩)) (qp (z := .agg #[.bool false, .slice none 0 0, .slice none 0 0, .bool false, .slice none 0 0, .slice none 0 0]) (by kernel_rfl) rfl) rfl ?_
 intro g25 w26 hS a hA
 refine qw (us := [.bool b, .slice p21_1 ((words x).length) p21_c1, .slice p21_2 1 p21_c2, .bool false, .slice p21_3 0 p21_c3, .slice p21_4 1 p21_c4]) hA hS rfl rfl (qm rfl rfl rfl (by kernel_rfl) hS 0 rfl rfl rfl) 0 rfl rfl rfl rfl ?_
 intro w27 hS
 refine sdo hA (qa rfl) fun a hA => ?_
 refine qb (hK19 _ _ (wsk fun K28 hK28 => wrl (sdo hA (jq hS hFg2z20 WnD_isS_26 rfl (cs := [.bool b, .slice a1 ((words x).length) ac1, .slice a2 1 ac2, .bool false, .slice a3 0 ac3, .slice a4 1 ac4]) rfl rfl) fun a hA => ?_)))
 refine qj hA rfl rfl rfl (qf  rfl rfl (fun w => by kernel_rfl)) ((e1 ▸ zdg (show Nm _ _ a1 ac1 a2 ac2 a3 ac3 a4 ac4 from ⟨⟨(haw.s1.rd.below hS.bel), ha.s1.nil, ha.s1.cap⟩, ⟨(haw.s2.rd.below hS.bel), ha.s2.nil, ha.s2.cap⟩, ⟨(haw.s3.rd.below hS.bel), ha.s3.nil, ha.s3.cap⟩, ⟨(haw.s4.rd.below hS.bel), ha.s4.nil, ha.s4.cap⟩⟩) hl)) ?_
 rintro _ w32 ⟨p29_1, p29_c1, p29_2, p29_c2, p29_3, p29_c3, p29_4, p29_c4, rfl, hn30, hb31⟩
 replace hS := hS.call hb31
 replace hS := hS.addR hn30.s1.rd
 replace hS := hS.addR hn30.s2.rd
 replace hS := hS.addR hn30.s3.rd
 replace hS := hS.addR hn30.s4.rd
 refine ⟨_, rfl, ?_⟩
 intro a hA
 refine sdo hA (qe rfl) fun a hA => ?_
 iterate 2 refine sdo hA (qs (vs := [.agg #[.bool false, .slice p29_1 ((words F).length) p29_c1, .slice p29_2 1 p29_c2, .bool false, .slice p29_3 0 p29_c3, .slice p29_4 1 p29_c4], .int .i64 0]) rfl rfl) fun a hA => ?_
 refine qt (vs := [.bool false, .slice none 0 0, .slice none 0 0, .bool false, .slice none 0 0, .slice none 0 0]) (t := 26) hA hS rfl rfl rfl (fun g => .pointer (some ⟨g, 0, none⟩)) (qp (z := .agg #[.bool false, .slice none 0 0, .slice none 0 0, .bool false, .slice none 0 0, .slice none 0 0]) (by kernel_rfl) rfl) rfl ?_
 intro g33 w34 hS a hA
 refine qw (us := [.bool false, .slice p29_1 ((words F).length) p29_c1, .slice p29_2 1 p29_c2, .bool false, .slice p29_3 0 p29_c3, .slice p29_4 1 p29_c4]) hA hS rfl rfl (qm rfl rfl rfl (by kernel_rfl) hS 0 rfl rfl rfl) 0 rfl rfl rfl rfl ?_
 intro w35 hS
 refine sdo hA (qa rfl) fun a hA => ?_
 refine qb (hK28 _ _ (wsk fun K36 hK36 => wrl (sdo hA (jq hS hFg2z20 WnD_isS_26 rfl (cs := [.bool b, .slice a1 ((words x).length) ac1, .slice a2 1 ac2, .bool false, .slice a3 0 ac3, .slice a4 1 ac4]) rfl rfl) fun a hA => ?_)))
 refine qj hA rfl rfl rfl (qf  rfl rfl (fun w => by kernel_rfl)) ((e2 ▸ qoh (show Nm _ _ a1 ac1 a2 ac2 a3 ac3 a4 ac4 from ⟨⟨(haw.s1.rd.below hS.bel), ha.s1.nil, ha.s1.cap⟩, ⟨(haw.s2.rd.below hS.bel), ha.s2.nil, ha.s2.cap⟩, ⟨(haw.s3.rd.below hS.bel), ha.s3.nil, ha.s3.cap⟩, ⟨(haw.s4.rd.below hS.bel), ha.s4.nil, ha.s4.cap⟩⟩) hl)) ?_
 rintro _ w40 ⟨p37_1, p37_c1, p37_2, p37_c2, p37_3, p37_c3, p37_4, p37_c4, rfl, hn38, hb39⟩
 replace hS := hS.call hb39
 replace hS := hS.addR hn38.s1.rd
 replace hS := hS.addR hn38.s2.rd
 replace hS := hS.addR hn38.s3.rd
 replace hS := hS.addR hn38.s4.rd
 refine ⟨_, rfl, ?_⟩
 intro a hA
 refine sdo hA (qe rfl) fun a hA => ?_
 iterate 2 refine sdo hA (qs (vs := [.agg #[.bool b, .slice p37_1 ((words X2).length) p37_c1, .slice p37_2 1 p37_c2, .bool false, .slice p37_3 0 p37_c3, .slice p37_4 1 p37_c4], .int .i64 0]) rfl rfl) fun a hA => ?_
 refine qt (vs := [.bool false, .slice none 0 0, .slice none 0 0, .bool false, .slice none 0 0, .slice none 0 0]) (t := 26) hA hS rfl rfl rfl (fun g => .pointer (some ⟨g, 0, none⟩)) (qp (z := .agg #[.bool false, .slice none 0 0, .slice none 0 0, .bool false, .slice none 0 0, .slice none 0 0]) (by kernel_rfl) rfl) rfl ?_
 intro g41 w42 hS a hA
 refine qw (us := [.bool b, .slice p37_1 ((words X2).length) p37_c1, .slice p37_2 1 p37_c2, .bool false, .slice p37_3 0 p37_c3, .slice p37_4 1 p37_c4]) hA hS rfl rfl (qm rfl rfl rfl (by kernel_rfl) hS 0 rfl rfl rfl) 0 rfl rfl rfl rfl ?_
 intro w43 hS
 refine sdo hA (qa rfl) fun a hA => ?_
 refine qb (hK36 _ _ (wsk fun K44 hK44 => wrl (sdo hA (qn hS WnD_isS_26 rfl 0 rfl (cs := [.bool b, .slice p37_1 ((words X2).length) p37_c1, .slice p37_2 1 p37_c2, .bool false, .slice p37_3 0 p37_c3, .slice p37_4 1 p37_c4]) rfl rfl) fun a hA => ?_)))
 refine qj hA rfl rfl rfl (qf  rfl rfl (fun w => by kernel_rfl)) ((e3 ▸ qoh (show Nm _ _ p37_1 p37_c1 p37_2 p37_c2 p37_3 p37_c3 p37_4 p37_c4 from ⟨⟨(hS.rd 3 rfl), hn38.s1.nil, hn38.s1.cap⟩, ⟨(hS.rd 2 rfl), hn38.s2.nil, hn38.s2.cap⟩, ⟨(hS.rd 1 rfl), hn38.s3.nil, hn38.s3.cap⟩, ⟨(hS.rd 0 rfl), hn38.s4.nil, hn38.s4.cap⟩⟩) (xj l2))) ?_
 rintro _ w48 ⟨p45_1, p45_c1, p45_2, p45_c2, p45_3, p45_c3, p45_4, p45_c4, rfl, hn46, hb47⟩
 replace hS := hS.call hb47
 replace hS := hS.addR hn46.s1.rd
 replace hS := hS.addR hn46.s2.rd
 replace hS := hS.addR hn46.s3.rd
 replace hS := hS.addR hn46.s4.rd
 refine ⟨_, rfl, ?_⟩
 intro a hA
 refine sdo hA (qe rfl) fun a hA => ?_
 iterate 2 refine sdo hA (qs (vs := [.agg #[.bool b, .slice p45_1 ((words X3).length) p45_c1, .slice p45_2 1 p45_c2, .bool false, .slice p45_3 0 p45_c3, .slice p45_4 1 p45_c4], .int .i64 0]) rfl rfl) fun a hA => ?_
 refine qt (vs := [.bool false, .slice none 0 0, .slice none 0 0, .bool false, .slice none 0 0, .slice none 0 0]) (t := 26) hA hS rfl rfl rfl (fun g => .pointer (some ⟨g, 0, none⟩)) (qp (z := .agg #[.bool false, .slice none 0 0, .slice none 0 0, .bool false, .slice none 0 0, .slice none 0 0]) (by kernel_rfl) rfl) rfl ?_
 intro g49 w50 hS a hA
 refine qw (us := [.bool b, .slice p45_1 ((words X3).length) p45_c1, .slice p45_2 1 p45_c2, .bool false, .slice p45_3 0 p45_c3, .slice p45_4 1 p45_c4]) hA hS rfl rfl (qm rfl rfl rfl (by kernel_rfl) hS 0 rfl rfl rfl) 0 rfl rfl rfl rfl ?_
 intro w51 hS
 refine sdo hA (qa rfl) fun a hA => ?_
 refine qb (hK44 _ _ (wsk fun K52 hK52 => wrl (sdo hA (qn hS WnD_isS_26 rfl 0 rfl (cs := [.bool b, .slice p45_1 ((words X3).length) p45_c1, .slice p45_2 1 p45_c2, .bool false, .slice p45_3 0 p45_c3, .slice p45_4 1 p45_c4]) rfl rfl) fun a hA => ?_)))
 refine sdo hA (qn hS WnD_isS_26 rfl 2 rfl (cs := [.bool false, .slice p29_1 ((words F).length) p29_c1, .slice p29_2 1 p29_c2, .bool false, .slice p29_3 0 p29_c3, .slice p29_4 1 p29_c4]) rfl rfl) fun a hA => ?_
 refine qj hA rfl rfl rfl (qf  rfl rfl (fun w => by kernel_rfl)) ((e4 ▸ jac (show Nm _ _ p45_1 p45_c1 p45_2 p45_c2 p45_3 p45_c3 p45_4 p45_c4 from ⟨⟨(hS.rd 3 rfl), hn46.s1.nil, hn46.s1.cap⟩, ⟨(hS.rd 2 rfl), hn46.s2.nil, hn46.s2.cap⟩, ⟨(hS.rd 1 rfl), hn46.s3.nil, hn46.s3.cap⟩, ⟨(hS.rd 0 rfl), hn46.s4.nil, hn46.s4.cap⟩⟩) (xj l3) (show Nm _ _ p29_1 p29_c1 p29_2 p29_c2 p29_3 p29_c3 p29_4 p29_c4 from ⟨⟨(hS.rd 11 rfl), hn30.s1.nil, hn30.s1.cap⟩, ⟨(hS.rd 10 rfl), hn30.s2.nil, hn30.s2.cap⟩, ⟨(hS.rd 9 rfl), hn30.s3.nil, hn30.s3.cap⟩, ⟨(hS.rd 8 rfl), hn30.s4.nil, hn30.s4.cap⟩⟩) (xj l1))) ?_
 rintro _ w56 ⟨p53_1, p53_c1, p53_2, p53_c2, p53_3, p53_c3, p53_4, p53_c4, rfl, hn54, hb55⟩
 replace hS := hS.call hb55
 replace hS := hS.addR hn54.s1.rd
 replace hS := hS.addR hn54.s2.rd
 replace hS := hS.addR hn54.s3.rd
 replace hS := hS.addR hn54.s4.rd
 refine ⟨_, rfl, ?_⟩
 intro a hA
 refine sdo hA (qe rfl) fun a hA => ?_
 iterate 2 refine sdo hA (qs (vs := [.agg #[.bool b, .slice p53_1 ((words x).length) p53_c1, .slice p53_2 1 p53_c2, .bool false, .slice p53_3 0 p53_c3, .slice p53_4 1 p53_c4], .int .i64 0]) rfl rfl) fun a hA => ?_
 refine qt (vs := [.bool false, .slice none 0 0, .slice none 0 0, .bool false, .slice none 0 0, .slice none 0 0]) (t := 26) hA hS rfl rfl rfl (fun g => .pointer (some ⟨g, 0, none⟩)) (qp (z := .agg #[.bool false, .slice none 0 0, .slice none 0 0, .bool false, .slice none 0 0, .slice none 0 0]) (by kernel_rfl) rfl) rfl ?_
 intro g57 w58 hS a hA
 refine qw (us := [.bool b, .slice p53_1 ((words x).length) p53_c1, .slice p53_2 1 p53_c2, .bool false, .slice p53_3 0 p53_c3, .slice p53_4 1 p53_c4]) hA hS rfl rfl (qm rfl rfl rfl (by kernel_rfl) hS 0 rfl rfl rfl) 0 rfl rfl rfl rfl ?_
 intro w59 hS
 refine sdo hA (qa rfl) fun a hA => ?_
 refine qb (hK52 _ _ (wsk fun K60 hK60 => wrl (sdo hA (qn hS WnD_isS_26 rfl 1 rfl (cs := [.bool b, .slice p45_1 ((words X3).length) p45_c1, .slice p45_2 1 p45_c2, .bool false, .slice p45_3 0 p45_c3, .slice p45_4 1 p45_c4]) rfl rfl) fun a hA => ?_)))
 refine sdo hA (qn hS WnD_isS_26 rfl 3 rfl (cs := [.bool false, .slice p29_1 ((words F).length) p29_c1, .slice p29_2 1 p29_c2, .bool false, .slice p29_3 0 p29_c3, .slice p29_4 1 p29_c4]) rfl rfl) fun a hA => ?_
 refine qj hA rfl rfl rfl (qf  rfl rfl (fun w => by kernel_rfl)) (addQ_as (show Nm _ _ p45_1 p45_c1 p45_2 p45_c2 p45_3 p45_c3 p45_4 p45_c4 from ⟨⟨(hS.rd 7 rfl), hn46.s1.nil, hn46.s1.cap⟩, ⟨(hS.rd 6 rfl), hn46.s2.nil, hn46.s2.cap⟩, ⟨(hS.rd 5 rfl), hn46.s3.nil, hn46.s3.cap⟩, ⟨(hS.rd 4 rfl), hn46.s4.nil, hn46.s4.cap⟩⟩) (xj l3) (show Nm _ _ p29_1 p29_c1 p29_2 p29_c2 p29_3 p29_c3 p29_4 p29_c4 from ⟨⟨(hS.rd 15 rfl), hn30.s1.nil, hn30.s1.cap⟩, ⟨(hS.rd 14 rfl), hn30.s2.nil, hn30.s2.cap⟩, ⟨(hS.rd 13 rfl), hn30.s3.nil, hn30.s3.cap⟩, ⟨(hS.rd 12 rfl), hn30.s4.nil, hn30.s4.cap⟩⟩) (xj l1) e5) ?_
 rintro _ w64 ⟨p61_1, p61_c1, p61_2, p61_c2, p61_3, p61_c3, p61_4, p61_c4, rfl, hn62, hb63⟩
 replace hS := hS.call hb63
 replace hS := hS.addR hn62.s1.rd
 replace hS := hS.addR hn62.s2.rd
 replace hS := hS.addR hn62.s3.rd
 replace hS := hS.addR hn62.s4.rd
 refine ⟨_, rfl, ?_⟩
 intro a hA
 refine sdo hA (qe rfl) fun a hA => ?_
 iterate 2 refine sdo hA (qs (vs := [.agg #[.bool b, .slice p61_1 ((words x).length) p61_c1, .slice p61_2 1 p61_c2, .bool false, .slice p61_3 0 p61_c3, .slice p61_4 1 p61_c4], .int .i64 0]) rfl rfl) fun a hA => ?_
 refine qt (vs := [.bool false, .slice none 0 0, .slice none 0 0, .bool false, .slice none 0 0, .slice none 0 0]) (t := 26) hA hS rfl rfl rfl (fun g => .pointer (some ⟨g, 0, none⟩)) (qp (z := .agg #[.bool false, .slice none 0 0, .slice none 0 0, .bool false, .slice none 0 0, .slice none 0 0]) (by kernel_rfl) rfl) rfl ?_
 intro g65 w66 hS a hA
 refine qw (us := [.bool b, .slice p61_1 ((words x).length) p61_c1, .slice p61_2 1 p61_c2, .bool false, .slice p61_3 0 p61_c3, .slice p61_4 1 p61_c4]) hA hS rfl rfl (qm rfl rfl rfl (by kernel_rfl) hS 0 rfl rfl rfl) 0 rfl rfl rfl rfl ?_
 intro w67 hS
 refine sdo hA (qa rfl) fun a hA => ?_
 refine qb (hK60 _ _ (wsk fun K68 hK68 => wrl (sdo hA (jq hS hFg2z20 WnD_isS_26 rfl (cs := [.bool b, .slice a1 ((words x).length) ac1, .slice a2 1 ac2, .bool false, .slice a3 0 ac3, .slice a4 1 ac4]) rfl rfl) fun a hA => ?_)))
 refine qj hA rfl rfl rfl (qf  rfl rfl (fun w => by kernel_rfl)) ((htx ▸ qvh (r := 16) (show Nm _ _ a1 ac1 a2 ac2 a3 ac3 a4 ac4 from ⟨⟨(haw.s1.rd.below hS.bel), ha.s1.nil, ha.s1.cap⟩, ⟨(haw.s2.rd.below hS.bel), ha.s2.nil, ha.s2.cap⟩, ⟨(haw.s3.rd.below hS.bel), ha.s3.nil, ha.s3.cap⟩, ⟨(haw.s4.rd.below hS.bel), ha.s4.nil, ha.s4.cap⟩⟩) hl (.inr (.inr (.inr rfl))) hs)) ?_
 rintro _ w70 ⟨rfl, hb69⟩
 replace hS := hS.call hb69
 refine ⟨_, rfl, ?_⟩
 intro a hA
 refine sdo hA (qe rfl) fun a hA => ?_
 iterate 2 refine sdo hA (qs (vs := [.string (bsL tx), .int .i64 0]) rfl rfl) fun a hA => ?_
 iterate 2 refine sdo hA (qa rfl) fun a hA => ?_
 refine qb (hK68 _ _ (wsk fun K71 hK71 => wrl (sdo hA (qe rfl) fun a hA => ?_)))
 refine qj hA rfl rfl rfl (qf  rfl rfl (fun w => by kernel_rfl)) ((hrd ▸ qud (l := tx) (n := 16) (by omega))) ?_
 rintro _ w75 ⟨p72_1, p72_c1, p72_2, p72_c2, p72_3, p72_c3, p72_4, p72_c4, rfl, hn73, hb74⟩
 replace hS := hS.call hb74
 replace hS := hS.addR hn73.s1.rd
 replace hS := hS.addR hn73.s2.rd
 replace hS := hS.addR hn73.s3.rd
 replace hS := hS.addR hn73.s4.rd
 refine ⟨_, rfl, ?_⟩
 intro a hA
 refine sdo hA (qe rfl) fun a hA => ?_
 iterate 2 refine sdo hA (qs (vs := [.agg #[.bool b, .slice p72_1 ((words x).length) p72_c1, .slice p72_2 1 p72_c2, .bool false, .slice p72_3 0 p72_c3, .slice p72_4 1 p72_c4], .int .i64 0]) rfl rfl) fun a hA => ?_
 refine qt (vs := [.bool false, .slice none 0 0, .slice none 0 0, .bool false, .slice none 0 0, .slice none 0 0]) (t := 26) hA hS rfl rfl rfl (fun g => .pointer (some ⟨g, 0, none⟩)) (qp (z := .agg #[.bool false, .slice none 0 0, .slice none 0 0, .bool false, .slice none 0 0, .slice none 0 0]) (by kernel_rfl) rfl) rfl ?_
 intro g76 w77 hS a hA
 refine qw (us := [.bool b, .slice p72_1 ((words x).length) p72_c1, .slice p72_2 1 p72_c2, .bool false, .slice p72_3 0 p72_c3, .slice p72_4 1 p72_c4]) hA hS rfl rfl (qm rfl rfl rfl (by kernel_rfl) hS 0 rfl rfl rfl) 0 rfl rfl rfl rfl ?_
 intro w78 hS
 refine sdo hA (qa rfl) fun a hA => ?_
 refine qb (hK71 _ _ (wsk fun K79 hK79 => wrl (sdo hA (qe rfl) fun a hA => ?_)))
 refine sdo (v := .bool true) hA (qg rfl rfl (fun w => by kernel_rfl)) fun a hA => ?_
 iterate 2 refine sdo hA (qe rfl) fun a hA => ?_
 refine sdo (v := .bool true) hA (qg rfl rfl (fun w => by kernel_rfl)) fun a hA => ?_
 refine sdo (v := .bool true) hA (qi rfl rfl rfl rfl) fun a hA => ?_
 iterate 2 refine sdo hA (qe rfl) fun a hA => ?_
 refine sdo (v := .bool true) hA (qg rfl rfl (fun w => by kernel_rfl)) fun a hA => ?_
 refine sdo (v := .bool true) hA (qi rfl rfl rfl rfl) fun a hA => ?_
 iterate 2 refine sdo hA (qe rfl) fun a hA => ?_
 refine sdo (v := .bool true) hA (qg rfl rfl (fun w => by kernel_rfl)) fun a hA => ?_
 refine sdo (v := .bool true) hA (qi rfl rfl rfl rfl) fun a hA => ?_
 iterate 2 refine sdo hA (qe rfl) fun a hA => ?_
 refine sdo (v := .bool true) hA (qg rfl rfl (fun w => by kernel_rfl)) fun a hA => ?_
 refine sdo (v := .bool true) hA (qi rfl rfl rfl rfl) fun a hA => ?_
 iterate 2 refine sdo hA (qe rfl) fun a hA => ?_
 refine sdo (v := .bool true) hA (qg rfl rfl (fun w => by kernel_rfl)) fun a hA => ?_
 refine sdo (v := .bool true) hA (qi rfl rfl rfl rfl) fun a hA => ?_
 iterate 2 refine sdo hA (qe rfl) fun a hA => ?_
 refine sdo (v := .bool true) hA (qg rfl rfl (fun w => by kernel_rfl)) fun a hA => ?_
 refine sdo (v := .bool true) hA (qi rfl rfl rfl rfl) fun a hA => ?_
 iterate 2 refine sdo hA (qe rfl) fun a hA => ?_
 refine sdo (v := .bool true) hA (qg rfl rfl (fun w => by kernel_rfl)) fun a hA => ?_
 refine sdo (v := .bool true) hA (qi rfl rfl rfl rfl) fun a hA => ?_
 iterate 2 refine sdo hA (qe rfl) fun a hA => ?_
 refine sdo (v := .bool true) hA (qg rfl rfl (fun w => by kernel_rfl)) fun a hA => ?_
 refine sdo (v := .bool true) hA (qi rfl rfl rfl rfl) fun a hA => ?_
 refine sdo hA (qe rfl) fun a hA => ?_
 refine sdo hA (qn hS WnD_isS_26 rfl 6 rfl (cs := [.bool b, .slice p21_1 ((words x).length) p21_c1, .slice p21_2 1 p21_c2, .bool false, .slice p21_3 0 p21_c3, .slice p21_4 1 p21_c4]) rfl rfl) fun a hA => ?_
 refine sdo hA (jq hS hFg2z20 WnD_isS_26 rfl (cs := [.bool b, .slice a1 ((words x).length) ac1, .slice a2 1 ac2, .bool false, .slice a3 0 ac3, .slice a4 1 ac4]) rfl rfl) fun a hA => ?_
 refine qj hA rfl rfl rfl (qf  rfl rfl (fun w => by kernel_rfl)) (qfd (p := Q6.whole b x) (q := Q6.whole b x) (show Nm _ _ p21_1 p21_c1 p21_2 p21_c2 p21_3 p21_c3 p21_4 p21_c4 from ⟨⟨(hS.rd 27 rfl), hn22.s1.nil, hn22.s1.cap⟩, ⟨(hS.rd 26 rfl), hn22.s2.nil, hn22.s2.cap⟩, ⟨(hS.rd 25 rfl), hn22.s3.nil, hn22.s3.cap⟩, ⟨(hS.rd 24 rfl), hn22.s4.nil, hn22.s4.cap⟩⟩) hl (show Nm _ _ a1 ac1 a2 ac2 a3 ac3 a4 ac4 from ⟨⟨(haw.s1.rd.below hS.bel), ha.s1.nil, ha.s1.cap⟩, ⟨(haw.s2.rd.below hS.bel), ha.s2.nil, ha.s2.cap⟩, ⟨(haw.s3.rd.below hS.bel), ha.s3.nil, ha.s3.cap⟩, ⟨(haw.s4.rd.below hS.bel), ha.s4.nil, ha.s4.cap⟩⟩) hl (qbd hs)) ?_
 rintro _ w81 ⟨rfl, hb80⟩
 replace hS := hS.call hb80
 refine ⟨_, rfl, ?_⟩
 intro a hA
 refine sdo (v := .bool true) hA (qi rfl rfl rfl rfl) fun a hA => ?_
 refine sdo hA (qe rfl) fun a hA => ?_
 refine sdo hA (qn hS WnD_isS_26 rfl 2 rfl (cs := [.bool b, .slice p53_1 ((words x).length) p53_c1, .slice p53_2 1 p53_c2, .bool false, .slice p53_3 0 p53_c3, .slice p53_4 1 p53_c4]) rfl rfl) fun a hA => ?_
 refine sdo hA (jq hS hFg2z20 WnD_isS_26 rfl (cs := [.bool b, .slice a1 ((words x).length) ac1, .slice a2 1 ac2, .bool false, .slice a3 0 ac3, .slice a4 1 ac4]) rfl rfl) fun a hA => ?_
 refine qj hA rfl rfl rfl (qf  rfl rfl (fun w => by kernel_rfl)) (qfd (p := Q6.whole b x) (q := Q6.whole b x) (show Nm _ _ p53_1 p53_c1 p53_2 p53_c2 p53_3 p53_c3 p53_4 p53_c4 from ⟨⟨(hS.rd 11 rfl), hn54.s1.nil, hn54.s1.cap⟩, ⟨(hS.rd 10 rfl), hn54.s2.nil, hn54.s2.cap⟩, ⟨(hS.rd 9 rfl), hn54.s3.nil, hn54.s3.cap⟩, ⟨(hS.rd 8 rfl), hn54.s4.nil, hn54.s4.cap⟩⟩) hl (show Nm _ _ a1 ac1 a2 ac2 a3 ac3 a4 ac4 from ⟨⟨(haw.s1.rd.below hS.bel), ha.s1.nil, ha.s1.cap⟩, ⟨(haw.s2.rd.below hS.bel), ha.s2.nil, ha.s2.cap⟩, ⟨(haw.s3.rd.below hS.bel), ha.s3.nil, ha.s3.cap⟩, ⟨(haw.s4.rd.below hS.bel), ha.s4.nil, ha.s4.cap⟩⟩) hl (qbd hs)) ?_
 rintro _ w83 ⟨rfl, hb82⟩
 replace hS := hS.call hb82
 refine ⟨_, rfl, ?_⟩
 intro a hA
 refine sdo (v := .bool true) hA (qi rfl rfl rfl rfl) fun a hA => ?_
 refine sdo hA (qe rfl) fun a hA => ?_
 refine sdo hA (qn hS WnD_isS_26 rfl 1 rfl (cs := [.bool b, .slice p61_1 ((words x).length) p61_c1, .slice p61_2 1 p61_c2, .bool false, .slice p61_3 0 p61_c3, .slice p61_4 1 p61_c4]) rfl rfl) fun a hA => ?_
 refine sdo hA (jq hS hFg2z20 WnD_isS_26 rfl (cs := [.bool b, .slice a1 ((words x).length) ac1, .slice a2 1 ac2, .bool false, .slice a3 0 ac3, .slice a4 1 ac4]) rfl rfl) fun a hA => ?_
 refine qj hA rfl rfl rfl (qf  rfl rfl (fun w => by kernel_rfl)) (qfd (p := Q6.whole b x) (q := Q6.whole b x) (show Nm _ _ p61_1 p61_c1 p61_2 p61_c2 p61_3 p61_c3 p61_4 p61_c4 from ⟨⟨(hS.rd 7 rfl), hn62.s1.nil, hn62.s1.cap⟩, ⟨(hS.rd 6 rfl), hn62.s2.nil, hn62.s2.cap⟩, ⟨(hS.rd 5 rfl), hn62.s3.nil, hn62.s3.cap⟩, ⟨(hS.rd 4 rfl), hn62.s4.nil, hn62.s4.cap⟩⟩) hl (show Nm _ _ a1 ac1 a2 ac2 a3 ac3 a4 ac4 from ⟨⟨(haw.s1.rd.below hS.bel), ha.s1.nil, ha.s1.cap⟩, ⟨(haw.s2.rd.below hS.bel), ha.s2.nil, ha.s2.cap⟩, ⟨(haw.s3.rd.below hS.bel), ha.s3.nil, ha.s3.cap⟩, ⟨(haw.s4.rd.below hS.bel), ha.s4.nil, ha.s4.cap⟩⟩) hl (qbd hs)) ?_
 rintro _ w85 ⟨rfl, hb84⟩
 replace hS := hS.call hb84
 refine ⟨_, rfl, ?_⟩
 intro a hA
 refine sdo (v := .bool true) hA (qi rfl rfl rfl rfl) fun a hA => ?_
 refine sdo hA (qe rfl) fun a hA => ?_
 refine sdo hA (qn hS WnD_isS_26 rfl 0 rfl (cs := [.bool b, .slice p72_1 ((words x).length) p72_c1, .slice p72_2 1 p72_c2, .bool false, .slice p72_3 0 p72_c3, .slice p72_4 1 p72_c4]) rfl rfl) fun a hA => ?_
 refine sdo hA (jq hS hFg2z20 WnD_isS_26 rfl (cs := [.bool b, .slice a1 ((words x).length) ac1, .slice a2 1 ac2, .bool false, .slice a3 0 ac3, .slice a4 1 ac4]) rfl rfl) fun a hA => ?_
 refine qj hA rfl rfl rfl (qf  rfl rfl (fun w => by kernel_rfl)) (qfd (p := Q6.whole b x) (q := Q6.whole b x) (show Nm _ _ p72_1 p72_c1 p72_2 p72_c2 p72_3 p72_c3 p72_4 p72_c4 from ⟨⟨(hS.rd 3 rfl), hn73.s1.nil, hn73.s1.cap⟩, ⟨(hS.rd 2 rfl), hn73.s2.nil, hn73.s2.cap⟩, ⟨(hS.rd 1 rfl), hn73.s3.nil, hn73.s3.cap⟩, ⟨(hS.rd 0 rfl), hn73.s4.nil, hn73.s4.cap⟩⟩) hl (show Nm _ _ a1 ac1 a2 ac2 a3 ac3 a4 ac4 from ⟨⟨(haw.s1.rd.below hS.bel), ha.s1.nil, ha.s1.cap⟩, ⟨(haw.s2.rd.below hS.bel), ha.s2.nil, ha.s2.cap⟩, ⟨(haw.s3.rd.below hS.bel), ha.s3.nil, ha.s3.cap⟩, ⟨(haw.s4.rd.below hS.bel), ha.s4.nil, ha.s4.cap⟩⟩) hl (qbd hs)) ?_
 rintro _ w87 ⟨rfl, hb86⟩
 replace hS := hS.call hb86
 refine ⟨_, rfl, ?_⟩
 intro a hA
 refine sdo (v := .bool true) hA (qi rfl rfl rfl rfl) fun a hA => ?_
 refine sdo hA (qa rfl) fun a hA => ?_
 refine qb (hK79 _ _ (wp_ret (hret _ _ (en1 hA rfl (qk rfl) ?_))))
 exact ⟨rfl, (chain2 hWz20 hS.bel)⟩
end Go.Proofs.YtjkpfnghiooblaaGreatDoor
namespace Go.Proofs.YtjkpfnghiooblaaGreatDoor.G
open Go.RowKit Go.Shelf
set_option linter.unusedVariables false
set_option linter.unusedSimpArgs false

theorem cc_used {w : World} {gw : Nat} (h0 : w.cell? ⟨gw, 0, none⟩ = some (.pointer (some ⟨gw, 0, none⟩))) : Calls Tryz.prog 108 #[.pointer (some ⟨gw, 0, none⟩)] w fun e w' => e = .returned (.tuple #[]) ∧ w' = w :=
  Any.Builder_copyCheck_used Tryz.lays240 Tryz.Builder_X72_240 gw w h0
set_option maxHeartbeats 1000000 in
set_option maxRecDepth 100000 in
theorem zyh {w : World} {gw : Nat} (h0 : w.cell? ⟨gw, 0, none⟩ = some (.pointer none)) (hsh : w.shape? gw = some (149, 3)) (hfz : w.frozen? ⟨gw, 0, none⟩ = false) : Calls Tryz.prog 108 #[.pointer (some ⟨gw, 0, none⟩)] w fun e w' => e = .returned (.tuple #[]) ∧ w' = w.setCell ⟨gw, 0, none⟩ (.pointer (some ⟨gw, 0, none⟩)) := by
  obtain ⟨j, hj, hjs⟩ := Option.map_eq_some_iff.1 Tryz.Builder_X72_240.sizeBuilder
  go_enter Tryz.func108, Tryz.ntmps108
  go_wp2
  rw [Lib.run_to_unsafe w ⟨gw, 0, none⟩ Tryz.underlying104 Tryz.underlying185 hj (by rw [hjs]; decide) hsh (Nat.zero_lt_succ 2)]
  simp only [Result.andThen]
  rw [Oper.upon_value]
  go_wp2
  rw [run_callFunc_extern Tryz.func152 (by kernel_rfl) (by kernel_rfl) (by kernel_rfl) (e := Extern.AbiNoEscape.same) (by kernel_rfl)]
  rw [Lib.run_noEscape]
  simp only [Result.andThen]
  rw [Oper.upon_value]
  go_wp2
  rw [Lib.run_from_unsafe w ⟨gw, 0, none⟩ Tryz.underlying185 Tryz.underlying104 hj hsh (by kernel_rfl)]
  simp only [Result.andThen]
  rw [Oper.upon_value]
  go_wp2
  go_end0
  exact ⟨rfl, rfl⟩
theorem cc_any {w0 w : World} {gw : Nat} {p v : Value} {pl : Bool} {L : List Ck} (hp : p = .pointer none ∨ p = .pointer (some ⟨gw, 0, none⟩)) (hM : Mg w0 w (.obj gw (.cells #[p, v, .bool pl] 149) :: L)) : Calls Tryz.prog 108 #[.pointer (some ⟨gw, 0, none⟩)] w fun e w' => e = .returned (.tuple #[]) ∧ Mg w0 w' (.obj gw (.cells #[.pointer (some ⟨gw, 0, none⟩), v, .bool pl] 149) :: L) := by
  have hc := hM.cell 0 (vs := [p, v, .bool pl]) rfl 0 rfl
  rcases hp with rfl | rfl
  · have hb := hM.obj 0 rfl
    refine (zyh hc (by simp [World.shape?, hb]) (hM.froz 0 (vs := [_, _, _]) rfl 0)).mono ?_
    rintro e w' ⟨rfl, rfl⟩
    exact ⟨rfl, hM.put 0 (vs := [_, v, .bool pl]) rfl 0 _⟩
  · refine (cc_used hc).mono ?_
    rintro e w' ⟨rfl, rfl⟩
    exact ⟨rfl, hM⟩
theorem zdh {B : Nat} {w0 w : World} (h : Below B w0 w) {g : Nat} (hg : B ≤ g) (n : Nat) : Below B w0 (w.freeze ⟨g, 0, none⟩ n) := Lib.below_freeze h (p := ⟨g, 0, none⟩) hg n
set_option maxHeartbeats 1000000 in
set_option maxRecDepth 100000 in
theorem str_pos {w : World} {B gw g cap : Nat} {p q : Value} {l : List UInt8} {cur : Array Value} (h0 : l ≠ []) (hbk : w.heap[gw]? = some (.cells #[p, .slice (some ⟨g, 0, none⟩) l.length cap, q] 149 (0, 0))) (hg : w.heap[g]? = some (.cells cur 5 (0, 0))) (hcap : l.length ≤ cap) (hmax : l.length ≤ 9223372036854775807) (hB : B ≤ g)
    (hcs : ∀ j x, l[j]? = some x → w.cell? ⟨g, j, none⟩ = some (.int .u8 ((x : UInt8).toNat : Nat))) (hsz : l.length ≤ cur.size) : Calls Tryz.prog 63 #[.pointer (some ⟨gw, 0, none⟩)] w fun e w' => e = .returned (.string ⟨l.toArray⟩) ∧ Below B w w' := by
  have hl0 : l.length ≠ 0 := by simpa using h0
  have mixed : Tryz.prog.follows .mixedOrders = true := by kernel_rfl
  have c1 : w.drew.cell? ⟨gw, 1, none⟩ = some (.slice (some ⟨g, 0, none⟩) l.length cap) := by
    have : w.drew.heap[gw]? = some (.cells #[p, .slice (some ⟨g, 0, none⟩) l.length cap, q] 149 (0, 0)) := hbk
    rw [Lib.cell_of_heap this]; rfl
  have hSD : (Builtin.unsafeSliceData_ #[31] 154 #[.slice (some ⟨g, 0, none⟩) l.length cap]).run Tryz.prog w.drew = .ok (.pointer (some ⟨g, 0, none⟩)) w.drew :=
    Lib.run_unsafeSliceData_row _ _ _ _ _ _ (by omega)
  have hUS : (Builtin.unsafeString_ #[154, 3] 9 #[.pointer (some ⟨g, 0, none⟩), .int .i64 l.length]).run Tryz.prog w.drew = .ok (.string ⟨l.toArray⟩) (w.drew.freeze ⟨g, 0, none⟩ l.length) :=
    Lib.run_unsafeString_row w.drew 154 3 9 5 Tryz.underlying154 (by kernel_rfl) g cur.size (by have hg' : w.drew.heap[g]? = some (.cells cur 5 (0, 0)) := hg; simp [World.shape?, hg']) l h0 (by omega) (by omega) (fun j x hx => by rw [xw, Nat.zero_add]; exact hcs j x hx)
  go_enter Tryz.func63, Tryz.ntmps63
  go_wp2
  go_region_o
  all_goals (go_wp2; go_ret; exact ⟨rfl, zdh (Below.drew (Below.refl B w)) hB _⟩)
/-- A text appended to a row of bytes: the row ue where it is, or lies in a new block. -/
theorem zdi {P : Program} (w : World) (base : Nat) (t u ty e : TypeId) (i : TypeInfo) (ht : P.underlying t = some (.slice e)) (hu : P.underlying u = some .string) (hi : P.info? e = some i) (hz : i.zero = some (.int .u8 0)) (hsize : i.size = 1) (hby : i.bytes = 1)
    (v : Value) (n : Nat) (xs : List Value) (hown : w.ownsRow base e 1 v n xs) (s : ByteArray) (h63 : n + s.size ≤ 140737488355328) (hbase : base ≤ w.heap.size) :
    ∃ v' w', (Builtin.append_ #[t, u] ty #[v, .string s]).run P w = .ok v' w' ∧ w'.ownsRow base e 1 v' (n + s.size) (xs ++ Lib.strCells s) ∧ w.grownBy w' v.ownBlock ∧ (v'.ownBlock = v.ownBlock ∨ v'.ownBlock = some w.heap.size) := by
  obtain ⟨v', w', hr, h2, h3, h4⟩ := Lib.run_append_own_string (P := P) w base t u ty e i ht hu hi hz hsize hby v n xs hown s (by unfold maxLen; omega) h63 hbase
  refine ⟨v', w', hr, h2, h3, ?_⟩
  rcases hown.2 with ⟨rfl, rfl⟩ | ⟨g, cap, cur, rfl, hbg, hg, hnc, hcm, hcs, htake⟩
  · by_cases hm : s.size = 0
    · left; rw [h4.2 ⟨rfl, hm⟩]
    · right
      have hr2 := run_append_nil_string (P := P) w t u ty e i (.int .u8 0) ht hu hi hz s (by omega) (by omega) (by rw [hby]; omega)
      rw [hr] at hr2
      injection hr2 with e1 _
      rw [e1]; rfl
  · by_cases hroom : n + s.size ≤ cap
    · left
      have hr2 := Lib.run_append_room_string (P := P) w t u ty e i ht hu hi hsize g n cap cur hg s hroom (by simp at hcs; omega)
      rw [hr] at hr2
      injection hr2 with e1 _
      rw [e1]; rfl
    · right
      have hxl : xs.length = n := by simpa using hown.1
      have hr2 := Lib.run_append_grow_string (P := P) w t u ty e i (.int .u8 0) ht hu hi hz ⟨g, 0, none⟩ n cap xs (by rw [hsize]; simpa using hxl) (hown.cells (g := g) rfl) s (by omega) (by omega) (by rw [hby]; exact growslice_fits (by omega) (by omega))
      rw [hr] at hr2
      injection hr2 with e1 _
      rw [e1]; rfl
section
variable {P : Program} {w0 w : World} {L : List Ck} {l : List (Nat × Value)} {dst : Option Tmp} {ty : TypeId} {pos : String} {after : Array Edge} {guard : Option (Nat × Bool)} {v : Value}
theorem ap_move {w : World} {B : Nat} {e : TypeId} {v v' : Value} {n n' : Nat} {xs xs' : List Value} {d : Ck} (hd : d.holds B w) (hat : v'.ownBlock = v.ownBlock ∨ v'.ownBlock = some w.heap.size) (ha : Ap (.row e 1 v n xs) d) : Ap (.row e 1 v' n' xs') d := by
  have hl := Ck.lt hd
  have key : ∀ z, d.at_ = some z → v.ownBlock ≠ some z → v'.ownBlock ≠ some z := fun z hz hne e => by
    rcases hat with h | h
    · exact hne (h ▸ e)
    · rw [h] at e
      have := (hl z hz).2
      have e2 : w.heap.size = z := Option.some.inj e
      omega
  cases d with
  | obj g' o' => exact key g' rfl ha
  | row e' sz' v2 n2 xs2 =>
    by_cases hz : v2.ownBlock = none
    · by_cases hv : v'.ownBlock = none
      · exact .inl hv
      · exact .inr (fun e => hv (e.trans hz))
    · obtain ⟨z, hz⟩ := Option.ne_none_iff_exists'.1 hz
      right
      rw [hz]
      refine key z hz ?_
      rcases ha with ha | ha
      · rw [ha]; simp
      · exact fun e => ha (e.trans hz.symm)
  | bld b' bs' => exact ⟨ha.1, key b' rfl ha.2⟩
theorem zdj {t u : TypeId} {x y : Operand} (ht : P.underlying t = some (.slice BY)) (hu : P.underlying u = some .string) (hinfo : (P.info? BY).map (fun i => (i.zero, i.size, i.bytes)) = some (some (.int .u8 0), 1, 1)) (hM : Mg w0 w L) (k : Nat) {q : Nat} {xs : List Value} (hk : L[k]? = some (.row BY 1 v q xs)) (hx : ev l x = some v) {s : ByteArray} (hy : ev l y = some (.string s)) (hlen : q + s.size ≤ 140737488355328) :
    ∃ v' w', Does P l ⟨dst, .call ⟨.builtin .append, #[x, y], #[t, u]⟩, ty, pos, after, guard⟩ w v' w' ∧ Mg w0 w' (L.set k (.row BY 1 v' (q + s.size) (xs ++ Lib.strCells s))) := by
  obtain ⟨i, hi, hzz⟩ := Option.map_eq_some_iff.1 hinfo
  simp only [Prod.mk.injEq] at hzz
  obtain ⟨hz, hs, hb⟩ := hzz
  obtain ⟨v', w', hr, hown, hgr, hat⟩ := zdi (P := P) w w0.heap.size t u ty BY i ht hu hi hz hs hb v q xs (hM.has k hk) s hlen hM.bel.size
  refine ⟨v', w', fun ρ h => ?_, hM.turn k hk (by simp) hgr hown (fun d hd ha => ap_move (hM.all d hd) hat ha)⟩
  simp [execOp, resolve, invoke, builtin, h x _ hx, h y _ hy, hr]
end
end Go.Proofs.YtjkpfnghiooblaaGreatDoor.G
namespace Go.Proofs.YtjkpfnghiooblaaGreatDoor.G
open Go.RowKit
set_option linter.unusedVariables false
set_option linter.unusedSimpArgs false

/-- A number as it lies in a row of cells. -/
structure Nu where
  q : Q6
  o1 : Option Addr
  c1 : Nat
  o2 : Option Addr
  c2 : Nat
  o3 : Option Addr
  c3 : Nat
  o4 : Option Addr
  c4 : Nat
def Nu.nm (w : World) (y : Nu) : Prop := Nm w y.q y.o1 y.c1 y.o2 y.c2 y.o3 y.c3 y.o4 y.c4
theorem Nu.below {w w' : World} {y : Nu} (h : y.nm w) (hb : Below w.heap.size w w') : y.nm w' := ⟨h.s1.below hb, h.s2.below hb, h.s3.below hb, h.s4.below hb⟩
def Nu.val (y : Nu) : Value := xb y.q y.o1 y.c1 y.o2 y.c2 y.o3 y.c3 y.o4 y.c4
/-- A node, but for what is below it. -/
structure Nd where
  k : Int
  n : Int
  y : Nu
  s : ByteArray
  ro : Option Addr
  rc : Nat
  rl : List UInt8
  lo : Option Addr
  lc : Nat
/-- A datum as it lies in memory. -/
inductive Dt where
  | mk (d : Nd) (ts : List Dt)
def Dt.d : Dt → Nd
  | .mk d _ => d
def Dt.ts : Dt → List Dt
  | .mk _ ts => ts
def Nd.cells (d : Nd) (m : Nat) : List Value := [.int .i64 d.k, .int .i64 d.n, .bool d.y.q.b1, .slice d.y.o1 d.y.q.t1.length d.y.c1, .slice d.y.o2 d.y.q.q1.length d.y.c2, .bool d.y.q.b2, .slice d.y.o3 d.y.q.t2.length d.y.c3, .slice d.y.o4 d.y.q.q2.length d.y.c4, .string d.s, .slice d.ro d.rl.length d.rc, .slice d.lo m d.lc]
def Dt.cells (t : Dt) : List Value := t.d.cells t.ts.length
/-- A datum as it is. -/
inductive Tr where
  | mk (k n : Int) (q : Q6) (s : ByteArray) (rl : List UInt8) (ts : List Tr)
def Tr.k : Tr → Int
  | .mk k _ _ _ _ _ => k
def Tr.n : Tr → Int
  | .mk _ n _ _ _ _ => n
def Tr.q : Tr → Q6
  | .mk _ _ q _ _ _ => q
def Tr.s : Tr → ByteArray
  | .mk _ _ _ s _ _ => s
def Tr.rl : Tr → List UInt8
  | .mk _ _ _ _ r _ => r
def Tr.ts : Tr → List Tr
  | .mk _ _ _ _ _ ts => ts
mutual
def Dt.tr : Dt → Tr
  | .mk d ts => .mk d.k d.n d.y.q d.s d.rl (Dt.trs ts)
def Dt.trs : List Dt → List Tr
  | [] => []
  | t :: ts => t.tr :: Dt.trs ts
end
theorem Dt.trs_map : ∀ ts : List Dt, Dt.trs ts = ts.map Dt.tr
  | [] => by simp [Dt.trs]
  | t :: ts => by simp [Dt.trs, Dt.trs_map ts]
mutual
theorem Dt.indT {P : Dt → Prop} (h : ∀ d ts, (∀ t ∈ ts, P t) → P (.mk d ts)) : ∀ t, P t
  | .mk d ts => h d ts (Dt.indL h ts)
theorem Dt.indL {P : Dt → Prop} (h : ∀ d ts, (∀ t ∈ ts, P t) → P (.mk d ts)) : ∀ ts : List Dt, ∀ t ∈ ts, P t
  | [], t, ht => by cases ht
  | u :: us, t, ht => by
    rcases List.mem_cons.1 ht with e | e
    · rw [e]; exact Dt.indT h u
    · exact Dt.indL h us t e
end
mutual
theorem Tr.indT {P : Tr → Prop} (h : ∀ k n q s rl ts, (∀ t ∈ ts, P t) → P (.mk k n q s rl ts)) : ∀ t, P t
  | .mk k n q s rl ts => h k n q s rl ts (Tr.indL h ts)
theorem Tr.indL {P : Tr → Prop} (h : ∀ k n q s rl ts, (∀ t ∈ ts, P t) → P (.mk k n q s rl ts)) : ∀ ts : List Tr, ∀ t ∈ ts, P t
  | [], t, ht => by cases ht
  | u :: us, t, ht => by
    rcases List.mem_cons.1 ht with e | e
    · rw [e]; exact Tr.indT h u
    · exact Tr.indL h us t e
end
/-- These cells stand there. -/
def Here (w : World) (b o : Nat) (cs : List Value) : Prop := b < w.heap.size ∧ ∀ j v, cs[j]? = some v → w.cell? ⟨b, o + j, none⟩ = some v
theorem Here.below {w w' : World} {b o : Nat} {cs : List Value} (h : Here w b o cs) (hb : Below w.heap.size w w') : Here w' b o cs := ⟨Nat.lt_of_lt_of_le h.1 hb.size, fun j v hj => (hb.cell h.1).trans (h.2 j v hj)⟩
/-- A slice reads as these data, one behind the other. -/
def Rt (w : World) (lo : Option Addr) (ts : List Dt) : Prop := ts ≠ [] → ∃ b o, lo = some ⟨b, o, none⟩ ∧ ∀ i t, ts[i]? = some t → Here w b (o + i * 11) t.cells
theorem Rt.below {w w' : World} {lo : Option Addr} {ts : List Dt} (h : Rt w lo ts) (hb : Below w.heap.size w w') : Rt w' lo ts := fun hne => by
  obtain ⟨b, o, e, h2⟩ := h hne
  exact ⟨b, o, e, fun i t hi => (h2 i t hi).below hb⟩
structure NdOk (w : World) (d : Nd) : Prop where
  num : d.y.nm w
  len : LenQ d.y.q
  raw : Rb w d.ro d.rl
  rcap : d.rl.length ≤ d.rc
  rmax : d.rc ≤ 9223372036854775807
  k0 : -9223372036854775808 ≤ d.k
  k1 : d.k ≤ 9223372036854775807
  n0 : -9223372036854775808 ≤ d.n
  n1 : d.n ≤ 9223372036854775807
  smax : d.s.size ≤ 9223372036854775807
theorem NdOk.below {w w' : World} {d : Nd} (h : NdOk w d) (hb : Below w.heap.size w w') : NdOk w' d := { h with num := Nu.below h.num hb, raw := h.raw.below hb }
mutual
/-- A datum reads so. -/
def Dt.rd (w : World) : Dt → Prop
  | .mk d ts => NdOk w d ∧ ts.length ≤ d.lc ∧ d.lc ≤ 9223372036854775807 ∧ Rt w d.lo ts ∧ Dt.rds w ts
def Dt.rds (w : World) : List Dt → Prop
  | [] => True
  | t :: ts => t.rd w ∧ Dt.rds w ts
end
theorem Dt.rds_iff {w : World} : ∀ {ts : List Dt}, Dt.rds w ts ↔ ∀ t ∈ ts, t.rd w
  | [] => by simp [Dt.rds]
  | t :: ts => by simp [Dt.rds, Dt.rds_iff (ts := ts)]
theorem Dt.rd_iff {w : World} {d : Nd} {ts : List Dt} : (Dt.mk d ts).rd w ↔ NdOk w d ∧ ts.length ≤ d.lc ∧ d.lc ≤ 9223372036854775807 ∧ Rt w d.lo ts ∧ ∀ t ∈ ts, t.rd w := by
  rw [← Dt.rds_iff]; unfold Dt.rd; exact Iff.rfl
theorem Dt.keep {w w' : World} (hb : Below w.heap.size w w') : ∀ t : Dt, t.rd w → t.rd w' :=
  Dt.indT fun d ts ih h => by
    rw [Dt.rd_iff] at h ⊢
    exact ⟨h.1.below hb, h.2.1, h.2.2.1, h.2.2.2.1.below hb, fun t ht => ih t ht (h.2.2.2.2 t ht)⟩
theorem Dt.tr_mk (d : Nd) (ts : List Dt) : (Dt.mk d ts).tr = .mk d.k d.n d.y.q d.s d.rl (ts.map Dt.tr) := by rw [Dt.tr, Dt.trs_map]
/-! ### Sound data -/
mutual
/-- How many nodes are left, and whether it was within the limits. -/
def xi (dp left : Int) : Tr → Bool × Int
  | .mk k _ _ _ _ ts => if left - 1 < 0 ∨ 200 < dp then (false, left - 1) else qfb dp (decide (k = 8)) 0 (left - 1) ts
def qfb (dp : Int) (pr : Bool) (i : Nat) (left : Int) : List Tr → Bool × Int
  | [] => (true, left)
  | t :: ts => if (xi (if pr = true ∧ i = 1 then dp else dp + 1) left t).1 = true then qfb dp pr (i + 1) (xi (if pr = true ∧ i = 1 then dp else dp + 1) left t).2 ts else (false, (xi (if pr = true ∧ i = 1 then dp else dp + 1) left t).2)
end
mutual
/-- Is each node so? -/
def qna (p : Tr → Bool) : Tr → Bool
  | .mk k n q s rl ts => p (.mk k n q s rl ts) && qsh p ts
def qsh (p : Tr → Bool) : List Tr → Bool
  | [] => true
  | t :: ts => qna p t && qsh p ts
end
mutual
end
theorem qyj : ∀ t : Tr, ∀ dp left : Int, (xi dp left t).1 = true → 0 ≤ (xi dp left t).2 := by
  refine Tr.indT fun k n q s rl ts ih dp left h => ?_
  rw [xi] at h ⊢
  by_cases hc : left - 1 < 0 ∨ 200 < dp
  · rw [if_pos hc] at h; cases h
  · rw [if_neg hc] at h ⊢
    have hl : 0 ≤ left - 1 := by omega
    generalize left - 1 = m at h hl ⊢
    generalize decide (k = 8) = pr at h ⊢
    have key : ∀ (us : List Tr), (∀ t ∈ us, ∀ dp left : Int, (xi dp left t).1 = true → 0 ≤ (xi dp left t).2) → ∀ (i : Nat) (m : Int), 0 ≤ m → (qfb dp pr i m us).1 = true → 0 ≤ (qfb dp pr i m us).2 := by
      intro us
      induction us with
      | nil => intro _ i m hm _; exact hm
      | cons t us ih2 =>
        intro hu i m hm h
        rw [qfb] at h ⊢
        by_cases ht : (xi (if pr = true ∧ i = 1 then dp else dp + 1) m t).1 = true
        · rw [if_pos ht] at h ⊢
          exact ih2 (fun x hx => hu x (List.mem_cons_of_mem _ hx)) _ _ (hu t List.mem_cons_self _ _ ht) h
        · rw [if_neg ht] at h; cases h
    exact key ts ih 0 m hl h
/-- Within the limits, and sound at each node. -/
def qcf (p : Tr → Bool) (t : Tr) : Bool := (xi 1 20000 t).1 && qna p t
end Go.Proofs.YtjkpfnghiooblaaGreatDoor.G
namespace Go.Proofs.YtjkpfnghiooblaaGreatDoor.G
open Go.RowKit
set_option linter.unusedVariables false
set_option linter.unusedSimpArgs false

section
variable {P : Program} {w0 w : World} {L : List Ck} {l : List (Nat × Value)} {dst : Option Tmp} {ty : TypeId} {pos : String} {after : Array Edge} {guard : Option (Nat × Bool)} {v : Value}
theorem vb {x : Operand} {a : Addr} (hx : ev l x = some (.pointer (some a))) : Does P l ⟨dst, .nilCheck x, ty, pos, after, guard⟩ w (.pointer (some a)) w := fun ρ h => by
  simp only [execOp, h x _ hx, Sem.run_pure]
theorem qje (hM : Mg w0 w L) {b o o' j : Nat} {cs : List Value} (hH : Here w0 b o cs) {t : TypeId} (ht : Is1 P t) {x : Operand} (hx : ev l x = some (.pointer (some ⟨b, o', none⟩))) (ho : o' = o + j) (hv : cs[j]? = some v) : Does P l ⟨dst, .load t x, ty, pos, after, guard⟩ w v w := by
  subst ho
  exact xv hx (kq ht ((hM.bel.cell hH.1).trans (hH.2 j v hv)))
theorem zyi (hM : Mg w0 w L) {b o n : Nat} {cs : List Value} (hH : Here w0 b o cs) {t : TypeId} (ht : IsS P t n) {x : Operand} (hx : ev l x = some (.pointer (some ⟨b, o, none⟩))) (hl : cs.length = n) : Does P l ⟨dst, .load t x, ty, pos, after, guard⟩ w (.agg cs.toArray) w :=
  xv hx (yj ht cs hl (fun j v hj => (hM.bel.cell hH.1).trans (hH.2 j v hj)))
theorem qaa {t e : TypeId} {sz : Nat} (hu : P.underlying t = some (.slice e)) (he : (P.info? e).map (·.size) = some sz) {x i : Operand} {so : Option Addr} {g off n c k : Nat} {z : Int} (hx : ev l x = some (.slice so n c)) (hi : ev l i = some (.int .i64 z)) (hz : z = (k : Nat)) (hso : so = some ⟨g, off, none⟩) (hk : k < n) :
    Does P l ⟨dst, .indexAddr t x i, ty, pos, after, guard⟩ w (.pointer (some ⟨g, off + k * sz, none⟩)) w := by
  subst hz hso
  exact xd (l := l) (dst := dst) (ty := ty) (pos := pos) (after := after) (guard := guard) (w := w) hx hi (qrd hu he hk)
end
/-- A child of a node. -/
theorem kid {w : World} {d : Nd} {ts : List Dt} (h : (Dt.mk d ts).rd w) {i : Nat} (hi : i < ts.length) : ∃ t b o, ts[i]? = some t ∧ t ∈ ts ∧ t.rd w ∧ d.lo = some ⟨b, o, none⟩ ∧ Here w b (o + i * 11) t.cells := by
  rw [Dt.rd_iff] at h
  have hne : ts ≠ [] := fun e => by subst e; simp at hi
  obtain ⟨b, o, e, h2⟩ := h.2.2.2.1 hne
  have ht := List.getElem?_eq_getElem hi
  exact ⟨ts[i], b, o, ht, List.getElem_mem hi, h.2.2.2.2 _ (List.getElem_mem hi), e, h2 i _ ht⟩
theorem qsb {ts : List Dt} {i : Nat} {t : Dt} (h : ts[i]? = some t) : (ts.map Dt.tr).drop i = t.tr :: (ts.map Dt.tr).drop (i + 1) := by
  obtain ⟨hi, rfl⟩ := List.getElem?_eq_some_iff.1 h
  rw [List.drop_eq_getElem_cons (by simpa using hi)]
  simp
theorem qvi {ts : List Dt} {i : Nat} (h : ¬ i < ts.length) : (ts.map Dt.tr).drop i = [] := List.drop_of_length_le (by simp; omega)
theorem zjd : ∀ t : Tr, ∀ dp left : Int, (xi dp left t).2 ≤ left := by
  refine Tr.indT fun k n q s rl ts ih dp left => ?_
  rw [xi]
  split
  · show left - 1 ≤ left; omega
  · have key : ∀ (us : List Tr), (∀ t ∈ us, ∀ dp left : Int, (xi dp left t).2 ≤ left) → ∀ (i : Nat) (m : Int), (qfb dp (decide (k = 8)) i m us).2 ≤ m := by
      intro us
      induction us with
      | nil => intro _ i m; exact Int.le_refl _
      | cons t us ih2 =>
        intro hu i m
        rw [qfb]
        generalize (if decide (k = 8) = true ∧ i = 1 then dp else dp + 1) = D
        have h1 := hu t List.mem_cons_self D m
        split
        · exact Int.le_trans (ih2 (fun x hx => hu x (List.mem_cons_of_mem _ hx)) _ _) h1
        · exact h1
    have := key ts ih 0 (left - 1)
    omega
theorem qza {dp m D : Int} {pr : Bool} {i : Nat} {ts : List Dt} {t : Dt} (hi : ts[i]? = some t) (hD : (if pr = true ∧ i = 1 then dp else dp + 1) = D) (h : (xi D m t.tr).1 = true) : qfb dp pr i m ((ts.map Dt.tr).drop i) = qfb dp pr (i + 1) (xi D m t.tr).2 ((ts.map Dt.tr).drop (i + 1)) := by
  rw [qsb hi, qfb, hD, if_pos h]
theorem qlb {dp m D : Int} {pr : Bool} {i : Nat} {ts : List Dt} {t : Dt} (hi : ts[i]? = some t) (hD : (if pr = true ∧ i = 1 then dp else dp + 1) = D) (h : (xi D m t.tr).1 = false) : qfb dp pr i m ((ts.map Dt.tr).drop i) = (false, (xi D m t.tr).2) := by
  rw [qsb hi, qfb, hD, if_neg (by rw [h]; decide)]
theorem qni {dp left : Int} {d : Nd} {ts : List Dt} (h1 : ¬ left - 1 < 0) (h2 : ¬ 200 < dp) : xi dp left (Dt.mk d ts).tr = qfb dp (decide (d.k = 8)) 0 (left - 1) ((ts.map Dt.tr).drop 0) := by
  rw [Dt.tr_mk, xi, if_neg (by omega), List.drop_zero]
theorem znf {dp left : Int} {d : Nd} {ts : List Dt} (h : left - 1 < 0 ∨ 200 < dp) : xi dp left (Dt.mk d ts).tr = (false, left - 1) := by
  rw [Dt.tr_mk, xi, if_pos h]
theorem qzb {p : Tr → Bool} {d : Nd} {ts : List Dt} : qna p (Dt.mk d ts).tr = (p (Dt.mk d ts).tr && qsh p ((ts.map Dt.tr).drop 0)) := by
  rw [Dt.tr_mk, qna, List.drop_zero]
theorem zng {p : Tr → Bool} {i : Nat} {ts : List Dt} {t : Dt} (hi : ts[i]? = some t) : qsh p ((ts.map Dt.tr).drop i) = (qna p t.tr && qsh p ((ts.map Dt.tr).drop (i + 1))) := by
  rw [qsb hi, qsh]
/-- A fraction without words. -/
def qzc (b : Bool) (m m' : Nat) : Bool := !b && (decide (m = 0) && decide (m' = 0))
/-- Nothing beside the kind. -/
def ju (n : Int) (b1 : Bool) (m1 m2 : Nat) (b2 : Bool) (m3 m4 : Nat) (s : ByteArray) (mr ml : Nat) : Bool := decide (n = 0) && (qzc b1 m1 m2 && (qzc b2 m3 m4 && (decide (s = ⟨#[]⟩) && (decide (mr = 0) && decide (ml = 0)))))
def qzd (n : Int) : Bool := decide (0 ≤ n ∧ n ≤ 1114111 ∧ (n < 55296 ∨ 57343 < n))
/-- A text of characters. -/
def okS (s : ByteArray) : Bool := Lib.validD s.data.toList
/-- Sound by its kind. -/
def ja (k n : Int) (q : Q6) (s : ByteArray) (mr ml : Nat) : Bool :=
  if k = 1 ∨ k = 10 then ju n q.b1 q.t1.length q.q1.length q.b2 q.t2.length q.q2.length s mr ml
  else if k = 2 then decide (n = 0 ∨ n = 1) && ju 0 q.b1 q.t1.length q.q1.length q.b2 q.t2.length q.q2.length s mr ml
  else if k = 3 then jk q && ju n false 0 0 false 0 0 s mr ml
  else if k = 4 then qzd n && ju 0 q.b1 q.t1.length q.q1.length q.b2 q.t2.length q.q2.length s mr ml
  else if k = 5 ∨ k = 6 ∨ k = 11 then okS s && ju n q.b1 q.t1.length q.q1.length q.b2 q.t2.length q.q2.length ⟨#[]⟩ mr ml
  else if k = 7 then ju n q.b1 q.t1.length q.q1.length q.b2 q.t2.length q.q2.length s 0 ml
  else if k = 8 then decide (ml = 2) && ju n q.b1 q.t1.length q.q1.length q.b2 q.t2.length q.q2.length s mr 0
  else if k = 9 then ju n q.b1 q.t1.length q.q1.length q.b2 q.t2.length q.q2.length s mr 0
  else false
def kj : Tr → Bool
  | .mk k n q s rl ts => ja k n q s rl.length ts.length
theorem qlc {d : Nd} {ts : List Dt} : kj (Dt.mk d ts).tr = ja d.k d.n d.y.q d.s d.rl.length ts.length := by
  rw [Dt.tr_mk, kj, List.length_map]
end Go.Proofs.YtjkpfnghiooblaaGreatDoor.G
namespace Go.Proofs.YtjkpfnghiooblaaGreatDoor.G
open Go.RowKit
set_option linter.unusedVariables false
set_option linter.unusedSimpArgs false
set_option maxRecDepth 100000
theorem TwA_is1_31 : Is1 Tryz.prog 31 := ⟨⟨_, Tryz.underlying31, rfl⟩, by kernel_rfl⟩
theorem TwA_fld_106_1 : FieldAt Tryz.prog 106 1 1 := ⟨_, _, Tryz.underlying106, rfl, rfl, by kernel_rfl⟩
theorem toW {w0 w : World} {a b : Ck} {X T : List Ck} (h : Mg w0 w (X ++ a :: b :: T)) : Mg w0 w (a :: b :: (X ++ T)) := h.perm (List.perm_middle.trans (.cons _ List.perm_middle))
theorem fromW {w0 w : World} {a b : Ck} {X T : List Ck} (h : Mg w0 w (a :: b :: (X ++ T))) : Mg w0 w (X ++ a :: b :: T) := h.perm ((List.perm_middle.trans (.cons _ List.perm_middle)).symm)
theorem zqe (s : ByteArray) : Lib.strCells s = Lib.byteCells s.data.toList := rfl
theorem row_str {bs : List UInt8} {s : ByteArray} : bs.length + s.size = (bs ++ s.data.toList).length := by rw [List.length_append, qmf]
theorem zyj {w0 w : World} {gw : Nat} {p v : Value} {pl : Bool} {bs : List UInt8} {T : List Ck} (hp : p = .pointer none ∨ p = .pointer (some ⟨gw, 0, none⟩)) (hM0 : Mg w0 w (.obj gw (.cells #[p, v, .bool pl] 149) :: .row BY 1 v bs.length (Lib.byteCells bs) :: T)) {s : ByteArray} (hroom : bs.length + s.size ≤ 140737488355328) : Calls Tryz.prog 136 #[.pointer (some ⟨gw, 0, none⟩), .string s] w fun e w' => e = .returned (.tuple #[.int .i64 ((s.size : Nat) : Int), .nilIface]) ∧ ∃ v', Mg w0 w' (.obj gw (.cells #[.pointer (some ⟨gw, 0, none⟩), v', .bool pl] 149) :: .row BY 1 v' (bs ++ s.data.toList).length (Lib.byteCells (bs ++ s.data.toList)) :: T) := by
 have hM : Mg w0 w (.obj gw (.cells #[p, v, .bool pl] 149) :: .row BY 1 (v) bs.length ((Lib.byteCells bs)) :: T) := hM0
 refine qz (l := [(0, .pointer (some ⟨gw, 0, none⟩)), (1, .string s)]) Tryz.func136 rfl Tryz.ntmps136 rfl rfl ?_
 intro Q hret hnorm hP a hA
 refine wsk fun K1 hK1 => wrl ?_
 iterate 2 refine sdo hA (qa rfl) fun a hA => ?_
 refine qb (hK1 _ _ (wsk fun K2 hK2 => wrl (sdo hA (qe rfl) fun a hA => ?_)))
 refine qj hA rfl rfl rfl (qf rfl rfl (fun w => by kernel_rfl)) (cc_any hp hM) ?_
 rintro _ w3 ⟨rfl, hMc⟩
 replace hM : Mg w0 w3 (.obj gw (.cells #[.pointer (some ⟨gw, 0, none⟩), v, .bool pl] 149) :: .row BY 1 (v) bs.length ((Lib.byteCells bs)) :: T) := hMc
 refine ⟨_, rfl, ?_⟩
 intro a hA
 refine qb (hK2 _ _ (wsk fun K4 hK4 => wrl ?_))
 iterate 2 refine sdo hA (qe rfl) fun a hA => ?_
 refine sdo hA (vb rfl) fun a hA => ?_
 refine sdo (v := .pointer (some ⟨gw, 1, none⟩)) hA (qh TwA_fld_106_1 rfl rfl) fun a hA => ?_
 refine sdo hA (zm hM TwA_is1_31 rfl 0 rfl rfl) fun a hA => ?_
 refine sdo hA (qe rfl) fun a hA => ?_
 refine zwa (k := 1) (q := bs.length) (m := s.size) (xs := Lib.byteCells bs) (news := Lib.strCells s) (L' := fun v5 => (.obj gw (.cells #[.pointer (some ⟨gw, 0, none⟩), v, .bool pl] 149) :: .row BY 1 (v5) ((bs.length + s.size)) ((Lib.byteCells bs ++ Lib.strCells s)) :: T)) hA rfl rfl rfl (zdj Tryz.underlying31 Tryz.underlying9 (by kernel_rfl) hM 1 rfl rfl rfl hroom) (fun _ => rfl) ?_
 intro v5 w6 hM a hA
 obtain ⟨so7, ca8, rfl⟩ := qrc (hM.has 1 rfl)
 refine sdo hA (vb rfl) fun a hA => ?_
 refine sdo (v := .pointer (some ⟨gw, 1, none⟩)) hA (qh TwA_fld_106_1 rfl rfl) fun a hA => ?_
 refine jl (us := [.pointer (some ⟨gw, 0, none⟩), .slice so7 (bs.length + s.size) ca8, .bool pl]) (L' := (.obj gw (.cells #[.pointer (some ⟨gw, 0, none⟩), .slice so7 (bs.length + s.size) ca8, .bool pl] 149) :: .row BY 1 (.slice so7 (bs.length + s.size) ca8) ((bs.length + s.size)) ((Lib.byteCells bs ++ Lib.strCells s)) :: T)) hA hM rfl rfl (zy rfl rfl rfl (by kernel_rfl) hM 0 rfl rfl rfl) 0 rfl rfl rfl ?_
 intro w9 hM
 refine qb (hK4 _ _ (wsk fun K10 hK10 => wrl (sdo hA (qe rfl) fun a hA => ?_)))
 refine sdo (v := .int .i64 (((s.size : Nat) : Int))) hA (vh rfl (zmd Tryz.underlying9)) fun a hA => ?_
 iterate 2 refine sdo hA (qa rfl) fun a hA => ?_
 refine qb (hK10 _ _ (wp_ret (hret _ _ (en2 hA rfl (qk rfl) (qk rfl) ?_))))
 refine ⟨rfl, .slice so7 (bs.length + s.size) ca8, ?_⟩
 rw [← row_str, Lib.byteCells_append, ← zqe]
 exact hM
end Go.Proofs.YtjkpfnghiooblaaGreatDoor.G
namespace Go.Proofs.YtjkpfnghiooblaaGreatDoor.G
open Go.RowKit
set_option linter.unusedVariables false
set_option linter.unusedSimpArgs false
set_option maxRecDepth 100000
theorem TrA_is1_3 : Is1 Tryz.prog 3 := ⟨⟨_, Tryz.underlying3, rfl⟩, by kernel_rfl⟩
theorem TrA_is1_44 : Is1 Tryz.prog 44 := ⟨⟨_, Tryz.underlying44, rfl⟩, by kernel_rfl⟩
theorem TrA_fld_49_0 : FieldAt Tryz.prog 49 0 0 := ⟨_, _, Tryz.underlying49, rfl, rfl, by kernel_rfl⟩
theorem TrA_fld_49_5 : FieldAt Tryz.prog 49 5 10 := ⟨_, _, Tryz.underlying49, rfl, rfl, by kernel_rfl⟩
/-- The walk of the size of a datum. -/
def FitsAt (t : Dt) : Prop := ∀ {w0 w : World} {b o gl : Nat} {left dp : Int} {T : List Ck}, t.rd w0 → Here w0 b o t.cells → Mg w0 w (.obj gl (.cells #[.int .i64 left] 3) :: T) → 0 ≤ left → left ≤ 20000 → 0 ≤ dp → dp ≤ 201 → Calls Tryz.prog 177 #[.pointer (some ⟨b, o, none⟩), .int .i64 dp, .pointer (some ⟨gl, 0, none⟩)] w fun e w' => e = .returned (.bool (xi dp left t.tr).1) ∧ Mg w0 w' (.obj gl (.cells #[.int .i64 (xi dp left t.tr).2] 3) :: T)
theorem zje : ∀ t : Dt, FitsAt t := Dt.indT fun d ts ih => by
 intro w0 w b o gl left dp T hrd hH hM0 hl0 hl1 hd0 hd1
 replace hH : Here w0 b o (d.cells ts.length) := hH
 have hok := (Dt.rd_iff.1 hrd)
 have hk0 := hok.1.k0
 have hk1 := hok.1.k1
 have hlen : ts.length ≤ 9223372036854775807 := Nat.le_trans hok.2.1 hok.2.2.1
 have hM : Mg w0 w (.obj gl (.cells #[.int .i64 left] 3) :: T) := hM0
 refine qz (l := [(0, .pointer (some ⟨b, o, none⟩)), (1, .int .i64 dp), (2, .pointer (some ⟨gl, 0, none⟩))]) Tryz.func177 rfl Tryz.ntmps177 rfl rfl ?_
 intro Q hret hnorm hP a hA
 refine wsk fun K1 hK1 => wrl (sdo hA (qa rfl) fun a hA => ?_)
 refine qb (hK1 _ _ (wsk fun K2 hK2 => wrl (sdo hA (qe rfl) fun a hA => ?_)))
 refine sdo hA (vb rfl) fun a hA => ?_
 refine sdo hA (zm hM TrA_is1_3 rfl 0 rfl rfl) fun a hA => ?_
 refine sdo (v := .int .i64 (left - 1)) hA (qg rfl rfl (qhj (yb (by omega) (by omega)))) fun a hA => ?_
 refine sdo hA (vb rfl) fun a hA => ?_
 refine jl (us := [.int .i64 (left - 1)]) (L' := (.obj gl (.cells #[.int .i64 (left - 1)] 3) :: T)) hA hM rfl rfl (zy rfl rfl rfl (by kernel_rfl) hM 0 rfl rfl rfl) 0 rfl rfl rfl ?_
 intro w3 hM
 refine qb (hK2 _ _ (wsk fun K4 hK4 => wsk fun K5 hK5 => wrl (sdo hA (qe rfl) fun a hA => ?_)))
 refine sdo hA (vb rfl) fun a hA => ?_
 refine sdo hA (zm hM TrA_is1_3 rfl 0 rfl rfl) fun a hA => ?_
 rcases tf (decide (left - 1 < 0)) with hb6 | hb6
 ·
  have hb6' := of_decide_eq_true hb6
  refine sdo (v := .bool true) hA (qg rfl rfl (fun w => (zr w).trans (by rw [hb6]))) fun a hA => ?_
  refine sdo hA (qe rfl) fun a hA => ?_
  iterate 2 refine qy hA rfl rfl rfl fun a hA => ?_
  refine sdo (v := .bool true) hA (qi rfl rfl rfl rfl) fun a hA => ?_
  refine qb (hK5 _ _ (wp_cond_true (hA.ev rfl) ?_))
  refine wsk fun K7 hK7 => wrl (sdo hA (qa rfl) fun a hA => ?_)
  refine qb (hK7 _ _ (wp_ret (hret _ _ (en1 hA rfl (qk rfl) ?_))))
  rw [znf (by omega)]
  exact ⟨rfl, hM⟩
 ·
  have hb6' := of_decide_eq_false hb6
  refine sdo (v := .bool false) hA (qg rfl rfl (fun w => (zr w).trans (by rw [hb6]))) fun a hA => ?_
  iterate 2 refine sdo hA (qe rfl) fun a hA => ?_
  rcases tf (decide (200 < dp)) with hb8 | hb8
  ·
   have hb8' := of_decide_eq_true hb8
   refine sdo (v := .bool true) hA (qg rfl rfl (fun w => (jt w).trans (by rw [hb8]))) fun a hA => ?_
   refine sdo (v := .bool true) hA (qi rfl rfl rfl rfl) fun a hA => ?_
   refine qb (hK5 _ _ (wp_cond_true (hA.ev rfl) ?_))
   refine wsk fun K9 hK9 => wrl (sdo hA (qa rfl) fun a hA => ?_)
   refine qb (hK9 _ _ (wp_ret (hret _ _ (en1 hA rfl (qk rfl) ?_))))
   rw [znf (by omega)]
   exact ⟨rfl, hM⟩
  ·
   have hb8' := of_decide_eq_false hb8
   refine sdo (v := .bool false) hA (qg rfl rfl (fun w => (jt w).trans (by rw [hb8]))) fun a hA => ?_
   refine sdo (v := .bool false) hA (qi rfl rfl rfl rfl) fun a hA => ?_
   refine qb (hK5 _ _ (wp_cond_false (hA.ev rfl) ?_))
   refine wp_skip (hK4 _ _ (wsk fun K10 hK10 => wsk fun K11 hK11 => wrl (sdo hA (qe rfl) fun a hA => ?_)))
   refine sdo hA (vb rfl) fun a hA => ?_
   refine sdo (v := .pointer (some ⟨b, o + 10, none⟩)) hA (qh TrA_fld_49_5 rfl rfl) fun a hA => ?_
   refine sdo hA (qje (j := 10) hM hH TrA_is1_44 rfl rfl rfl) fun a hA => ?_
   refine sdo hA (zj Tryz.underlying44 rfl) fun a hA => ?_
   refine sdo hA (qe rfl) fun a hA => ?_
   refine qb (hK11 _ _ (wp_block (jw (fun m_ a w1 => ∃ (i : Nat) (m : Int), m_ = 1 + (ts.length - i) ∧ (i ≤ ts.length ∧ qfb dp (decide (d.k = 8)) 0 (left - 1) ((ts.map Dt.tr).drop 0) = qfb dp (decide (d.k = 8)) i m ((ts.map Dt.tr).drop i) ∧ 0 ≤ m ∧ m ≤ 20000) ∧ Sl a 53 [(0, .pointer (some ⟨b, o, none⟩)), (1, .int .i64 dp), (2, .pointer (some ⟨gl, 0, none⟩)), (9, .pointer (some ⟨gl, 0, none⟩)), (10, .pointer (some ⟨gl, 0, none⟩)), (11, .int .i64 left), (12, .int .i64 (left - 1)), (13, .pointer (some ⟨gl, 0, none⟩)), (14, .pointer (some ⟨gl, 0, none⟩)), (15, .pointer (some ⟨gl, 0, none⟩)), (16, .int .i64 (left - 1)), (17, .bool false), (18, .bool false), (19, .int .i64 dp), (20, .bool false), (21, .bool false), (22, .pointer (some ⟨b, o, none⟩)), (23, .pointer (some ⟨b, o, none⟩)), (24, .pointer (some ⟨b, o + 10, none⟩)), (25, .slice d.lo ts.length d.lc), (26, .int .i64 (((ts.length : Nat) : Int))), (27, .int .i64 (((i : Nat) : Int)))] ∧ Mg w0 w1 (.obj gl (.cells #[.int .i64 m] 3) :: T)) _ ⟨0, left - 1, rfl, ⟨Nat.zero_le _, rfl, by omega, by omega⟩, hA.keep _ ⟨rfl, rfl, rfl, rfl, rfl, rfl, rfl, rfl, rfl, rfl, rfl, rfl, rfl, rfl, rfl, rfl, rfl, rfl, rfl, rfl, rfl, rfl, trivial⟩, hM⟩ ?_)))
   clear hM hA
   rintro m_ a w12 ⟨i, m, rfl, hinv14, hA, hM⟩ K13 hK13
   obtain ⟨hi0, hin9, hm0, hm1⟩ := hinv14
   refine wsk fun K15 hK15 => wrl ?_
   rcases tf (decide (((i : Nat) : Int) < ((ts.length : Nat) : Int))) with hb16 | hb16
   ·
    have hb16' := of_decide_eq_true hb16
    refine sdo (v := .bool true) hA (qg rfl rfl (fun w => (zr w).trans (by rw [hb16]))) fun a hA => ?_
    refine qb (hK15 _ _ (wsk fun K17 hK17 => wp_cond_true (hA.ev rfl) ?_))
    refine wp_skip (hK17 _ _ (wsk fun K18 hK18 => wp_block (wsk fun K19 hK19 => wrl (sdo hA (qe rfl) fun a hA => ?_))))
    refine sdo hA (qa rfl) fun a hA => ?_
    refine qb (hK19 _ _ (wsk fun K20 hK20 => wrl (sdo hA (qe rfl) fun a hA => ?_)))
    refine sdo (v := .int .i64 (dp + 1)) hA (qg rfl rfl (yd (yb (by omega) (by omega)))) fun a hA => ?_
    refine sdo hA (qa rfl) fun a hA => ?_
    refine qb (hK20 _ _ (wsk fun K21 hK21 => wsk fun K22 hK22 => wrl (sdo hA (qe rfl) fun a hA => ?_)))
    refine sdo hA (vb rfl) fun a hA => ?_
    refine sdo (v := .pointer (some ⟨b, o, none⟩)) hA (qh TrA_fld_49_0 rfl rfl) fun a hA => ?_
    refine sdo hA (qje (j := 0) hM hH TrA_is1_3 rfl rfl rfl) fun a hA => ?_
    rcases tf ((d.k == 8)) with hb23 | hb23
    ·
     have hb23' := eq_of_beq hb23
     refine sdo (v := .bool true) hA (qg rfl rfl (fun w => (ze w).trans (by rw [hb23]))) fun a hA => ?_
     iterate 2 refine sdo hA (qe rfl) fun a hA => ?_
     rcases tf ((((i : Nat) : Int) == 1)) with hb24 | hb24
     ·
      have hb24' := eq_of_beq hb24
      refine sdo (v := .bool true) hA (qg rfl rfl (fun w => (ze w).trans (by rw [hb24]))) fun a hA => ?_
      refine sdo (v := .bool true) hA (qi rfl rfl rfl rfl) fun a hA => ?_
      refine qb (hK22 _ _ (wp_cond_true (hA.ev rfl) ?_))
      refine wrl (sdo hA (qe rfl) fun a hA => ?_)
      refine sdo hA (qa rfl) fun a hA => ?_
      refine qb (hK21 _ _ (wsk fun K25 hK25 => ?_))
      obtain ⟨t1, b1, o1, hi1, hm1, hr1, hl1, hH1⟩ := kid hrd (i := i) (by omega)
      have hD : (if decide (d.k = 8) = true ∧ i = 1 then dp else dp + 1) = dp := if_pos ⟨decide_eq_true hb23', by omega⟩
      refine wrl (sdo hA (qe rfl) fun a hA => ?_)
      refine sdo hA (vb rfl) fun a hA => ?_
      refine sdo (v := .pointer (some ⟨b, o + 10, none⟩)) hA (qh TrA_fld_49_5 rfl rfl) fun a hA => ?_
      refine sdo hA (qje (j := 10) hM hH TrA_is1_44 rfl rfl rfl) fun a hA => ?_
      refine sdo hA (qe rfl) fun a hA => ?_
      refine sdo (v := .pointer (some ⟨b1, o1 + i * 11, none⟩)) hA (qaa (k := i) Tryz.underlying44 (by kernel_rfl) rfl rfl rfl hl1 (by omega)) fun a hA => ?_
      iterate 2 refine sdo hA (qe rfl) fun a hA => ?_
      refine qj hA rfl rfl rfl (qf rfl rfl (fun w => by kernel_rfl)) (ih t1 hm1 hr1 hH1 hM (by omega) (by omega) (by omega) (by omega)) ?_
      rintro _ w27 ⟨rfl, hM26⟩
      replace hM : Mg w0 w27 (.obj gl (.cells #[.int .i64 ((xi (dp) m t1.tr).2)] 3) :: T) := hM26
      refine ⟨_, rfl, ?_⟩
      intro a hA
      refine sdo (v := .bool (!((xi (dp) m t1.tr).1))) hA (zk rfl zq) fun a hA => ?_
      refine qb (hK25 _ _ ?_)
      refine wp_cond_split (t := !((xi (dp) m t1.tr).1)) (hA.ev rfl) (fun hc28 => ?_) (fun hc28 => ?_)
      ·
       refine wsk fun K29 hK29 => wrl (sdo hA (qa rfl) fun a hA => ?_)
       refine qb (hK29 _ _ (wp_ret (hret _ _ (en1 hA rfl (qk rfl) ?_))))
       have hr9 : (xi (dp) m t1.tr).1 = false := by simpa using hc28
       have e9 : xi dp left (Dt.mk d ts).tr = (false, (xi (dp) m t1.tr).2) := by rw [qni (by omega) (by omega), hin9, qlb hi1 hD hr9]
       rw [e9]
       exact ⟨rfl, hM⟩
      ·
       refine wp_skip (hK18 _ _ (wrl (sdo (v := .int .i64 (((i + 1 : Nat) : Int))) hA (qg rfl rfl (fun w => (yd (yb (by omega) (by omega)) w).trans (by rw [show (((i : Nat) : Int) + 1 : Int) = ((i + 1 : Nat) : Int) from by omega]))) fun a hA => ?_)))
       refine sdo hA (qe rfl) fun a hA => ?_
       refine qb ?_
       have hr9 : (xi (dp) m t1.tr).1 = true := by simpa using hc28
       have hp9 := qyj t1.tr _ _ hr9
       have hl9 := zjd t1.tr (dp) m
       refine hK13 _ _ _ (by omega) ⟨i + 1, (xi (dp) m t1.tr).2, rfl, ⟨by omega, by rw [hin9, qza hi1 hD hr9], by omega, by omega⟩, hA.keep _ ⟨rfl, rfl, rfl, rfl, rfl, rfl, rfl, rfl, rfl, rfl, rfl, rfl, rfl, rfl, rfl, rfl, rfl, rfl, rfl, rfl, rfl, rfl, trivial⟩, hM⟩
     ·
      have hb24' := ne_of_beq_false hb24
      refine sdo (v := .bool false) hA (qg rfl rfl (fun w => (ze w).trans (by rw [hb24]))) fun a hA => ?_
      refine sdo (v := .bool false) hA (qi rfl rfl rfl rfl) fun a hA => ?_
      refine qb (hK22 _ _ (wp_cond_false (hA.ev rfl) ?_))
      refine wp_skip (hK21 _ _ (wsk fun K30 hK30 => ?_))
      obtain ⟨t1, b1, o1, hi1, hm1, hr1, hl1, hH1⟩ := kid hrd (i := i) (by omega)
      have hD : (if decide (d.k = 8) = true ∧ i = 1 then dp else dp + 1) = dp + 1 := if_neg (fun e => by omega)
      refine wrl (sdo hA (qe rfl) fun a hA => ?_)
      refine sdo hA (vb rfl) fun a hA => ?_
      refine sdo (v := .pointer (some ⟨b, o + 10, none⟩)) hA (qh TrA_fld_49_5 rfl rfl) fun a hA => ?_
      refine sdo hA (qje (j := 10) hM hH TrA_is1_44 rfl rfl rfl) fun a hA => ?_
      refine sdo hA (qe rfl) fun a hA => ?_
      refine sdo (v := .pointer (some ⟨b1, o1 + i * 11, none⟩)) hA (qaa (k := i) Tryz.underlying44 (by kernel_rfl) rfl rfl rfl hl1 (by omega)) fun a hA => ?_
      iterate 2 refine sdo hA (qe rfl) fun a hA => ?_
      refine qj hA rfl rfl rfl (qf rfl rfl (fun w => by kernel_rfl)) (ih t1 hm1 hr1 hH1 hM (by omega) (by omega) (by omega) (by omega)) ?_
      rintro _ w32 ⟨rfl, hM31⟩
      replace hM : Mg w0 w32 (.obj gl (.cells #[.int .i64 ((xi (dp + 1) m t1.tr).2)] 3) :: T) := hM31
      refine ⟨_, rfl, ?_⟩
      intro a hA
      refine sdo (v := .bool (!((xi (dp + 1) m t1.tr).1))) hA (zk rfl zq) fun a hA => ?_
      refine qb (hK30 _ _ ?_)
      refine wp_cond_split (t := !((xi (dp + 1) m t1.tr).1)) (hA.ev rfl) (fun hc33 => ?_) (fun hc33 => ?_)
      ·
       refine wsk fun K34 hK34 => wrl (sdo hA (qa rfl) fun a hA => ?_)
       refine qb (hK34 _ _ (wp_ret (hret _ _ (en1 hA rfl (qk rfl) ?_))))
       have hr9 : (xi (dp + 1) m t1.tr).1 = false := by simpa using hc33
       have e9 : xi dp left (Dt.mk d ts).tr = (false, (xi (dp + 1) m t1.tr).2) := by rw [qni (by omega) (by omega), hin9, qlb hi1 hD hr9]
       rw [e9]
       exact ⟨rfl, hM⟩
      ·
       refine wp_skip (hK18 _ _ (wrl (sdo (v := .int .i64 (((i + 1 : Nat) : Int))) hA (qg rfl rfl (fun w => (yd (yb (by omega) (by omega)) w).trans (by rw [show (((i : Nat) : Int) + 1 : Int) = ((i + 1 : Nat) : Int) from by omega]))) fun a hA => ?_)))
       refine sdo hA (qe rfl) fun a hA => ?_
       refine qb ?_
       have hr9 : (xi (dp + 1) m t1.tr).1 = true := by simpa using hc33
       have hp9 := qyj t1.tr _ _ hr9
       have hl9 := zjd t1.tr (dp + 1) m
       refine hK13 _ _ _ (by omega) ⟨i + 1, (xi (dp + 1) m t1.tr).2, rfl, ⟨by omega, by rw [hin9, qza hi1 hD hr9], by omega, by omega⟩, hA.keep _ ⟨rfl, rfl, rfl, rfl, rfl, rfl, rfl, rfl, rfl, rfl, rfl, rfl, rfl, rfl, rfl, rfl, rfl, rfl, rfl, rfl, rfl, rfl, trivial⟩, hM⟩
    ·
     have hb23' := ne_of_beq_false hb23
     refine sdo (v := .bool false) hA (qg rfl rfl (fun w => (ze w).trans (by rw [hb23]))) fun a hA => ?_
     refine sdo hA (qe rfl) fun a hA => ?_
     iterate 2 refine qy hA rfl rfl rfl fun a hA => ?_
     refine sdo (v := .bool false) hA (qi rfl rfl rfl rfl) fun a hA => ?_
     refine qb (hK22 _ _ (wp_cond_false (hA.ev rfl) ?_))
     refine wp_skip (hK21 _ _ (wsk fun K35 hK35 => ?_))
     obtain ⟨t1, b1, o1, hi1, hm1, hr1, hl1, hH1⟩ := kid hrd (i := i) (by omega)
     have hD : (if decide (d.k = 8) = true ∧ i = 1 then dp else dp + 1) = dp + 1 := if_neg (fun e => hb23' (of_decide_eq_true e.1))
     refine wrl (sdo hA (qe rfl) fun a hA => ?_)
     refine sdo hA (vb rfl) fun a hA => ?_
     refine sdo (v := .pointer (some ⟨b, o + 10, none⟩)) hA (qh TrA_fld_49_5 rfl rfl) fun a hA => ?_
     refine sdo hA (qje (j := 10) hM hH TrA_is1_44 rfl rfl rfl) fun a hA => ?_
     refine sdo hA (qe rfl) fun a hA => ?_
     refine sdo (v := .pointer (some ⟨b1, o1 + i * 11, none⟩)) hA (qaa (k := i) Tryz.underlying44 (by kernel_rfl) rfl rfl rfl hl1 (by omega)) fun a hA => ?_
     iterate 2 refine sdo hA (qe rfl) fun a hA => ?_
     refine qj hA rfl rfl rfl (qf rfl rfl (fun w => by kernel_rfl)) (ih t1 hm1 hr1 hH1 hM (by omega) (by omega) (by omega) (by omega)) ?_
     rintro _ w37 ⟨rfl, hM36⟩
     replace hM : Mg w0 w37 (.obj gl (.cells #[.int .i64 ((xi (dp + 1) m t1.tr).2)] 3) :: T) := hM36
     refine ⟨_, rfl, ?_⟩
     intro a hA
     refine sdo (v := .bool (!((xi (dp + 1) m t1.tr).1))) hA (zk rfl zq) fun a hA => ?_
     refine qb (hK35 _ _ ?_)
     refine wp_cond_split (t := !((xi (dp + 1) m t1.tr).1)) (hA.ev rfl) (fun hc38 => ?_) (fun hc38 => ?_)
     ·
      refine wsk fun K39 hK39 => wrl (sdo hA (qa rfl) fun a hA => ?_)
      refine qb (hK39 _ _ (wp_ret (hret _ _ (en1 hA rfl (qk rfl) ?_))))
      have hr9 : (xi (dp + 1) m t1.tr).1 = false := by simpa using hc38
      have e9 : xi dp left (Dt.mk d ts).tr = (false, (xi (dp + 1) m t1.tr).2) := by rw [qni (by omega) (by omega), hin9, qlb hi1 hD hr9]
      rw [e9]
      exact ⟨rfl, hM⟩
     ·
      refine wp_skip (hK18 _ _ (wrl (sdo (v := .int .i64 (((i + 1 : Nat) : Int))) hA (qg rfl rfl (fun w => (yd (yb (by omega) (by omega)) w).trans (by rw [show (((i : Nat) : Int) + 1 : Int) = ((i + 1 : Nat) : Int) from by omega]))) fun a hA => ?_)))
      refine sdo hA (qe rfl) fun a hA => ?_
      refine qb ?_
      have hr9 : (xi (dp + 1) m t1.tr).1 = true := by simpa using hc38
      have hp9 := qyj t1.tr _ _ hr9
      have hl9 := zjd t1.tr (dp + 1) m
      refine hK13 _ _ _ (by omega) ⟨i + 1, (xi (dp + 1) m t1.tr).2, rfl, ⟨by omega, by rw [hin9, qza hi1 hD hr9], by omega, by omega⟩, hA.keep _ ⟨rfl, rfl, rfl, rfl, rfl, rfl, rfl, rfl, rfl, rfl, rfl, rfl, rfl, rfl, rfl, rfl, rfl, rfl, rfl, rfl, rfl, rfl, trivial⟩, hM⟩
   ·
    have hb16' := of_decide_eq_false hb16
    refine sdo (v := .bool false) hA (qg rfl rfl (fun w => (zr w).trans (by rw [hb16]))) fun a hA => ?_
    refine qb (hK15 _ _ (wsk fun K40 hK40 => wp_cond_false (hA.ev rfl) ?_))
    refine wp_exit (hK10 _ _ (wsk fun K41 hK41 => wrl (sdo hA (qa rfl) fun a hA => ?_)))
    refine qb (hK41 _ _ (wp_ret (hret _ _ (en1 hA rfl (qk rfl) ?_))))
    have e9 : xi dp left (Dt.mk d ts).tr = (true, m) := by rw [qni (by omega) (by omega), hin9, qvi (by omega), qfb]
    rw [e9]
    exact ⟨rfl, hM⟩
end Go.Proofs.YtjkpfnghiooblaaGreatDoor.G
