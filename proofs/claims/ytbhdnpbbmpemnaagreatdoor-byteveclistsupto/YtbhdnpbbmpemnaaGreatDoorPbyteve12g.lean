/- The walk of the fixed fact of the laws of bytevec. Numbers out of bytes, the lowest first: their words. The walk of the number of any bytes. Numbers that are read stay so where blocks without words are made or written. The walk of the number of any bytes, with a sign or without. A number at a place of bytes: what is answered, and helpers for the walks. Walks of the number at a place of bytes. The walk of the document's number at a place of bytes. Steps that go from the one stack to the other. Bytes that are made of a number's words; steps that keep what is read as words. Walks of the bytes of a whole number. Walks of Put. What was put is got again. Walks of the document's Put. The document's bytes of a number: helpers. -/
import Derived.Test.YtbhdnpbbmpemnaaGreatDoorPbyteve12f
import Derived.Test.YtbhdnpbbmpemnaaGreatDoorPbyteve12c
import Derived.Test.YtbhdnpbbmpemnaaGreatDoorWords
import Derived.Test.YtbhdnpbbmpemnaaGreatDoorArith
import Derived.Test.YtbhdnpbbmpemnaaGreatDoorPbyteve12d
namespace Go.Proofs.YtbhdnpbbmpemnaaGreatDoor.G
open Go.RowKit
set_option linter.unusedVariables false
set_option linter.unusedSimpArgs false
set_option maxRecDepth 100000
theorem ByW_is1_51 : Is1 Tryz.prog 51 := ⟨⟨_, Tryz.underlying51, rfl⟩, by kernel_rfl⟩
theorem ByW_isS_36 : IsS Tryz.prog 36 6 := ⟨⟨_, Tryz.underlying36⟩, by kernel_rfl⟩
/-- A word of a row of the call's own. -/
theorem ku {w0 w : World} {L : List Ck} (hM : Mg w0 w L) (k : Nat) {g cap x : Nat} (hk : L[k]? = some (.row 51 1 (.slice (some ⟨g, 0, none⟩) 1 cap) 1 [.int .u32 ((x : Nat) : Int)])) (hx : x < 4294967296) : Sc w (some ⟨g, 0, none⟩) cap [x] := by
 have hr : w.ownsRow w0.heap.size 51 1 (.slice (some ⟨g, 0, none⟩) 1 cap) 1 [.int .u32 ((x : Nat) : Int)] := hM.has k hk
 refine ⟨⟨fun y hy => by rw [List.mem_singleton] at hy; omega, fun _ => ⟨g, 0, rfl, ?_, fun j hj => ?_⟩⟩, (fun h => (by cases h)), ?_⟩
 ·
  rcases hr.2 with ⟨he, _⟩ | ⟨g', c', cur, he, h1, h2, _⟩
  ·
   cases he
  ·
   cases he; exact (Array.getElem?_eq_some_iff.1 h2).1
 ·
  have e : j = 0 := by simp at hj; omega
  subst e
  rw [World.ownsRow.cellAt hr 0 (by decide)]
  rfl
 ·
  rcases hr.2 with ⟨he, _⟩ | ⟨g', c', cur, he, _, _, h3, _⟩
  ·
   cases he
  ·
   cases he; exact h3
theorem yf {w0 w : World} {L : List Ck} (hM : Mg w0 w L) (k : Nat) {e : TypeId} {sz g n cap : Nat} {xs : List Value} (hk : L[k]? = some (.row e sz (.slice (some ⟨g, 0, none⟩) n cap) n xs)) : ∀ j u, xs[j]? = some u → w.cell? ⟨g, j, none⟩ = some u := by
 intro j u hj
 have hr : w.ownsRow w0.heap.size e sz (.slice (some ⟨g, 0, none⟩) n cap) n xs := hM.has k hk
 have hlt := (List.getElem?_eq_some_iff.1 hj).1
 rw [World.ownsRow.cellAt hr j (by rw [← hr.1]; exact hlt)]
 exact hj
theorem qng {w0 w : World} {L : List Ck} (hM : Mg w0 w L) (k : Nat) {e : TypeId} {sz g n cap : Nat} {xs : List Value} (hk : L[k]? = some (.row e sz (.slice (some ⟨g, 0, none⟩) n cap) n xs)) : g < w.heap.size := by
 have hr : w.ownsRow w0.heap.size e sz (.slice (some ⟨g, 0, none⟩) n cap) n xs := hM.has k hk
 rcases hr.2 with ⟨he, _⟩ | ⟨g', c', cur, he, h1, h2, _⟩
 ·
  cases he
 ·
  cases he; exact (Array.getElem?_eq_some_iff.1 h2).1
theorem qyj {w : World} {so : Option Addr} {bq oq : Nat} (hq1 : so = some ⟨bq, oq, none⟩) (hq2 : bq < w.heap.size) (hq3 : w.cell? ⟨bq, oq + 0, none⟩ = some (.int .u32 0)) (hq4 : w.cell? ⟨bq, oq + 1, none⟩ = some (.int .u32 0)) : Calls Tryz.prog 83 #[.slice so 2 2] w fun e w' => e = .returned (.slice so 0 2) ∧ Below w.heap.size w w' := by
 have hM : Mg w w ([]) := Mg.start w
 refine za (l := [(0, .slice so 2 2)]) Tryz.func83 rfl Tryz.ntmps83 rfl rfl ?_
 intro Q hret hnorm hP a hA
 refine wsk fun K1 hK1 => wrl (sdo hA (qb rfl) fun a hA => ?_)
 refine qe (hK1 _ _ (wsk fun K2 hK2 => wp_block (wp_loop_rounds 3 ?_)))
 refine vh ?_
 intro K3 hK3
 refine wsk fun K4 hK4 => wsk fun K5 hK5 => wrl (sdo hA (qa rfl) fun a hA => ?_)
 refine sdo hA (zb Tryz.underlying32 rfl) fun a hA => ?_
 refine sdo (v := .bool true) hA (qg rfl rfl (fun w => by kernel_rfl)) fun a hA => ?_
 iterate 3 refine sdo hA (qa rfl) fun a hA => ?_
 refine sdo hA (zb Tryz.underlying32 rfl) fun a hA => ?_
 refine sdo (v := .int .i64 1) hA (qg rfl rfl (fun w => by kernel_rfl)) fun a hA => ?_
 refine sdo (v := .pointer (some ⟨bq, oq + 1, none⟩)) hA (zk (k := 1) Tryz.underlying32 (by kernel_rfl) rfl rfl rfl hq1 (by decide)) fun a hA => ?_
 refine sdo (v := .int .u32 0) hA (yn hM hq2 hq4 ByW_is1_51 rfl) fun a hA => ?_
 refine sdo (v := .bool true) hA (qg rfl rfl (fun w => by kernel_rfl)) fun a hA => ?_
 refine sdo (v := .bool true) hA (qj rfl rfl rfl rfl) fun a hA => ?_
 refine qe (hK5 _ _ (wp_cond_true (hA.ev rfl) ?_))
 refine wp_skip (hK4 _ _ (wp_block (wrl ?_)))
 iterate 2 refine sdo hA (qa rfl) fun a hA => ?_
 refine sdo hA (zb Tryz.underlying32 rfl) fun a hA => ?_
 refine sdo (v := .int .i64 1) hA (qg rfl rfl (fun w => by kernel_rfl)) fun a hA => ?_
 refine sdo (v := .slice so 1 2) hA (qad (sz := 1) (hi := 1) Tryz.underlying32 (by kernel_rfl) rfl rfl rfl (by decide)) fun a hA => ?_
 refine sdo hA (qb rfl) fun a hA => ?_
 refine qe (hK3 _ _ (vh ?_))
 intro K6 hK6
 refine wsk fun K7 hK7 => wsk fun K8 hK8 => wrl (sdo hA (qa rfl) fun a hA => ?_)
 refine sdo hA (zb Tryz.underlying32 rfl) fun a hA => ?_
 refine sdo (v := .bool true) hA (qg rfl rfl (fun w => by kernel_rfl)) fun a hA => ?_
 iterate 3 refine sdo hA (qa rfl) fun a hA => ?_
 refine sdo hA (zb Tryz.underlying32 rfl) fun a hA => ?_
 refine sdo (v := .int .i64 0) hA (qg rfl rfl (fun w => by kernel_rfl)) fun a hA => ?_
 refine sdo (v := .pointer (some ⟨bq, oq + 0, none⟩)) hA (zk (k := 0) Tryz.underlying32 (by kernel_rfl) rfl rfl rfl hq1 (by decide)) fun a hA => ?_
 refine sdo (v := .int .u32 0) hA (yn hM hq2 hq3 ByW_is1_51 rfl) fun a hA => ?_
 refine sdo (v := .bool true) hA (qg rfl rfl (fun w => by kernel_rfl)) fun a hA => ?_
 refine sdo (v := .bool true) hA (qj rfl rfl rfl rfl) fun a hA => ?_
 refine qe (hK8 _ _ (wp_cond_true (hA.ev rfl) ?_))
 refine wp_skip (hK7 _ _ (wp_block (wrl ?_)))
 iterate 2 refine sdo hA (qa rfl) fun a hA => ?_
 refine sdo hA (zb Tryz.underlying32 rfl) fun a hA => ?_
 refine sdo (v := .int .i64 0) hA (qg rfl rfl (fun w => by kernel_rfl)) fun a hA => ?_
 refine sdo (v := .slice so 0 2) hA (qad (sz := 1) (hi := 0) Tryz.underlying32 (by kernel_rfl) rfl rfl rfl (by decide)) fun a hA => ?_
 refine sdo hA (qb rfl) fun a hA => ?_
 refine qe (hK6 _ _ (vh ?_))
 intro K9 hK9
 refine wsk fun K10 hK10 => wsk fun K11 hK11 => wrl (sdo hA (qa rfl) fun a hA => ?_)
 refine sdo hA (zb Tryz.underlying32 rfl) fun a hA => ?_
 refine sdo (v := .bool false) hA (qg rfl rfl (fun w => by kernel_rfl)) fun a hA => ?_
 refine sdo hA (qa rfl) fun a hA => ?_
 iterate 7 refine zg hA rfl rfl rfl fun a hA => ?_
 refine sdo (v := .bool false) hA (qj rfl rfl rfl rfl) fun a hA => ?_
 refine qe (hK11 _ _ (wp_cond_false (hA.ev rfl) ?_))
 refine wp_exit (hK2 _ _ (wsk fun K12 hK12 => wrl (sdo hA (qa rfl) fun a hA => ?_)))
 refine sdo hA (qb rfl) fun a hA => ?_
 refine qe (hK12 _ _ (wp_ret (hret _ _ (en1 hA rfl (ql rfl) ?_))))
 exact ⟨rfl, hM.bel⟩
theorem zbg {w : World} : Calls Tryz.prog 65 #[.int .u64 0] w fun e w' => ∃ g, e = .returned (.slice (some ⟨g, 0, none⟩) 0 2) ∧ Mg w w' [.row 51 1 (.slice (some ⟨g, 0, none⟩) 0 2) 0 []] := by
 have hM : Mg w w ([]) := Mg.start w
 refine za (l := [(0, .int .u64 0)]) Tryz.func65 rfl Tryz.ntmps65 rfl rfl ?_
 intro Q hret hnorm hP a hA
 refine wsk fun K1 hK1 => wrl (sdo hA (qb rfl) fun a hA => ?_)
 refine qe (hK1 _ _ (wsk fun K2 hK2 => wrl (sdo hA (qa rfl) fun a hA => ?_)))
 refine sdo (v := .int .u32 0) hA (zy rfl (fun w => by kernel_rfl)) fun a hA => ?_
 refine sdo hA (qa rfl) fun a hA => ?_
 refine sdo (v := .int .u64 0) hA (qg rfl rfl (fun w => by kernel_rfl)) fun a hA => ?_
 refine sdo (v := .int .u32 0) hA (zy rfl (fun w => by kernel_rfl)) fun a hA => ?_
 refine zbc (e := 51) (sz := 1) (m := 2) (vs := [.int .u32 0, .int .u32 0]) hA hM rfl rfl rfl (qx rfl (by kernel_rfl)) rfl rfl (.inl (by decide)) ?_
 intro g3 w4 hM a hA
 have hr9 : _ := hM.has 0 rfl
 have hc9 : ∀ j u, ([.int .u32 0, .int .u32 0] : List Value)[j]? = some u → World.cell? _ ⟨g3, j, none⟩ = some u := yf hM 0 rfl
 refine qi hA rfl rfl rfl (qf rfl rfl (fun w => by kernel_rfl)) (qyj (so := some ⟨g3, 0, none⟩) rfl (qng hM 0 rfl) (hc9 0 _ rfl) (hc9 1 _ rfl)) ?_
 rintro _ w6 ⟨rfl, hb5⟩
 replace hM := hM.call hb5
 refine ⟨_, rfl, ?_⟩
 intro a hA
 refine sdo hA (qb rfl) fun a hA => ?_
 refine qe (hK2 _ _ (wp_ret (hret _ _ (en1 hA rfl (ql rfl) ?_))))
 have h9 := hM.rowCut 0 rfl (m := 0) (by decide)
 exact ⟨g3, rfl, h9⟩
theorem zbh {w : World} : Calls Tryz.prog 42 #[.int .u64 0] w fun e w' => ∃ g, e = .returned (.slice (some ⟨g, 0, none⟩) 0 2) ∧ Mg w w' [.row 51 1 (.slice (some ⟨g, 0, none⟩) 0 2) 0 []] := by
 have hM : Mg w w ([]) := Mg.start w
 refine za (l := [(0, .int .u64 0)]) Tryz.func42 rfl Tryz.ntmps42 rfl rfl ?_
 intro Q hret hnorm hP a hA
 refine wsk fun K1 hK1 => wrl (sdo hA (qb rfl) fun a hA => ?_)
 refine qe (hK1 _ _ (wsk fun K2 hK2 => wrl (sdo hA (qa rfl) fun a hA => ?_)))
 refine qi hA rfl rfl rfl (qf rfl rfl (fun w => by kernel_rfl)) (zbg) ?_
 rintro _ w5 ⟨g3, rfl, hM4⟩
 replace hM : Mg w w5 (.row 51 1 (.slice (some ⟨g3, 0, none⟩) 0 2) 0 ([]) :: []) := (hM.both hM4 (qy zd) (qn (by simp) (qy zd)))
 refine ⟨_, rfl, ?_⟩
 intro a hA
 refine sdo hA (qb rfl) fun a hA => ?_
 refine qe (hK2 _ _ (wp_ret (hret _ _ (en1 hA rfl (ql rfl) ?_))))
 exact ⟨_, rfl, hM⟩
theorem qza {w : World} {so : Option Addr} {bq oq : Nat} (hq1 : so = some ⟨bq, oq, none⟩) (hq2 : bq < w.heap.size) (hq3 : w.cell? ⟨bq, oq + 0, none⟩ = some (.int .u32 1)) (hq4 : w.cell? ⟨bq, oq + 1, none⟩ = some (.int .u32 0)) : Calls Tryz.prog 83 #[.slice so 2 2] w fun e w' => e = .returned (.slice so 1 2) ∧ Below w.heap.size w w' := by
 have hM : Mg w w ([]) := Mg.start w
 refine za (l := [(0, .slice so 2 2)]) Tryz.func83 rfl Tryz.ntmps83 rfl rfl ?_
 intro Q hret hnorm hP a hA
 refine wsk fun K1 hK1 => wrl (sdo hA (qb rfl) fun a hA => ?_)
 refine qe (hK1 _ _ (wsk fun K2 hK2 => wp_block (wp_loop_rounds 3 ?_)))
 refine vh ?_
 intro K3 hK3
 refine wsk fun K4 hK4 => wsk fun K5 hK5 => wrl (sdo hA (qa rfl) fun a hA => ?_)
 refine sdo hA (zb Tryz.underlying32 rfl) fun a hA => ?_
 refine sdo (v := .bool true) hA (qg rfl rfl (fun w => by kernel_rfl)) fun a hA => ?_
 iterate 3 refine sdo hA (qa rfl) fun a hA => ?_
 refine sdo hA (zb Tryz.underlying32 rfl) fun a hA => ?_
 refine sdo (v := .int .i64 1) hA (qg rfl rfl (fun w => by kernel_rfl)) fun a hA => ?_
 refine sdo (v := .pointer (some ⟨bq, oq + 1, none⟩)) hA (zk (k := 1) Tryz.underlying32 (by kernel_rfl) rfl rfl rfl hq1 (by decide)) fun a hA => ?_
 refine sdo (v := .int .u32 0) hA (yn hM hq2 hq4 ByW_is1_51 rfl) fun a hA => ?_
 refine sdo (v := .bool true) hA (qg rfl rfl (fun w => by kernel_rfl)) fun a hA => ?_
 refine sdo (v := .bool true) hA (qj rfl rfl rfl rfl) fun a hA => ?_
 refine qe (hK5 _ _ (wp_cond_true (hA.ev rfl) ?_))
 refine wp_skip (hK4 _ _ (wp_block (wrl ?_)))
 iterate 2 refine sdo hA (qa rfl) fun a hA => ?_
 refine sdo hA (zb Tryz.underlying32 rfl) fun a hA => ?_
 refine sdo (v := .int .i64 1) hA (qg rfl rfl (fun w => by kernel_rfl)) fun a hA => ?_
 refine sdo (v := .slice so 1 2) hA (qad (sz := 1) (hi := 1) Tryz.underlying32 (by kernel_rfl) rfl rfl rfl (by decide)) fun a hA => ?_
 refine sdo hA (qb rfl) fun a hA => ?_
 refine qe (hK3 _ _ (vh ?_))
 intro K6 hK6
 refine wsk fun K7 hK7 => wsk fun K8 hK8 => wrl (sdo hA (qa rfl) fun a hA => ?_)
 refine sdo hA (zb Tryz.underlying32 rfl) fun a hA => ?_
 refine sdo (v := .bool true) hA (qg rfl rfl (fun w => by kernel_rfl)) fun a hA => ?_
 iterate 3 refine sdo hA (qa rfl) fun a hA => ?_
 refine sdo hA (zb Tryz.underlying32 rfl) fun a hA => ?_
 refine sdo (v := .int .i64 0) hA (qg rfl rfl (fun w => by kernel_rfl)) fun a hA => ?_
 refine sdo (v := .pointer (some ⟨bq, oq + 0, none⟩)) hA (zk (k := 0) Tryz.underlying32 (by kernel_rfl) rfl rfl rfl hq1 (by decide)) fun a hA => ?_
 refine sdo (v := .int .u32 1) hA (yn hM hq2 hq3 ByW_is1_51 rfl) fun a hA => ?_
 refine sdo (v := .bool false) hA (qg rfl rfl (fun w => by kernel_rfl)) fun a hA => ?_
 refine sdo (v := .bool false) hA (qj rfl rfl rfl rfl) fun a hA => ?_
 refine qe (hK8 _ _ (wp_cond_false (hA.ev rfl) ?_))
 refine wp_exit (hK2 _ _ (wsk fun K9 hK9 => wrl (sdo hA (qa rfl) fun a hA => ?_)))
 refine sdo hA (qb rfl) fun a hA => ?_
 refine qe (hK9 _ _ (wp_ret (hret _ _ (en1 hA rfl (ql rfl) ?_))))
 exact ⟨rfl, hM.bel⟩
theorem zbi {w : World} : Calls Tryz.prog 65 #[.int .u64 1] w fun e w' => ∃ g, e = .returned (.slice (some ⟨g, 0, none⟩) 1 2) ∧ Mg w w' [.row 51 1 (.slice (some ⟨g, 0, none⟩) 1 2) 1 [.int .u32 1]] := by
 have hM : Mg w w ([]) := Mg.start w
 refine za (l := [(0, .int .u64 1)]) Tryz.func65 rfl Tryz.ntmps65 rfl rfl ?_
 intro Q hret hnorm hP a hA
 refine wsk fun K1 hK1 => wrl (sdo hA (qb rfl) fun a hA => ?_)
 refine qe (hK1 _ _ (wsk fun K2 hK2 => wrl (sdo hA (qa rfl) fun a hA => ?_)))
 refine sdo (v := .int .u32 1) hA (zy rfl (fun w => by kernel_rfl)) fun a hA => ?_
 refine sdo hA (qa rfl) fun a hA => ?_
 refine sdo (v := .int .u64 0) hA (qg rfl rfl (fun w => by kernel_rfl)) fun a hA => ?_
 refine sdo (v := .int .u32 0) hA (zy rfl (fun w => by kernel_rfl)) fun a hA => ?_
 refine zbc (e := 51) (sz := 1) (m := 2) (vs := [.int .u32 1, .int .u32 0]) hA hM rfl rfl rfl (qx rfl (by kernel_rfl)) rfl rfl (.inl (by decide)) ?_
 intro g3 w4 hM a hA
 have hr9 : _ := hM.has 0 rfl
 have hc9 : ∀ j u, ([.int .u32 1, .int .u32 0] : List Value)[j]? = some u → World.cell? _ ⟨g3, j, none⟩ = some u := yf hM 0 rfl
 refine qi hA rfl rfl rfl (qf rfl rfl (fun w => by kernel_rfl)) (qza (so := some ⟨g3, 0, none⟩) rfl (qng hM 0 rfl) (hc9 0 _ rfl) (hc9 1 _ rfl)) ?_
 rintro _ w6 ⟨rfl, hb5⟩
 replace hM := hM.call hb5
 refine ⟨_, rfl, ?_⟩
 intro a hA
 refine sdo hA (qb rfl) fun a hA => ?_
 refine qe (hK2 _ _ (wp_ret (hret _ _ (en1 hA rfl (ql rfl) ?_))))
 have h9 := hM.rowCut 0 rfl (m := 1) (by decide)
 exact ⟨g3, rfl, h9⟩
theorem qqb {w : World} : Calls Tryz.prog 42 #[.int .u64 1] w fun e w' => ∃ g, e = .returned (.slice (some ⟨g, 0, none⟩) 1 2) ∧ Mg w w' [.row 51 1 (.slice (some ⟨g, 0, none⟩) 1 2) 1 [.int .u32 1]] := by
 have hM : Mg w w ([]) := Mg.start w
 refine za (l := [(0, .int .u64 1)]) Tryz.func42 rfl Tryz.ntmps42 rfl rfl ?_
 intro Q hret hnorm hP a hA
 refine wsk fun K1 hK1 => wrl (sdo hA (qb rfl) fun a hA => ?_)
 refine qe (hK1 _ _ (wsk fun K2 hK2 => wrl (sdo hA (qa rfl) fun a hA => ?_)))
 refine qi hA rfl rfl rfl (qf rfl rfl (fun w => by kernel_rfl)) (zbi) ?_
 rintro _ w5 ⟨g3, rfl, hM4⟩
 replace hM : Mg w w5 (.row 51 1 (.slice (some ⟨g3, 0, none⟩) 1 2) 1 ([.int .u32 1]) :: []) := (hM.both hM4 (qy zd) (qn (by simp) (qy zd)))
 refine ⟨_, rfl, ?_⟩
 intro a hA
 refine sdo hA (qb rfl) fun a hA => ?_
 refine qe (hK2 _ _ (wp_ret (hret _ _ (en1 hA rfl (ql rfl) ?_))))
 exact ⟨_, rfl, hM⟩
theorem zbj {w : World} : Calls Tryz.prog 18 #[.int .i64 0] w fun e w' => ∃ g1 g2 g3, e = .returned (.agg #[.bool false, .slice (some ⟨g1, 0, none⟩) 0 2, .slice (some ⟨g2, 0, none⟩) 1 2, .bool false, .slice none 0 0, .slice (some ⟨g3, 0, none⟩) 1 2]) ∧ Mg w w' [.row 51 1 (.slice (some ⟨g1, 0, none⟩) 0 2) 0 [], .row 51 1 (.slice (some ⟨g2, 0, none⟩) 1 2) 1 [.int .u32 1], .row 51 1 (.slice (some ⟨g3, 0, none⟩) 1 2) 1 [.int .u32 1]] := by
 have hM : Mg w w ([]) := Mg.start w
 refine za (l := [(0, .int .i64 0)]) Tryz.func18 rfl Tryz.ntmps18 rfl rfl ?_
 intro Q hret hnorm hP a hA
 refine wsk fun K1 hK1 => wrl (xr (vs := [.bool false, .slice none 0 0, .slice none 0 0, .bool false, .slice none 0 0, .slice none 0 0]) (t := 36) hA hM rfl rfl rfl (fun g => .pointer (some ⟨g, 0, none⟩)) (qp (z := .agg #[.bool false, .slice none 0 0, .slice none 0 0, .bool false, .slice none 0 0, .slice none 0 0]) (by kernel_rfl) rfl) (by decide) ?_)
 intro g2 w3 hM a hA
 refine qe (hK1 _ _ (wsk fun K4 hK4 => wrl (sdo hA (qa rfl) fun a hA => ?_)))
 refine sdo (v := .int .u64 0) hA (zy rfl (fun w => by kernel_rfl)) fun a hA => ?_
 refine sdo hA (qb rfl) fun a hA => ?_
 refine qe (hK4 _ _ (wsk fun K5 hK5 => wsk fun K6 hK6 => wrl (sdo hA (qa rfl) fun a hA => ?_)))
 refine sdo (v := .bool false) hA (qg rfl rfl (fun w => by kernel_rfl)) fun a hA => ?_
 refine qe (hK6 _ _ (wp_cond_false (hA.ev rfl) ?_))
 refine wp_skip (hK5 _ _ (wsk fun K7 hK7 => wrl (sdo hA (qa rfl) fun a hA => ?_)))
 refine sdo (v := .bool false) hA (qg rfl rfl (fun w => by kernel_rfl)) fun a hA => ?_
 refine sdo hA (qa rfl) fun a hA => ?_
 refine qi hA rfl rfl rfl (qf rfl rfl (fun w => by kernel_rfl)) (zbh) ?_
 rintro _ w10 ⟨g8, rfl, hM9⟩
 replace hM : Mg w w10 (.row 51 1 (.slice (some ⟨g8, 0, none⟩) 0 2) 0 ([]) :: .obj g2 (.cells #[.bool false, .slice none 0 0, .slice none 0 0, .bool false, .slice none 0 0, .slice none 0 0] 36) :: []) := (hM.both hM9 (qn (by simp) (qy zd)) (qn (by simp) (qy zd)))
 refine ⟨_, rfl, ?_⟩
 intro a hA
 refine qi hA rfl rfl rfl (qf rfl rfl (fun w => by kernel_rfl)) (qqb) ?_
 rintro _ w13 ⟨g11, rfl, hM12⟩
 replace hM : Mg w w13 (.row 51 1 (.slice (some ⟨g11, 0, none⟩) 1 2) 1 ([.int .u32 1]) :: .row 51 1 (.slice (some ⟨g8, 0, none⟩) 0 2) 0 ([]) :: .obj g2 (.cells #[.bool false, .slice none 0 0, .slice none 0 0, .bool false, .slice none 0 0, .slice none 0 0] 36) :: []) := (hM.both hM12 (qn (by simp) (qn (by simp) (qy zd))) (qn (by simp) (qy zd)))
 refine ⟨_, rfl, ?_⟩
 intro a hA
 refine sdo (v := .agg #[.bool false, .slice (some ⟨g8, 0, none⟩) 0 2, .slice (some ⟨g11, 0, none⟩) 1 2]) hA (zj rfl (fun w => by kernel_rfl)) fun a hA => ?_
 refine qi hA rfl rfl rfl (qf rfl rfl (fun w => by kernel_rfl)) (qqb) ?_
 rintro _ w16 ⟨g14, rfl, hM15⟩
 replace hM : Mg w w16 (.row 51 1 (.slice (some ⟨g14, 0, none⟩) 1 2) 1 ([.int .u32 1]) :: .row 51 1 (.slice (some ⟨g11, 0, none⟩) 1 2) 1 ([.int .u32 1]) :: .row 51 1 (.slice (some ⟨g8, 0, none⟩) 0 2) 0 ([]) :: .obj g2 (.cells #[.bool false, .slice none 0 0, .slice none 0 0, .bool false, .slice none 0 0, .slice none 0 0] 36) :: []) := (hM.both hM15 (qn (by simp) (qn (by simp) (qn (by simp) (qy zd)))) (qn (by simp) (qy zd)))
 refine ⟨_, rfl, ?_⟩
 intro a hA
 refine sdo (v := .agg #[.bool false, .slice none 0 0, .slice (some ⟨g14, 0, none⟩) 1 2]) hA (zj rfl (fun w => by kernel_rfl)) fun a hA => ?_
 refine sdo (v := .agg #[.bool false, .slice (some ⟨g8, 0, none⟩) 0 2, .slice (some ⟨g11, 0, none⟩) 1 2, .bool false, .slice none 0 0, .slice (some ⟨g14, 0, none⟩) 1 2]) hA (zj rfl (fun w => by kernel_rfl)) fun a hA => ?_
 refine vg (us := [.bool false, .slice (some ⟨g8, 0, none⟩) 0 2, .slice (some ⟨g11, 0, none⟩) 1 2, .bool false, .slice none 0 0, .slice (some ⟨g14, 0, none⟩) 1 2]) (L' := (.row 51 1 (.slice (some ⟨g14, 0, none⟩) 1 2) 1 ([.int .u32 1]) :: .row 51 1 (.slice (some ⟨g11, 0, none⟩) 1 2) 1 ([.int .u32 1]) :: .row 51 1 (.slice (some ⟨g8, 0, none⟩) 0 2) 0 ([]) :: .obj g2 (.cells #[.bool false, .slice (some ⟨g8, 0, none⟩) 0 2, .slice (some ⟨g11, 0, none⟩) 1 2, .bool false, .slice none 0 0, .slice (some ⟨g14, 0, none⟩) 1 2] 36) :: [])) hA hM rfl rfl (jz rfl rfl rfl (by kernel_rfl) hM 3 rfl rfl rfl) 3 rfl rfl rfl ?_
 intro w17 hM
 refine qe (hK7 _ _ (wp_ret (hret _ _ (en1 hA rfl (vw hM ByW_isS_36 rfl 3 rfl (cs := [.bool false, .slice (some ⟨g8, 0, none⟩) 0 2, .slice (some ⟨g11, 0, none⟩) 1 2, .bool false, .slice none 0 0, .slice (some ⟨g14, 0, none⟩) 1 2]) rfl rfl) ?_))))
 replace hM : Mg w w17 (.row 51 1 (.slice (some ⟨g14, 0, none⟩) 1 2) 1 ([.int .u32 1]) :: .row 51 1 (.slice (some ⟨g11, 0, none⟩) 1 2) 1 ([.int .u32 1]) :: .row 51 1 (.slice (some ⟨g8, 0, none⟩) 0 2) 0 ([]) :: []) := by
  have h9 := hM.sub (.cons_cons _ (.cons_cons _ (.cons_cons _ (.cons _ (.refl _)))))
  exact h9
 replace hM : Mg w w17 (.row 51 1 (.slice (some ⟨g11, 0, none⟩) 1 2) 1 ([.int .u32 1]) :: .row 51 1 (.slice (some ⟨g14, 0, none⟩) 1 2) 1 ([.int .u32 1]) :: .row 51 1 (.slice (some ⟨g8, 0, none⟩) 0 2) 0 ([]) :: []) := hM.perm (List.perm_middle (l₁ := [_]))
 replace hM : Mg w w17 (.row 51 1 (.slice (some ⟨g8, 0, none⟩) 0 2) 0 ([]) :: .row 51 1 (.slice (some ⟨g11, 0, none⟩) 1 2) 1 ([.int .u32 1]) :: .row 51 1 (.slice (some ⟨g14, 0, none⟩) 1 2) 1 ([.int .u32 1]) :: []) := hM.perm (List.perm_middle (l₁ := [_, _]))
 exact ⟨g8, g11, g14, rfl, hM⟩
theorem qeb {w : World} : Sc w none 0 [] := ⟨⟨fun x hx => (by cases hx), fun h => absurd rfl h⟩, fun _ => rfl, Nat.le_refl _⟩
end Go.Proofs.YtbhdnpbbmpemnaaGreatDoor.G
namespace Go.Proofs.YtbhdnpbbmpemnaaGreatDoor.G
set_option linter.unusedVariables false
set_option linter.unusedSimpArgs false
/-- The number of bytes, the lowest first. -/
def leN : List UInt8 → Nat
  | [] => 0
  | b :: t => b.toNat + 256 * leN t
/-- Four bytes a word. -/
def pkW : List UInt8 → List Nat
  | [] => []
  | [a] => [a.toNat]
  | [a, b] => [a.toNat + 256 * b.toNat]
  | [a, b, c] => [a.toNat + 256 * b.toNat + 65536 * c.toNat]
  | a :: b :: c :: d :: t => (a.toNat + 256 * b.toNat + 65536 * c.toNat + 16777216 * d.toNat) :: pkW t
theorem qbi (s t : List UInt8) : leN (s ++ t) = leN s + 256 ^ s.length * leN t := by
  induction s with
  | nil => simp [leN]
  | cons b s ih =>
    rw [List.cons_append, leN, ih, leN, List.length_cons, Nat.pow_succ, Nat.mul_add, Nat.mul_comm (256 ^ s.length) 256, Nat.mul_assoc, Nat.add_assoc]
theorem qlg : ∀ n : Nat, leN (List.replicate n 0) = 0
  | 0 => rfl
  | n + 1 => by rw [List.replicate_succ, leN, qlg n]; rfl
theorem ux (l : List UInt8) : ∃ n, l = vb l ++ List.replicate n 0 := by
  have h : ∀ r : List UInt8, ∃ n, r = List.replicate n 0 ++ r.dropWhile (· == 0) := by
    intro r
    induction r with
    | nil => exact ⟨0, rfl⟩
    | cons b r ih =>
      by_cases hb : b = 0
      · subst hb
        obtain ⟨n, hn⟩ := ih
        refine ⟨n + 1, ?_⟩
        rw [List.dropWhile_cons_of_pos (by simp), List.replicate_succ, List.cons_append, ← hn]
      · exact ⟨0, by rw [List.dropWhile_cons_of_neg (by simpa using hb)]; rfl⟩
  obtain ⟨n, hn⟩ := h l.reverse
  refine ⟨n, ?_⟩
  have := congrArg List.reverse hn
  rw [List.reverse_reverse, List.reverse_append, List.reverse_replicate] at this
  exact this
theorem zca (l : List UInt8) : leN (vb l) = leN l := by
  obtain ⟨n, hn⟩ := ux l
  rw [show leN l = leN (vb l ++ List.replicate n 0) from congrArg leN hn, qbi, qlg, Nat.mul_zero, Nat.add_zero]
theorem quf {l : List UInt8} (h : vb l ≠ []) : (vb l).getLast h ≠ 0 := by
  unfold vb at h ⊢
  rw [List.getLast_reverse]
  have h2 : l.reverse.dropWhile (· == 0) ≠ [] := fun k => h (by rw [k]; rfl)
  have := List.head_dropWhile_not (p := (· == 0)) (l := l.reverse) h2
  simpa using this
theorem yg (b : UInt8) : b.toNat < 256 := UInt8.toNat_lt b
/-- Bytes whose last is not 0 are the words of their number. -/
theorem qec : ∀ (l : List UInt8), (∀ h : l ≠ [], l.getLast h ≠ 0) → pkW l = words (leN l)
  | [], _ => by rw [leN, words_zero]; rfl
  | [a], h => by
    have h1 := yg a
    have h2 : a.toNat ≠ 0 := fun k => h (by simp) (UInt8.toNat_inj.1 k)
    rw [show leN [a] = a.toNat from by simp [leN], words_pos h2, Nat.mod_eq_of_lt (by omega), Nat.div_eq_of_lt (by omega), words_zero]
    rfl
  | [a, b], h => by
    have h1 := yg a
    have h3 := yg b
    have h2 : b.toNat ≠ 0 := fun k => h (by simp) (UInt8.toNat_inj.1 k)
    rw [show leN [a, b] = a.toNat + 256 * b.toNat from by simp [leN], words_pos (by omega), Nat.mod_eq_of_lt (by omega), Nat.div_eq_of_lt (by omega), words_zero]
    rfl
  | [a, b, c], h => by
    have h1 := yg a
    have h3 := yg b
    have h4 := yg c
    have h2 : c.toNat ≠ 0 := fun k => h (by simp) (UInt8.toNat_inj.1 k)
    rw [show leN [a, b, c] = a.toNat + 256 * b.toNat + 65536 * c.toNat from by simp [leN]; omega, words_pos (by omega), Nat.mod_eq_of_lt (by omega), Nat.div_eq_of_lt (by omega), words_zero]
    rfl
  | a :: b :: c :: d :: t, h => by
    have h1 := yg a
    have h3 := yg b
    have h4 := yg c
    have h5 := yg d
    have e : leN (a :: b :: c :: d :: t) = (a.toNat + 256 * b.toNat + 65536 * c.toNat + 16777216 * d.toNat) + 4294967296 * leN t := by simp only [leN]; omega
    have hne : leN (a :: b :: c :: d :: t) ≠ 0 := by
      rw [e]
      cases t with
      | nil =>
        have h2 : d.toNat ≠ 0 := fun k => h (by simp) (UInt8.toNat_inj.1 k)
        omega
      | cons x t =>
        have ih := qec (x :: t) (fun hx => by have := h (by simp); simpa using this)
        intro k9
        have h0 : leN (x :: t) = 0 := by omega
        rw [h0, words_zero] at ih
        have : ∀ s : List UInt8, s ≠ [] → pkW s ≠ [] := by
          intro s hs
          match s, hs with
          | [_], _ => simp [pkW]
          | [_, _], _ => simp [pkW]
          | [_, _, _], _ => simp [pkW]
          | _ :: _ :: _ :: _ :: _, _ => simp [pkW]
        exact this _ (by simp) ih
    have ih := qec t (fun hx => by
      have := h (by simp)
      rw [List.getLast_cons (by simp), List.getLast_cons (by simp), List.getLast_cons (by simp), List.getLast_cons hx] at this
      exact this)
    rw [words_pos hne, e, Nat.add_mul_mod_self_left, Nat.mod_eq_of_lt (by omega), Nat.add_mul_div_left _ _ (by omega), Nat.div_eq_of_lt (by omega), Nat.zero_add, ← ih]
    rfl
/-- The k-th word of the first i bytes. -/
def wdK (t : List UInt8) (i k : Nat) : Nat := leN (((t.take i).drop (4 * k)).take 4)
theorem qlh : ∀ t : List UInt8, pkW t = (List.range ((t.length + 3) / 4)).map fun k => leN ((t.drop (4 * k)).take 4)
  | [] => rfl
  | [a] => by simp [pkW, leN, List.range_succ]
  | [a, b] => by simp [pkW, leN, List.range_succ]
  | [a, b, c] => by
    have e : ([a, b, c].length + 3) / 4 = 1 := by simp
    rw [e]
    simp only [pkW, List.range_one, List.map_cons, List.map_nil, List.cons.injEq, and_true, Nat.mul_zero, List.drop_zero]
    simp only [List.take_succ_cons, List.take_nil, leN]
    omega
  | a :: b :: c :: d :: t => by
    have e : ((a :: b :: c :: d :: t).length + 3) / 4 = (t.length + 3) / 4 + 1 := by simp only [List.length_cons]; omega
    rw [e, List.range_succ_eq_map, List.map_cons, List.map_map, pkW, qlh t]
    congr 1
    · simp only [Nat.mul_zero, List.drop_zero, List.take_succ_cons, List.take_zero, leN]
      omega
theorem zif {t : List UInt8} {k : Nat} : wdK t t.length k = leN ((t.drop (4 * k)).take 4) := by
  unfold wdK; rw [List.take_of_length_le (Nat.le_refl _)]
theorem yq : ∀ l : List UInt8, leN l < 256 ^ l.length
  | [] => by simp [leN]
  | b :: t => by
    have h1 := yq t
    have h2 := yg b
    rw [leN, List.length_cons, Nat.pow_succ]
    omega
theorem qzb {t : List UInt8} {i k : Nat} (hi : i < t.length) (hk : k ≠ i / 4) : wdK t (i + 1) k = wdK t i k := by
  unfold wdK
  rw [show t.take (i + 1) = t.take i ++ [t[i]] from by rw [List.take_add_one, List.getElem?_eq_getElem hi]; rfl]
  by_cases h : i < 4 * k
  · rw [List.drop_eq_nil_of_le (by rw [List.length_append, List.length_take]; simp only [List.length_cons, List.length_nil]; omega), List.drop_eq_nil_of_le (by rw [List.length_take]; omega)]
  · rw [List.drop_append_of_le_length (by rw [List.length_take]; omega), List.take_append_of_le_length (by rw [List.length_drop, List.length_take]; omega)]
theorem zcb {t : List UInt8} {i : Nat} (hi : i < t.length) : wdK t (i + 1) (i / 4) = wdK t i (i / 4) + 256 ^ (i % 4) * t[i].toNat ∧ wdK t i (i / 4) < 256 ^ (i % 4) := by
  have e1 : ((t.take i).drop (4 * (i / 4))).length = i % 4 := by rw [List.length_drop, List.length_take]; omega
  have e2 : ((t.take i).drop (4 * (i / 4))).take 4 = (t.take i).drop (4 * (i / 4)) := List.take_of_length_le (by omega)
  unfold wdK
  rw [show t.take (i + 1) = t.take i ++ [t[i]] from by rw [List.take_add_one, List.getElem?_eq_getElem hi]; rfl]
  rw [List.drop_append_of_le_length (by rw [List.length_take]; omega), List.take_of_length_le (by rw [List.length_append, e1]; simp only [List.length_cons, List.length_nil]; omega), e2, qbi, e1]
  refine ⟨by simp [leN], ?_⟩
  have := yq ((t.take i).drop (4 * (i / 4)))
  rw [e1] at this
  exact this
theorem or_add {a x s : Nat} (h : a < 2 ^ s) : a ||| (x <<< s) = a + 2 ^ s * x := by
  rw [Nat.or_comm, ← Nat.shiftLeft_add_eq_or_of_lt h, Nat.shiftLeft_eq, Nat.add_comm, Nat.mul_comm]
end Go.Proofs.YtbhdnpbbmpemnaaGreatDoor.G
namespace Go.Proofs.YtbhdnpbbmpemnaaGreatDoor.G
open Go.RowKit
set_option linter.unusedVariables false
set_option linter.unusedSimpArgs false
set_option maxRecDepth 100000
theorem ByN_is1_5 : Is1 Tryz.prog 5 := ⟨⟨_, Tryz.underlying5, rfl⟩, by kernel_rfl⟩
theorem ByN_is1_51 : Is1 Tryz.prog 51 := ⟨⟨_, Tryz.underlying51, rfl⟩, by kernel_rfl⟩
theorem ByN_fld_34_1 : FieldAt Tryz.prog 34 1 1 := ⟨_, _, Tryz.underlying34, rfl, rfl, by kernel_rfl⟩
theorem ByN_fld_36_0 : FieldAt Tryz.prog 36 0 0 := ⟨_, _, Tryz.underlying36, rfl, rfl, by kernel_rfl⟩
theorem ByN_isS_36 : IsS Tryz.prog 36 6 := ⟨⟨_, Tryz.underlying36⟩, by kernel_rfl⟩
def uC (ws : List Nat) : List Value := ws.map fun x => .int .u32 ((x : Nat) : Int)
def wsI (t : List UInt8) (m i : Nat) : List Nat := (List.range m).map (wdK t i)
theorem qug (n : Nat) : (madeCells (Value.int .u32 0).cells (n * 1)).toList = uC (wsI [] n 0) := by
 unfold madeCells uC wsI
 rw [Array.toList_map, Array.toList_range, Nat.mul_one, List.map_map]
 refine List.map_congr_left fun k _ => ?_
 show (Value.int .u32 0).cells[k % 1]! = _
 rw [Nat.mod_one]
 simp [wdK, leN]
 rfl
theorem zcc (t : List UInt8) (m : Nat) : wsI [] m 0 = wsI t m 0 := by
 unfold wsI
 refine List.map_congr_left fun k _ => ?_
 simp [wdK]
theorem zig {w : World} {so : Option Addr} {l : List UInt8} (h : Rb w so l) : Rb w so (vb l) := by
 obtain ⟨n, hn⟩ := ux l
 have e : l.take (vb l).length = vb l := by
  rw [show l.take (vb l).length = (vb l ++ List.replicate n 0).take (vb l).length from congrArg (List.take _) hn, List.take_left]
 exact e ▸ h.takeZ _
theorem qgi {t : List UInt8} {m i k : Nat} (h : k < m) : (uC (wsI t m i))[k * 1]? = some (.int .u32 ((wdK t i k : Nat) : Int)) := by
 rw [Nat.mul_one]
 unfold uC wsI
 rw [List.map_map, List.getElem?_map, List.getElem?_range h]
 rfl
theorem zcd {t : List UInt8} {m i : Nat} (hi : i < t.length) (hm : i / 4 < m) : over (uC (wsI t m i)) (i / 4 * 1) [.int .u32 ((wdK t (i + 1) (i / 4) : Nat) : Int)] = uC (wsI t m (i + 1)) := by
 rw [Nat.mul_one]
 show (uC (wsI t m i)).set (i / 4) _ = _
 refine List.ext_getElem? fun k => ?_
 have hl : (uC (wsI t m i)).length = m := by simp [uC, wsI]
 by_cases e : k = i / 4
 ·
  subst e
  rw [List.getElem?_set_self (by omega)]
  have := qgi (t := t) (i := i + 1) hm
  rw [Nat.mul_one] at this
  exact this.symm
 ·
  rw [List.getElem?_set_ne (fun k9 => e k9.symm)]
  by_cases hk : k < m
  ·
   have h1 := qgi (t := t) (i := i) hk
   have h2 := qgi (t := t) (i := i + 1) hk
   rw [Nat.mul_one] at h1 h2
   rw [h1, h2, qzb hi e]
  ·
   rw [List.getElem?_eq_none (by omega), List.getElem?_eq_none (by simp [uC, wsI]; omega)]
theorem zce {l : List UInt8} : wsI (vb l) (((vb l).length + 3) / 4) (vb l).length = words (leN l) := by
 unfold wsI
 rw [← zca l, ← qec (vb l) (fun h => quf h), qlh]
 exact List.map_congr_left fun k _ => zif
theorem zme {r : Nat} : 256 ^ r = 2 ^ (r * 8) := by
 rw [Nat.mul_comm, Nat.pow_mul]
theorem zoa {t : List UInt8} {i : Nat} (hi : i < t.length) : bits .or .u32 ((wdK t i (i / 4) : Nat) : Int) (((t.getD i 0).toNat * 2 ^ (i % 4 * 8) : Nat) : Int) = ((wdK t (i + 1) (i / 4) : Nat) : Int) ∧ (t.getD i 0).toNat * 2 ^ (i % 4 * 8) < 4294967296 := by
 obtain ⟨h1, h2⟩ := zcb hi
 have hx : t[i].toNat < 256 := UInt8.toNat_lt _
 have e : t.getD i 0 = t[i] := by rw [List.getD_eq_getElem?_getD, List.getElem?_eq_getElem hi]; rfl
 rw [e]
 have hp : 2 ^ (i % 4 * 8) ≤ 16777216 := by
  have : i % 4 = 0 ∨ i % 4 = 1 ∨ i % 4 = 2 ∨ i % 4 = 3 := by omega
  rcases this with h | h | h | h <;> rw [h] <;> decide
 have hb : t[i].toNat * 2 ^ (i % 4 * 8) < 4294967296 := by
  have := Nat.mul_le_mul (show t[i].toNat ≤ 255 by omega) hp
  omega
 rw [zme] at h1 h2
 refine ⟨?_, hb⟩
 rw [or_u32 _ _ (by omega) hb, h1, ← Nat.shiftLeft_eq, or_add h2]
theorem qnh (x s : Nat) : ((x * 2 ^ s : Nat) : Int) = ((x : Nat) : Int) * 2 ^ s := by rw [Int.natCast_mul, Int.natCast_pow]; rfl
theorem vx {w : World} {so : Option Addr} {ca : Nat} {l : List UInt8} (hb : Rb w so l) (hca : l.length ≤ ca) (hl : l.length ≤ 64) : Calls Tryz.prog 21 #[.slice so l.length ca] w fun e w' => ∃ g1 g2 g3, e = .returned (.agg #[.bool false, .slice (some ⟨g1, 0, none⟩) (words (leN l)).length (words (leN l)).length, .slice (some ⟨g2, 0, none⟩) 1 2, .bool false, .slice none 0 0, .slice (some ⟨g3, 0, none⟩) 1 2]) ∧ Mg w w' [.row 51 1 (.slice (some ⟨g1, 0, none⟩) (words (leN l)).length (words (leN l)).length) (words (leN l)).length (uC (words (leN l))), .row 51 1 (.slice (some ⟨g2, 0, none⟩) 1 2) 1 [.int .u32 1], .row 51 1 (.slice (some ⟨g3, 0, none⟩) 1 2) 1 [.int .u32 1]] := by
 obtain ⟨t, ht⟩ : ∃ t, t = vb l := ⟨_, rfl⟩
 have hbt : Rb w so t := ht ▸ zig hb
 have htl : t.length ≤ 64 := by
  obtain ⟨n, hn⟩ := ux l
  have h9 := congrArg List.length hn
  rw [List.length_append, ← ht] at h9
  omega
 have hM : Mg w w ([]) := Mg.start w
 refine za (l := [(0, .slice so l.length ca)]) Tryz.func21 rfl Tryz.ntmps21 rfl rfl ?_
 intro Q hret hnorm hP a hA
 refine wsk fun K1 hK1 => wrl (xr (vs := [.bool false, .slice none 0 0, .slice none 0 0, .bool false, .slice none 0 0, .slice none 0 0]) (t := 36) hA hM rfl rfl rfl (fun g => .pointer (some ⟨g, 0, none⟩)) (qp (z := .agg #[.bool false, .slice none 0 0, .slice none 0 0, .bool false, .slice none 0 0, .slice none 0 0]) (by kernel_rfl) rfl) (by decide) ?_)
 intro g2 w3 hM a hA
 refine qe (hK1 _ _ (wsk fun K4 hK4 => wrl (sdo hA (qa rfl) fun a hA => ?_)))
 refine qi hA rfl rfl rfl (qf rfl rfl (fun w => by kernel_rfl)) ((show Calls Tryz.prog 45 _ _ (fun e w' => e = .returned (.slice so t.length ca) ∧ Below _ _ w') from ht ▸ qkf (hb.below hM.bel) (by omega) hca)) ?_
 rintro _ w6 ⟨rfl, hb5⟩
 replace hM := hM.call hb5
 refine ⟨_, rfl, ?_⟩
 intro a hA
 refine sdo hA (qb rfl) fun a hA => ?_
 refine qe (hK4 _ _ (wsk fun K7 hK7 => wrl (sdo hA (qa rfl) fun a hA => ?_)))
 refine sdo hA (zb Tryz.underlying22 rfl) fun a hA => ?_
 refine sdo (v := .int .i64 (((t.length + 4 : Nat) : Int))) hA (qg rfl rfl (ar_add ((in_i64 (by omega) (by omega)).trans (by omega)))) fun a hA => ?_
 refine sdo (v := .int .i64 (((t.length + 3 : Nat) : Int))) hA (qg rfl rfl (ar_sub ((in_i64 (by omega) (by omega)).trans (by omega)))) fun a hA => ?_
 refine sdo (v := .int .i64 ((((t.length + 3) / 4 : Nat) : Int))) hA (qg rfl rfl (ar_quo (by decide) ((congrArg IntKind.i64.wrap (Int.tdiv_eq_ediv_of_nonneg (by omega))).trans ((in_i64 (by omega) (by omega)).trans (by omega))))) fun a hA => ?_
 refine qgf (z := .int .u32 0) (sz := 1) (by_ := 4) (m := (t.length + 3) / 4) hA hM Tryz.underlying32 (by kernel_rfl) rfl rfl rfl rfl rfl rfl (by omega) (by omega) (.inl (by decide)) ?_
 intro gw w8 hM a hA
 rw [qug, zcc t] at hM
 refine sdo hA (qb rfl) fun a hA => ?_
 refine qe (hK7 _ _ (wsk fun K9 hK9 => wsk fun K10 hK10 => wrl (sdo hA (qa rfl) fun a hA => ?_)))
 refine sdo hA (zb Tryz.underlying22 rfl) fun a hA => ?_
 refine sdo hA (qa rfl) fun a hA => ?_
 refine qe (hK10 _ _ (wp_block (jb (fun m_ a w1 => ∃ (i : Nat), m_ = t.length - i ∧ (i ≤ t.length) ∧ Sl a 41 [(0, .slice so t.length ca), (2, .pointer (some ⟨g2, 0, none⟩)), (3, .slice (some ⟨gw, 0, none⟩) (((t.length + 3) / 4)) (((t.length + 3) / 4))), (7, .slice so l.length ca), (8, .slice so t.length ca), (9, .slice so t.length ca), (10, .int .i64 (((t.length : Nat) : Int))), (11, .int .i64 (((t.length + 4 : Nat) : Int))), (12, .int .i64 (((t.length + 3 : Nat) : Int))), (13, .int .i64 ((((t.length + 3) / 4 : Nat) : Int))), (14, .slice (some ⟨gw, 0, none⟩) (((t.length + 3) / 4)) (((t.length + 3) / 4))), (15, .slice so t.length ca), (16, .int .i64 (((t.length : Nat) : Int))), (17, .int .i64 (((i : Nat) : Int)))] ∧ Mg w w1 (.row 51 1 (.slice (some ⟨gw, 0, none⟩) (((t.length + 3) / 4)) (((t.length + 3) / 4))) (((t.length + 3) / 4)) ((uC (wsI t ((t.length + 3) / 4) i))) :: .obj g2 (.cells #[.bool false, .slice none 0 0, .slice none 0 0, .bool false, .slice none 0 0, .slice none 0 0] 36) :: [])) _ ⟨0, rfl, Nat.zero_le _, hA.keep _ ⟨rfl, rfl, rfl, rfl, rfl, rfl, rfl, rfl, rfl, rfl, rfl, rfl, rfl, rfl, trivial⟩, hM⟩ ?_)))
 clear hM hA
 rintro m_ a w11 ⟨i, rfl, hinv13, hA, hM⟩ K12 hK12
 have hi9 := hinv13
 refine wsk fun K14 hK14 => wrl ?_
 rcases tf (decide (((i : Nat) : Int) < ((t.length : Nat) : Int))) with hb15 | hb15
 ·
  have hb15' := of_decide_eq_true hb15
  refine sdo (v := .bool true) hA (qg rfl rfl (fun w => (zi w).trans (by rw [hb15]))) fun a hA => ?_
  refine qe (hK14 _ _ (wsk fun K16 hK16 => wp_cond_true (hA.ev rfl) ?_))
  refine wp_skip (hK16 _ _ (wsk fun K17 hK17 => wp_block (wsk fun K18 hK18 => wrl (sdo hA (qa rfl) fun a hA => ?_))))
  obtain ⟨bx, ox, hx1, hx2, hx3⟩ := qgg (i := i) hbt (by omega)
  have hX8 : (t.getD i 0).toNat < 256 := UInt8.toNat_lt _
  obtain ⟨hwo, hwb⟩ := zoa (t := t) (i := i) (by omega)
  refine sdo (v := .pointer (some ⟨bx, ox + i, none⟩)) hA (zk Tryz.underlying22 (by kernel_rfl) rfl rfl rfl hx1 (show i < t.length by omega)) fun a hA => ?_
  refine sdo (v := .int .u8 ((((t.getD i 0).toNat : Nat) : Int))) hA (yn hM hx2 (hx3 i (by omega)) ByN_is1_5 rfl) fun a hA => ?_
  iterate 2 refine sdo hA (qb rfl) fun a hA => ?_
  refine qe (hK18 _ _ (je (S := fun w1 => Mg w w1 ([])) (by kernel_rfl) ?_))
  replace hM := hM.drew
  refine qk hA 0 rfl rfl rfl rfl hP (hM.sub (.cons _ (.cons _ (List.nil_sublist _)))) (fun w1 hM => qa rfl) fun a hA => ?_
  refine qk hA 1 rfl rfl rfl rfl hP (hM.sub (.cons _ (.cons _ (List.nil_sublist _)))) (fun w1 hM => qa rfl) fun a hA => ?_
  refine qk (v := .int .i64 ((((i) / 4 : Nat) : Int))) hA 2 rfl rfl rfl rfl hP (hM.sub (.cons _ (.cons _ (List.nil_sublist _)))) (fun w1 hM => qg rfl rfl (ar_quo (by decide) ((congrArg IntKind.i64.wrap (Int.tdiv_eq_ediv_of_nonneg (by omega))).trans ((in_i64 (by omega) (by omega)).trans (by omega))))) fun a hA => ?_
  refine qk (v := .pointer (some ⟨gw, (i / 4) * 1, none⟩)) hA 3 rfl rfl rfl rfl hP (hM.sub (.cons _ (.cons _ (List.nil_sublist _)))) (fun w1 hM => jd Tryz.underlying32 (by kernel_rfl) rfl rfl rfl (show i / 4 < (t.length + 3) / 4 by omega)) fun a hA => ?_
  refine qk hA 5 rfl rfl rfl rfl hP (hM.sub (.cons _ (.cons _ (List.nil_sublist _)))) (fun w1 hM => qa rfl) fun a hA => ?_
  refine qk (v := .int .u32 ((((t.getD i 0).toNat : Nat) : Int))) hA 6 rfl rfl rfl rfl hP (hM.sub (.cons _ (.cons _ (List.nil_sublist _)))) (fun w1 hM => zy rfl (ar_conv Tryz.underlying5 Tryz.underlying51 (in_u32 (by omega) (by omega)))) fun a hA => ?_
  refine qk hA 7 rfl rfl rfl rfl hP (hM.sub (.cons _ (.cons _ (List.nil_sublist _)))) (fun w1 hM => qa rfl) fun a hA => ?_
  refine qk (v := .int .i64 (((i % 4 : Nat) : Int))) hA 8 rfl rfl rfl rfl hP (hM.sub (.cons _ (.cons _ (List.nil_sublist _)))) (fun w1 hM => qg rfl rfl (ar_rem (by decide) ((Int.tmod_eq_emod_of_nonneg (by omega)).trans (by omega)))) fun a hA => ?_
  refine qk (v := .int .i64 (((i % 4 * 8 : Nat) : Int))) hA 9 rfl rfl rfl rfl hP (hM.sub (.cons _ (.cons _ (List.nil_sublist _)))) (fun w1 hM => qg rfl rfl (ar_mul ((in_i64 (by omega) (by omega)).trans (by omega)))) fun a hA => ?_
  refine qk (v := .int .u32 ((((t.getD i 0).toNat * 2 ^ (i % 4 * 8) : Nat) : Int))) hA 10 rfl rfl rfl rfl hP (hM.sub (.cons _ (.cons _ (List.nil_sublist _)))) (fun w1 hM => qg rfl rfl (ar_shl (n := i % 4 * 8) rfl (Nat.ble_eq_true_of_le (show i % 4 * 8 ≤ 32 by omega)) ((in_u32 (by rw [← qnh]; omega) (by rw [← qnh]; omega)).trans (qnh _ _).symm))) fun a hA => ?_
  refine qt (by kernel_rfl) (qbc (v := .int .u32 (((wdK t i (i / 4) : Nat) : Int))) hA 4 rfl rfl rfl rfl (ky hM 0 rfl (qgi (by omega)) ByN_is1_51 rfl) (hM.sub (.cons _ (.cons _ (List.nil_sublist _)))) ?_)
  intro a hA
  refine qk (v := .int .u32 (((wdK t (i + 1) (i / 4) : Nat) : Int))) hA 11 rfl rfl rfl rfl hP (hM.sub (.cons _ (.cons _ (List.nil_sublist _)))) (fun w1 hM => qg rfl rfl (ar_or hwo)) fun a hA => ?_
  refine qk (v := .pointer (some ⟨gw, (i / 4) * 1, none⟩)) hA 12 rfl rfl rfl rfl hP (hM.sub (.cons _ (.cons _ (List.nil_sublist _)))) (fun w1 hM => jd Tryz.underlying32 (by kernel_rfl) rfl rfl rfl (show i / 4 < (t.length + 3) / 4 by omega)) fun a hA => ?_
  refine qt (by kernel_rfl) (uq (cs := [.int .u32 (((wdK t (i + 1) (i / 4) : Nat) : Int))]) (L' := (.row 51 1 (.slice (some ⟨gw, 0, none⟩) (((t.length + 3) / 4)) (((t.length + 3) / 4))) (((t.length + 3) / 4)) ((over (uC (wsI t ((t.length + 3) / 4) i)) ((i / 4) * 1) [.int .u32 (((wdK t (i + 1) (i / 4) : Nat) : Int))])) :: .obj g2 (.cells #[.bool false, .slice none 0 0, .slice none 0 0, .bool false, .slice none 0 0, .slice none 0 0] 36) :: [])) (us := []) hA hM 13 rfl rfl rfl (jo rfl rfl rfl (by kernel_rfl) hM 0 rfl (show (i / 4) * 1 + 1 ≤ (t.length + 3) / 4 * 1 by omega) rfl) 0 rfl rfl ?_)
  intro w19 hM
  replace hM : Mg w w19 (.row 51 1 (.slice (some ⟨gw, 0, none⟩) (((t.length + 3) / 4)) (((t.length + 3) / 4))) (((t.length + 3) / 4)) ((uC (wsI t ((t.length + 3) / 4) (i + 1)))) :: .obj g2 (.cells #[.bool false, .slice none 0 0, .slice none 0 0, .bool false, .slice none 0 0, .slice none 0 0] 36) :: []) := by
   have h9 := hM
   rw [zcd (by omega) (by omega)] at h9
   exact h9
  refine ⟨(hM.sub (.cons _ (.cons _ (List.nil_sublist _)))), ?_⟩
  refine zn (by kernel_rfl) ?_
  refine hK17 _ _ (wrl (sdo (v := .int .i64 (((i + 1 : Nat) : Int))) hA (qg rfl rfl (ar_add ((in_i64 (by omega) (by omega)).trans (by omega)))) fun a hA => ?_))
  refine sdo hA (qa rfl) fun a hA => ?_
  refine qe ?_
  refine hK12 _ _ _ (by omega) ⟨i + 1, rfl, (by omega), hA.keep _ ⟨rfl, rfl, rfl, rfl, rfl, rfl, rfl, rfl, rfl, rfl, rfl, rfl, rfl, rfl, trivial⟩, hM⟩
 ·
  have hb15' := of_decide_eq_false hb15
  refine sdo (v := .bool false) hA (qg rfl rfl (fun w => (zi w).trans (by rw [hb15]))) fun a hA => ?_
  refine qe (hK14 _ _ (wsk fun K20 hK20 => wp_cond_false (hA.ev rfl) ?_))
  refine wp_exit (hK9 _ _ (wsk fun K21 hK21 => wrl (qi hA rfl rfl rfl (qf rfl rfl (fun w => by kernel_rfl)) (zbj) ?_)))
  rintro _ w26 ⟨g22, g23, g24, rfl, hM25⟩
  replace hM : Mg w w26 (.row 51 1 (.slice (some ⟨g22, 0, none⟩) 0 2) 0 ([]) :: .row 51 1 (.slice (some ⟨g23, 0, none⟩) 1 2) 1 ([.int .u32 1]) :: .row 51 1 (.slice (some ⟨g24, 0, none⟩) 1 2) 1 ([.int .u32 1]) :: .row 51 1 (.slice (some ⟨gw, 0, none⟩) (((t.length + 3) / 4)) (((t.length + 3) / 4))) (((t.length + 3) / 4)) ((uC (wsI t ((t.length + 3) / 4) i))) :: .obj g2 (.cells #[.bool false, .slice none 0 0, .slice none 0 0, .bool false, .slice none 0 0, .slice none 0 0] 36) :: []) := (hM.both hM25 (qn (by simp) (qn (by simp) (qy zd))) (qn (by simp) (qn (by simp) (qn (by simp) (qy zd)))))
  refine ⟨_, rfl, ?_⟩
  intro a hA
  refine xr (vs := [.bool false, .slice none 0 0, .slice none 0 0, .bool false, .slice none 0 0, .slice none 0 0]) (t := 36) hA hM rfl rfl rfl (fun g => .pointer (some ⟨g, 0, none⟩)) (qp (z := .agg #[.bool false, .slice none 0 0, .slice none 0 0, .bool false, .slice none 0 0, .slice none 0 0]) (by kernel_rfl) rfl) (by decide) ?_
  intro g27 w28 hM a hA
  refine vg (us := [.bool false, .slice (some ⟨g22, 0, none⟩) 0 2, .slice (some ⟨g23, 0, none⟩) 1 2, .bool false, .slice none 0 0, .slice (some ⟨g24, 0, none⟩) 1 2]) (L' := (.obj g27 (.cells #[.bool false, .slice (some ⟨g22, 0, none⟩) 0 2, .slice (some ⟨g23, 0, none⟩) 1 2, .bool false, .slice none 0 0, .slice (some ⟨g24, 0, none⟩) 1 2] 36) :: .row 51 1 (.slice (some ⟨g22, 0, none⟩) 0 2) 0 ([]) :: .row 51 1 (.slice (some ⟨g23, 0, none⟩) 1 2) 1 ([.int .u32 1]) :: .row 51 1 (.slice (some ⟨g24, 0, none⟩) 1 2) 1 ([.int .u32 1]) :: .row 51 1 (.slice (some ⟨gw, 0, none⟩) (((t.length + 3) / 4)) (((t.length + 3) / 4))) (((t.length + 3) / 4)) ((uC (wsI t ((t.length + 3) / 4) i))) :: .obj g2 (.cells #[.bool false, .slice none 0 0, .slice none 0 0, .bool false, .slice none 0 0, .slice none 0 0] 36) :: [])) hA hM rfl rfl (jz rfl rfl rfl (by kernel_rfl) hM 0 rfl rfl rfl) 0 rfl rfl rfl ?_
  intro w29 hM
  refine qe (hK21 _ _ (wsk fun K30 hK30 => wrl (sdo hA (qa rfl) fun a hA => ?_)))
  refine sdo (v := .pointer (some ⟨g27, 0, none⟩)) hA (qh ByN_fld_36_0 rfl rfl) fun a hA => ?_
  refine sdo (v := .pointer (some ⟨g27, 1, none⟩)) hA (qh ByN_fld_34_1 rfl rfl) fun a hA => ?_
  refine vg (us := [.bool false, .slice (some ⟨gw, 0, none⟩) (((t.length + 3) / 4)) (((t.length + 3) / 4)), .slice (some ⟨g23, 0, none⟩) 1 2, .bool false, .slice none 0 0, .slice (some ⟨g24, 0, none⟩) 1 2]) (L' := (.obj g27 (.cells #[.bool false, .slice (some ⟨gw, 0, none⟩) (((t.length + 3) / 4)) (((t.length + 3) / 4)), .slice (some ⟨g23, 0, none⟩) 1 2, .bool false, .slice none 0 0, .slice (some ⟨g24, 0, none⟩) 1 2] 36) :: .row 51 1 (.slice (some ⟨g22, 0, none⟩) 0 2) 0 ([]) :: .row 51 1 (.slice (some ⟨g23, 0, none⟩) 1 2) 1 ([.int .u32 1]) :: .row 51 1 (.slice (some ⟨g24, 0, none⟩) 1 2) 1 ([.int .u32 1]) :: .row 51 1 (.slice (some ⟨gw, 0, none⟩) (((t.length + 3) / 4)) (((t.length + 3) / 4))) (((t.length + 3) / 4)) ((uC (wsI t ((t.length + 3) / 4) i))) :: .obj g2 (.cells #[.bool false, .slice none 0 0, .slice none 0 0, .bool false, .slice none 0 0, .slice none 0 0] 36) :: [])) hA hM rfl rfl (jz rfl rfl rfl (by kernel_rfl) hM 0 rfl rfl rfl) 0 rfl rfl rfl ?_
  intro w31 hM
  refine qe (hK30 _ _ (wsk fun K32 hK32 => wrl (sdo hA (jc hM ByN_isS_36 rfl 0 rfl (cs := [.bool false, .slice (some ⟨gw, 0, none⟩) (((t.length + 3) / 4)) (((t.length + 3) / 4)), .slice (some ⟨g23, 0, none⟩) 1 2, .bool false, .slice none 0 0, .slice (some ⟨g24, 0, none⟩) 1 2]) rfl rfl) fun a hA => ?_)))
  refine vg (us := [.bool false, .slice (some ⟨gw, 0, none⟩) (((t.length + 3) / 4)) (((t.length + 3) / 4)), .slice (some ⟨g23, 0, none⟩) 1 2, .bool false, .slice none 0 0, .slice (some ⟨g24, 0, none⟩) 1 2]) (L' := (.obj g27 (.cells #[.bool false, .slice (some ⟨gw, 0, none⟩) (((t.length + 3) / 4)) (((t.length + 3) / 4)), .slice (some ⟨g23, 0, none⟩) 1 2, .bool false, .slice none 0 0, .slice (some ⟨g24, 0, none⟩) 1 2] 36) :: .row 51 1 (.slice (some ⟨g22, 0, none⟩) 0 2) 0 ([]) :: .row 51 1 (.slice (some ⟨g23, 0, none⟩) 1 2) 1 ([.int .u32 1]) :: .row 51 1 (.slice (some ⟨g24, 0, none⟩) 1 2) 1 ([.int .u32 1]) :: .row 51 1 (.slice (some ⟨gw, 0, none⟩) (((t.length + 3) / 4)) (((t.length + 3) / 4))) (((t.length + 3) / 4)) ((uC (wsI t ((t.length + 3) / 4) i))) :: .obj g2 (.cells #[.bool false, .slice (some ⟨gw, 0, none⟩) (((t.length + 3) / 4)) (((t.length + 3) / 4)), .slice (some ⟨g23, 0, none⟩) 1 2, .bool false, .slice none 0 0, .slice (some ⟨g24, 0, none⟩) 1 2] 36) :: [])) hA hM rfl rfl (jz rfl rfl rfl (by kernel_rfl) hM 5 rfl rfl rfl) 5 rfl rfl rfl ?_
  intro w33 hM
  refine qe (hK32 _ _ (wp_ret (hret _ _ (en1 hA rfl (vw hM ByN_isS_36 rfl 5 rfl (cs := [.bool false, .slice (some ⟨gw, 0, none⟩) (((t.length + 3) / 4)) (((t.length + 3) / 4)), .slice (some ⟨g23, 0, none⟩) 1 2, .bool false, .slice none 0 0, .slice (some ⟨g24, 0, none⟩) 1 2]) rfl rfl) ?_))))
  replace hM : Mg w w33 (.row 51 1 (.slice (some ⟨g23, 0, none⟩) 1 2) 1 ([.int .u32 1]) :: .row 51 1 (.slice (some ⟨g24, 0, none⟩) 1 2) 1 ([.int .u32 1]) :: .row 51 1 (.slice (some ⟨gw, 0, none⟩) (((t.length + 3) / 4)) (((t.length + 3) / 4))) (((t.length + 3) / 4)) ((uC (wsI t ((t.length + 3) / 4) i))) :: []) := by
   have h9 := hM.sub (.cons _ (.cons _ (.cons_cons _ (.cons_cons _ (.cons_cons _ (.cons _ (.refl _)))))))
   exact h9
  replace hM : Mg w w33 (.row 51 1 (.slice (some ⟨g24, 0, none⟩) 1 2) 1 ([.int .u32 1]) :: .row 51 1 (.slice (some ⟨g23, 0, none⟩) 1 2) 1 ([.int .u32 1]) :: .row 51 1 (.slice (some ⟨gw, 0, none⟩) (((t.length + 3) / 4)) (((t.length + 3) / 4))) (((t.length + 3) / 4)) ((uC (wsI t ((t.length + 3) / 4) i))) :: []) := hM.perm (List.perm_middle (l₁ := [_]))
  replace hM : Mg w w33 (.row 51 1 (.slice (some ⟨g23, 0, none⟩) 1 2) 1 ([.int .u32 1]) :: .row 51 1 (.slice (some ⟨g24, 0, none⟩) 1 2) 1 ([.int .u32 1]) :: .row 51 1 (.slice (some ⟨gw, 0, none⟩) (((t.length + 3) / 4)) (((t.length + 3) / 4))) (((t.length + 3) / 4)) ((uC (wsI t ((t.length + 3) / 4) i))) :: []) := hM.perm (List.perm_middle (l₁ := [_]))
  replace hM : Mg w w33 (.row 51 1 (.slice (some ⟨gw, 0, none⟩) (((t.length + 3) / 4)) (((t.length + 3) / 4))) (((t.length + 3) / 4)) ((uC (wsI t ((t.length + 3) / 4) i))) :: .row 51 1 (.slice (some ⟨g23, 0, none⟩) 1 2) 1 ([.int .u32 1]) :: .row 51 1 (.slice (some ⟨g24, 0, none⟩) 1 2) 1 ([.int .u32 1]) :: []) := hM.perm (List.perm_middle (l₁ := [_, _]))
  obtain rfl : i = t.length := by omega
  have e9 : wsI t ((t.length + 3) / 4) t.length = words (leN l) := by subst ht; exact zce
  have e8 : (t.length + 3) / 4 = (words (leN l)).length := by rw [← e9]; simp [wsI]
  rw [e9] at hM
  rw [e8] at hM ⊢
  exact ⟨gw, g23, g24, rfl, hM⟩
end Go.Proofs.YtbhdnpbbmpemnaaGreatDoor.G
namespace Go.Proofs.YtbhdnpbbmpemnaaGreatDoor.G
open Go.RowKit
set_option linter.unusedVariables false
set_option linter.unusedSimpArgs false

def kr (v : Value) : Bool := match v with | .int .u32 _ => false | _ => true
theorem qni {v : Value} (h : kr v = true) : ∀ n, v ≠ .int .u32 n := by
  rintro n rfl
  cases h
/-- What is read as words in the one world is so in the other. -/
def Carry (w w' : World) : Prop := ∀ o l, Rd w o l → Rd w' o l
theorem Carry.trans {w w' w'' : World} (h : Carry w w') (k : Carry w' w'') : Carry w w'' := fun o l r => k o l (h o l r)
theorem jq {w w' : World} {o : Option Addr} {c : Nat} {l : List Nat} (h : Sc w o c l) (hc : Carry w w') : Sc w' o c l := ⟨hc _ _ h.rd, h.nil, h.cap⟩
theorem jv {w w' : World} {q : Q6} {o1 o2 o3 o4 : Option Addr} {c1 c2 c3 c4 : Nat} (h : Nm w q o1 c1 o2 c2 o3 c3 o4 c4) (hc : Carry w w') : Nm w' q o1 c1 o2 c2 o3 c3 o4 c4 := ⟨jq h.s1 hc, jq h.s2 hc, jq h.s3 hc, jq h.s4 hc⟩
section
variable {P : Program} {w0 w : World} {L : List Ck} {l : List (Nat × Value)} {dst : Option Tmp} {ty : TypeId} {pos : String} {after : Array Edge} {guard : Option (Nat × Bool)} {v : Value}
theorem qbj {g : Nat} {t : TypeId} : ∀ (cs : List Value) (w : World) (L : List Ck) (vs : List Value) (o : Nat), Mg w0 w L → ∀ k : Nat, L[k]? = some (Ck.obj g (.cells vs.toArray t)) → o + cs.length ≤ vs.length → vs.all kr = true → cs.all kr = true → Carry w (w.setCells g o cs)
  | [], w, L, vs, o, h, k, hk, hl, h1, h2 => fun _ _ r => r
  | c :: cs, w, L, vs, o, h, k, hk, hl, h1, h2 => by
    have hp := h.put k hk o c
    have hk1 : (L.set k (.obj g (.cells (vs.set o c).toArray t)))[k]? = some (.obj g (.cells (vs.set o c).toArray t)) := List.getElem?_set_self (List.getElem?_eq_some_iff.1 hk).1
    simp only [List.length_cons] at hl
    simp only [List.all_cons, Bool.and_eq_true] at h2
    have hlt : o < vs.length := by omega
    have hv : (vs.set o c).all kr = true := by
      rw [List.all_eq_true] at h1 ⊢
      intro x hx
      rcases List.mem_or_eq_of_mem_set hx with k | k
      · exact h1 x k
      · rw [k]; exact h2.1
    have hrec := qbj cs _ _ _ (o + 1) hp k hk1 (by rw [List.length_set]; omega) hv h2.2
    refine Carry.trans ?_ hrec
    intro so ls r
    exact Rd.setNo r (h.cell k hk o (List.getElem?_eq_getElem hlt)) (qni (List.all_eq_true.1 h1 _ (List.getElem_mem hlt))) c
theorem qqc (w : World) (o : Obj) : Carry w (w.alloc o) := fun _ _ r => r.below ((Below.refl _ _).alloc (Nat.le_refl _) _)
variable {ops : List Oper} {Q : Exit → Act → World → Prop} {a : Act} {n : Nat} {o : Oper} {rest : List Oper} {d : Nat}
theorem yh (hA : Sl a n l) (hM : Mg w0 w L) (hg : zt l ops o = true) (hdst : o.dst = none) {g q : Nat} {cs vs us : List Value} {e : TypeId} (he : Sets P l o w (w.setCells g q cs)) (k : Nat) (hk0 : L[k]? = some (.obj g (.cells vs.toArray e))) (hus : over vs q cs = us) {L' : List Ck} (hL : L.set k (.obj g (.cells us.toArray e)) = L') (hl : Nat.ble (q + cs.length) vs.length = true) (h1 : vs.all kr = true) (h2 : cs.all kr = true)
    (hk : ∀ w', Mg w0 w' L' → Carry w w' → wpList P ops.toArray Q rest a w') : wpList P ops.toArray Q (o :: rest) a w :=
  yk hA hg hdst he (hk _ (by subst hus hL; exact Mg.puts cs w L vs q hM k hk0) (qbj cs w L vs q hM k hk0 (Nat.le_of_ble_eq_true hl) h1 h2))
theorem qif (hA : Sl a n l) (hM : Mg w0 w L) (hg : zt l ops o = true) (hdst : o.dst = some d) (hd : Nat.blt d n = true) {vs : List Value} {t : TypeId} (val : Nat → Value) (he : Does P l o w (val w.heap.size) (w.alloc (.cells vs.toArray t))) (ht : t ≠ BY)
    (hk : ∀ g w', Mg w0 w' (.obj g (.cells vs.toArray t) :: L) → Carry w w' → ∀ a', Sl a' n ((d, val g) :: l) → wpList P ops.toArray Q rest a' w') : wpList P ops.toArray Q (o :: rest) a w :=
  vf hA hg hdst hd he (hk _ _ (hM.addObj _ (ym ht)) (qqc _ _))
end
end Go.Proofs.YtbhdnpbbmpemnaaGreatDoor.G
namespace Go.Proofs.YtbhdnpbbmpemnaaGreatDoor.G
open Go.RowKit
set_option linter.unusedVariables false
set_option linter.unusedSimpArgs false
set_option maxRecDepth 100000
theorem ByO_is1_3 : Is1 Tryz.prog 3 := ⟨⟨_, Tryz.underlying3, rfl⟩, by kernel_rfl⟩
theorem ByO_is1_4 : Is1 Tryz.prog 4 := ⟨⟨_, Tryz.underlying4, rfl⟩, by kernel_rfl⟩
theorem ByO_is1_5 : Is1 Tryz.prog 5 := ⟨⟨_, Tryz.underlying5, rfl⟩, by kernel_rfl⟩
theorem ByO_fld_39_0 : FieldAt Tryz.prog 39 0 0 := ⟨_, _, Tryz.underlying39, rfl, rfl, by kernel_rfl⟩
theorem ByO_fld_39_2 : FieldAt Tryz.prog 39 2 2 := ⟨_, _, Tryz.underlying39, rfl, rfl, by kernel_rfl⟩
theorem ByO_isS_36 : IsS Tryz.prog 36 6 := ⟨⟨_, Tryz.underlying36⟩, by kernel_rfl⟩
theorem ByO_isS_39 : IsS Tryz.prog 39 3 := ⟨⟨_, Tryz.underlying39⟩, by kernel_rfl⟩
def zr (l : List UInt8) (i : Nat) : List UInt8 := (l.take i).map (fun b => 255 - b) ++ l.drop i
theorem kg (l : List UInt8) (i : Nat) : (zr l i).length = l.length := by unfold zr; simp; omega
theorem qrc (l : List UInt8) : zr l l.length = l.map (fun b => 255 - b) := by simp [zr]
theorem qwc (b : UInt8) : (255 - b).toNat = 255 - b.toNat := by
 have h := UInt8.toNat_lt b
 rw [UInt8.toNat_sub_of_le]
 ·
  rfl
 ·
  rw [UInt8.le_iff_toNat_le]
  show b.toNat ≤ 255
  omega
theorem jk {l : List UInt8} {i : Nat} (h : i < l.length) : (Lib.byteCells l)[i * 1]? = some (.int .u8 (((l.getD i 0).toNat : Nat) : Int)) := by
 rw [Nat.mul_one]
 unfold Lib.byteCells
 rw [List.getElem?_map, List.getElem?_eq_getElem h, List.getD_eq_getElem?_getD, List.getElem?_eq_getElem h]
 rfl
theorem qrd {l : List UInt8} {i : Nat} (h : i < l.length) : (Lib.byteCells (zr l i))[i * 1]? = some (.int .u8 (((l.getD i 0).toNat : Nat) : Int)) := by
 have h1 := jk (l := zr l i) (i := i) (by rw [kg]; exact h)
 have e : (zr l i).getD i 0 = l.getD i 0 := by
  unfold zr
  rw [List.getD_eq_getElem?_getD, List.getElem?_append_right (by simp; omega)]
  simp only [List.length_map, List.length_take]
  rw [List.getElem?_drop, List.getD_eq_getElem?_getD]
  congr 2
  omega
 rw [e] at h1
 exact h1
theorem qmb {l : List UInt8} {i : Nat} (h : i < l.length) : over (Lib.byteCells (zr l i)) (i * 1) [.int .u8 ((255 - (l.getD i 0).toNat : Nat) : Int)] = Lib.byteCells (zr l (i + 1)) := by
 rw [Nat.mul_one]
 show (Lib.byteCells (zr l i)).set i _ = _
 have e : l.getD i 0 = l[i] := by rw [List.getD_eq_getElem?_getD, List.getElem?_eq_getElem h]; rfl
 rw [e, ← qwc]
 unfold Lib.byteCells zr
 rw [List.take_succ_eq_append_getElem h, List.drop_eq_getElem_cons h]
 simp only [List.map_append, List.map_cons, List.map_nil, List.append_assoc, List.cons_append, List.nil_append]
 rw [List.set_append_right _ _ (by simp; omega)]
 congr 1
 simp only [List.length_map, List.length_take, Nat.min_eq_left (Nat.le_of_lt h), Nat.sub_self, List.set_cons_zero]
theorem qre (l : List UInt8) : leN (l.map fun b => 255 - b) + leN l + 1 = 256 ^ l.length := by
 induction l with
 | nil => simp [leN]
 | cons b t ih =>
  have h := UInt8.toNat_lt b
  simp only [List.map_cons, leN, List.length_cons, qwc]
  rw [Nat.pow_succ]
  omega
theorem zdh : ∀ x : Fin 256, bits .xor .u8 (if IntKind.u8.signed = true then -1 else IntKind.u8.max) ((x.val : Nat) : Int) = ((255 - x.val : Nat) : Int) := by decide +kernel
theorem qwd {P : Program} {x : Nat} (h : x < 256) : ∀ w, (Op.unary .xor (.int .u8 ((x : Nat) : Int))).run P w = .ok (.int .u8 ((255 - x : Nat) : Int)) w := fun w => by
 have e := zdh ⟨x, h⟩
 simp [go_sem]
 exact e
def zw (bg : Bool) (p : List UInt8) : List UInt8 := if bg = true then p.reverse else p
def jt (bg sg : Bool) (p : List UInt8) : Q6 := if sg = true ∧ 128 ≤ ((zw bg p).getD (p.length - 1) 0).toNat then Q6.whole true (256 ^ p.length - leN (zw bg p)) else Q6.whole false (leN (zw bg p))
theorem qag {w0 w : World} {L : List Ck} (hM : Mg w0 w L) (k : Nat) {g x : Nat} (hk : L[k]? = some (.row 51 1 (.slice (some ⟨g, 0, none⟩) (words x).length (words x).length) (words x).length (uC (words x)))) : Sc w (some ⟨g, 0, none⟩) (words x).length (words x) := by
 have hr : w.ownsRow w0.heap.size 51 1 (.slice (some ⟨g, 0, none⟩) (words x).length (words x).length) (words x).length (uC (words x)) := hM.has k hk
 refine ⟨⟨words_dig x, fun hne => ⟨g, 0, rfl, qng hM k hk, fun j hj => ?_⟩⟩, (fun h => (by cases h)), Nat.le_refl _⟩
 rw [Nat.zero_add]
 refine yf hM k hk j _ ?_
 unfold uC
 rw [List.getElem?_map, List.getElem?_eq_getElem hj, List.getD_eq_getElem?_getD, List.getElem?_eq_getElem hj]
 rfl
theorem xh (bg : Bool) (p : List UInt8) : (zw bg p).length = p.length := by unfold zw; split <;> simp
theorem zlf {x : Nat} (hx : (words x).length ≤ 512) : xm (Q6.whole false x) = 0 := by
 unfold xm xd
 rw [xz hx (by simp)]
 simp [Q6.whole]
theorem jx {x n : Nat} (hn : n ≤ 64) (h : x ≤ 256 ^ n) : (words x).length ≤ 512 := by
 have h1 : 256 ^ n ≤ 256 ^ 64 := Nat.pow_le_pow_right (by decide) hn
 have h2 : (256 : Nat) ^ 64 < pw 17 := by unfold pw; decide
 have h3 : (words x).length ≤ 17 := words_length_iff.2 (Nat.lt_of_le_of_lt (Nat.le_trans h h1) h2)
 omega
theorem qmc {w : World} {x n : Nat} (hn : n ≤ 64) (h : x < 256 ^ n) {o1 o2 o3 o4 : Option Addr} {c1 c2 c3 c4 : Nat} (ha : Nm w (Q6.whole false x) o1 c1 o2 c2 o3 c3 o4 c4) : Calls Tryz.prog 22 #[xy (Q6.whole false x) o1 c1 o2 c2 o3 c3 o4 c4] w (AnsN w (Q6.whole true (x + 1), 0)) := by
 have h1 := jx hn (Nat.le_of_lt h)
 have h2 : (words (x + 1)).length ≤ 512 := jx hn h
 have k := zdg ha (jl h1) (zlf h1) h1 (by simp)
 rw [qih (zlf h1), show qqh false x = x + 1 from rfl, qpj h2] at k
 exact k
theorem qci {w : World} {sp : Option Addr} {cp : Nat} {p : List UInt8} (hp : Rb w sp p) (hl1 : 1 ≤ p.length) (hl64 : p.length ≤ 64) : Calls Tryz.prog 12 #[.agg #[.int .i64 ((p.length : Nat) : Int), .bool true, .bool false], .slice sp p.length cp] w (AnsV w (jt true false p)) := by
 have hM : Mg w w ([]) := Mg.start w
 refine za (l := [(0, .agg #[.int .i64 (((p.length : Nat) : Int)), .bool true, .bool false]), (1, .slice sp p.length cp)]) Tryz.func12 rfl Tryz.ntmps12 rfl rfl ?_
 intro Q hret hnorm hP a hA
 refine wsk fun K1 hK1 => wrl (xr (vs := [.int .i64 (((p.length : Nat) : Int)), .bool true, .bool false]) (t := 39) hA hM rfl rfl rfl (fun g => .pointer (some ⟨g, 0, none⟩)) (zf rfl rfl) (by decide) ?_)
 intro g2 w3 hM a hA
 refine xr (vs := [.bool false, .slice none 0 0, .slice none 0 0, .bool false, .slice none 0 0, .slice none 0 0]) (t := 36) hA hM rfl rfl rfl (fun g => .pointer (some ⟨g, 0, none⟩)) (qp (z := .agg #[.bool false, .slice none 0 0, .slice none 0 0, .bool false, .slice none 0 0, .slice none 0 0]) (by kernel_rfl) rfl) (by decide) ?_
 intro g4 w5 hM a hA
 refine qe (hK1 _ _ (wsk fun K6 hK6 => wrl (sdo hA (jc hM ByO_isS_39 rfl 1 rfl (cs := [.int .i64 (((p.length : Nat) : Int)), .bool true, .bool false]) rfl rfl) fun a hA => ?_)))
 refine sdo hA (qa rfl) fun a hA => ?_
 refine qi hA rfl rfl rfl (qf rfl rfl (fun w => by kernel_rfl)) (ye (hp.below hM.bel) (by omega)) ?_
 rintro _ w9 ⟨g7, rfl, hM8⟩
 replace hM : Mg w w9 (.row BY 1 (.slice (some ⟨g7, 0, none⟩) p.length p.length) p.length ((Lib.byteCells p.reverse)) :: .obj g4 (.cells #[.bool false, .slice none 0 0, .slice none 0 0, .bool false, .slice none 0 0, .slice none 0 0] 36) :: .obj g2 (.cells #[.int .i64 (((p.length : Nat) : Int)), .bool true, .bool false] 39) :: []) := (hM.both hM8 (qn (by simp) (qn (by simp) (qy zd))) (qn (by simp) (qy zd)))
 refine ⟨_, rfl, ?_⟩
 intro a hA
 refine sdo hA (qb rfl) fun a hA => ?_
 refine qe (hK6 _ _ (wsk fun K10 hK10 => wsk fun K11 hK11 => wrl (sdo (v := .pointer (some ⟨g2, 2, none⟩)) hA (qh ByO_fld_39_2 rfl rfl) fun a hA => ?_)))
 refine sdo hA (zx hM ByO_is1_4 rfl 2 rfl rfl) fun a hA => ?_
 refine sdo (v := .bool true) hA (zp rfl zu) fun a hA => ?_
 refine sdo hA (qa rfl) fun a hA => ?_
 iterate 7 refine zg hA rfl rfl rfl fun a hA => ?_
 refine sdo (v := .bool true) hA (qj rfl rfl rfl rfl) fun a hA => ?_
 refine qe (hK11 _ _ (wp_cond_true (hA.ev rfl) ?_))
 refine wsk fun K12 hK12 => wrl (sdo hA (qa rfl) fun a hA => ?_)
 have hx17 : (p.reverse).length = p.length := by simp [kg]
 refine qi hA rfl rfl rfl (qf rfl rfl (fun w => by kernel_rfl)) ((by have h9 := vx (w := w9) (l := p.reverse) (vl (bs := p.reverse) hM 0 rfl).1 (ca := p.length) (by omega) (by omega); rw [hx17] at h9; exact h9)) ?_
 rintro _ w18 ⟨g13, g14, g15, rfl, hM16⟩
 replace hM : Mg w w18 (.row 51 1 (.slice (some ⟨g13, 0, none⟩) ((words (leN p.reverse)).length) ((words (leN p.reverse)).length)) ((words (leN p.reverse)).length) ((uC (words (leN p.reverse)))) :: .row 51 1 (.slice (some ⟨g14, 0, none⟩) 1 2) 1 ([.int .u32 1]) :: .row 51 1 (.slice (some ⟨g15, 0, none⟩) 1 2) 1 ([.int .u32 1]) :: .row BY 1 (.slice (some ⟨g7, 0, none⟩) p.length p.length) p.length ((Lib.byteCells p.reverse)) :: .obj g4 (.cells #[.bool false, .slice none 0 0, .slice none 0 0, .bool false, .slice none 0 0, .slice none 0 0] 36) :: .obj g2 (.cells #[.int .i64 (((p.length : Nat) : Int)), .bool true, .bool false] 39) :: []) := (hM.both hM16 (qn (by simp) (qn (by simp) (qn (by simp) (qy zd)))) (qn (by simp) (qn (by simp) (qn (by simp) (qy zd)))))
 refine ⟨_, rfl, ?_⟩
 intro a hA
 refine vg (us := [.bool false, .slice (some ⟨g13, 0, none⟩) ((words (leN p.reverse)).length) ((words (leN p.reverse)).length), .slice (some ⟨g14, 0, none⟩) 1 2, .bool false, .slice none 0 0, .slice (some ⟨g15, 0, none⟩) 1 2]) (L' := (.row 51 1 (.slice (some ⟨g13, 0, none⟩) ((words (leN p.reverse)).length) ((words (leN p.reverse)).length)) ((words (leN p.reverse)).length) ((uC (words (leN p.reverse)))) :: .row 51 1 (.slice (some ⟨g14, 0, none⟩) 1 2) 1 ([.int .u32 1]) :: .row 51 1 (.slice (some ⟨g15, 0, none⟩) 1 2) 1 ([.int .u32 1]) :: .row BY 1 (.slice (some ⟨g7, 0, none⟩) p.length p.length) p.length ((Lib.byteCells p.reverse)) :: .obj g4 (.cells #[.bool false, .slice (some ⟨g13, 0, none⟩) ((words (leN p.reverse)).length) ((words (leN p.reverse)).length), .slice (some ⟨g14, 0, none⟩) 1 2, .bool false, .slice none 0 0, .slice (some ⟨g15, 0, none⟩) 1 2] 36) :: .obj g2 (.cells #[.int .i64 (((p.length : Nat) : Int)), .bool true, .bool false] 39) :: [])) hA hM rfl rfl (jz rfl rfl rfl (by kernel_rfl) hM 4 rfl rfl rfl) 4 rfl rfl rfl ?_
 intro w19 hM
 refine qe (hK12 _ _ (wp_ret (hret _ _ (en1 hA rfl (vw hM ByO_isS_36 rfl 4 rfl (cs := [.bool false, .slice (some ⟨g13, 0, none⟩) ((words (leN p.reverse)).length) ((words (leN p.reverse)).length), .slice (some ⟨g14, 0, none⟩) 1 2, .bool false, .slice none 0 0, .slice (some ⟨g15, 0, none⟩) 1 2]) rfl rfl) ?_))))
 have e9 : jt true false p = Q6.whole false (leN p.reverse) := by unfold jt; rw [if_neg (fun h => (by cases h.1))]; rfl
 rw [e9]
 exact ⟨_, _, _, _, _, _, _, _, rfl, ⟨qag hM 0 rfl, ku (x := 1) hM 1 rfl (by decide), qeb, ku (x := 1) hM 2 rfl (by decide)⟩, hM.bel⟩
theorem qee {w : World} {sp : Option Addr} {cp : Nat} {p : List UInt8} (hp : Rb w sp p) (hl1 : 1 ≤ p.length) (hl64 : p.length ≤ 64) : Calls Tryz.prog 12 #[.agg #[.int .i64 ((p.length : Nat) : Int), .bool true, .bool true], .slice sp p.length cp] w (AnsV w (jt true true p)) := by
 have hM : Mg w w ([]) := Mg.start w
 refine za (l := [(0, .agg #[.int .i64 (((p.length : Nat) : Int)), .bool true, .bool true]), (1, .slice sp p.length cp)]) Tryz.func12 rfl Tryz.ntmps12 rfl rfl ?_
 intro Q hret hnorm hP a hA
 refine wsk fun K1 hK1 => wrl (xr (vs := [.int .i64 (((p.length : Nat) : Int)), .bool true, .bool true]) (t := 39) hA hM rfl rfl rfl (fun g => .pointer (some ⟨g, 0, none⟩)) (zf rfl rfl) (by decide) ?_)
 intro g2 w3 hM a hA
 refine xr (vs := [.bool false, .slice none 0 0, .slice none 0 0, .bool false, .slice none 0 0, .slice none 0 0]) (t := 36) hA hM rfl rfl rfl (fun g => .pointer (some ⟨g, 0, none⟩)) (qp (z := .agg #[.bool false, .slice none 0 0, .slice none 0 0, .bool false, .slice none 0 0, .slice none 0 0]) (by kernel_rfl) rfl) (by decide) ?_
 intro g4 w5 hM a hA
 refine qe (hK1 _ _ (wsk fun K6 hK6 => wrl (sdo hA (jc hM ByO_isS_39 rfl 1 rfl (cs := [.int .i64 (((p.length : Nat) : Int)), .bool true, .bool true]) rfl rfl) fun a hA => ?_)))
 refine sdo hA (qa rfl) fun a hA => ?_
 refine qi hA rfl rfl rfl (qf rfl rfl (fun w => by kernel_rfl)) (ye (hp.below hM.bel) (by omega)) ?_
 rintro _ w9 ⟨g7, rfl, hM8⟩
 replace hM : Mg w w9 (.row BY 1 (.slice (some ⟨g7, 0, none⟩) p.length p.length) p.length ((Lib.byteCells p.reverse)) :: .obj g4 (.cells #[.bool false, .slice none 0 0, .slice none 0 0, .bool false, .slice none 0 0, .slice none 0 0] 36) :: .obj g2 (.cells #[.int .i64 (((p.length : Nat) : Int)), .bool true, .bool true] 39) :: []) := (hM.both hM8 (qn (by simp) (qn (by simp) (qy zd))) (qn (by simp) (qy zd)))
 refine ⟨_, rfl, ?_⟩
 intro a hA
 refine sdo hA (qb rfl) fun a hA => ?_
 refine qe (hK6 _ _ (wsk fun K10 hK10 => wsk fun K11 hK11 => wrl (sdo (v := .pointer (some ⟨g2, 2, none⟩)) hA (qh ByO_fld_39_2 rfl rfl) fun a hA => ?_)))
 refine sdo hA (zx hM ByO_is1_4 rfl 2 rfl rfl) fun a hA => ?_
 refine sdo (v := .bool false) hA (zp rfl zu) fun a hA => ?_
 iterate 2 refine sdo hA (qa rfl) fun a hA => ?_
 refine sdo (v := .pointer (some ⟨g2, 0, none⟩)) hA (qh ByO_fld_39_0 rfl rfl) fun a hA => ?_
 refine sdo hA (zx hM ByO_is1_3 rfl 2 rfl rfl) fun a hA => ?_
 refine sdo (v := .int .i64 (((p.length - 1 : Nat) : Int))) hA (qg rfl rfl (ar_sub ((in_i64 (by omega) (by omega)).trans (by omega)))) fun a hA => ?_
 refine sdo (v := .pointer (some ⟨g7, (p.length - 1) * 1, none⟩)) hA (jd Tryz.underlying22 (by kernel_rfl) rfl rfl rfl (show p.length - 1 < p.length by omega)) fun a hA => ?_
 refine sdo (v := .int .u8 ((((p.reverse.getD (p.length - 1) 0).toNat : Nat) : Int))) hA (ky hM 0 rfl (jk (l := p.reverse) (i := p.length - 1) (by simp only [List.length_reverse]; omega)) ByO_is1_5 rfl) fun a hA => ?_
 rcases tf (decide ((((p.reverse.getD (p.length - 1) 0).toNat : Nat) : Int) < 128)) with hb12 | hb12
 ·
  have hb12' := of_decide_eq_true hb12
  refine sdo (v := .bool true) hA (qg rfl rfl (fun w => (zi w).trans (by rw [hb12]))) fun a hA => ?_
  refine sdo (v := .bool true) hA (qj rfl rfl rfl rfl) fun a hA => ?_
  refine qe (hK11 _ _ (wp_cond_true (hA.ev rfl) ?_))
  refine wsk fun K13 hK13 => wrl (sdo hA (qa rfl) fun a hA => ?_)
  have hx18 : (p.reverse).length = p.length := by simp [kg]
  refine qi hA rfl rfl rfl (qf rfl rfl (fun w => by kernel_rfl)) ((by have h9 := vx (w := w9) (l := p.reverse) (vl (bs := p.reverse) hM 0 rfl).1 (ca := p.length) (by omega) (by omega); rw [hx18] at h9; exact h9)) ?_
  rintro _ w19 ⟨g14, g15, g16, rfl, hM17⟩
  replace hM : Mg w w19 (.row 51 1 (.slice (some ⟨g14, 0, none⟩) ((words (leN p.reverse)).length) ((words (leN p.reverse)).length)) ((words (leN p.reverse)).length) ((uC (words (leN p.reverse)))) :: .row 51 1 (.slice (some ⟨g15, 0, none⟩) 1 2) 1 ([.int .u32 1]) :: .row 51 1 (.slice (some ⟨g16, 0, none⟩) 1 2) 1 ([.int .u32 1]) :: .row BY 1 (.slice (some ⟨g7, 0, none⟩) p.length p.length) p.length ((Lib.byteCells p.reverse)) :: .obj g4 (.cells #[.bool false, .slice none 0 0, .slice none 0 0, .bool false, .slice none 0 0, .slice none 0 0] 36) :: .obj g2 (.cells #[.int .i64 (((p.length : Nat) : Int)), .bool true, .bool true] 39) :: []) := (hM.both hM17 (qn (by simp) (qn (by simp) (qn (by simp) (qy zd)))) (qn (by simp) (qn (by simp) (qn (by simp) (qy zd)))))
  refine ⟨_, rfl, ?_⟩
  intro a hA
  refine vg (us := [.bool false, .slice (some ⟨g14, 0, none⟩) ((words (leN p.reverse)).length) ((words (leN p.reverse)).length), .slice (some ⟨g15, 0, none⟩) 1 2, .bool false, .slice none 0 0, .slice (some ⟨g16, 0, none⟩) 1 2]) (L' := (.row 51 1 (.slice (some ⟨g14, 0, none⟩) ((words (leN p.reverse)).length) ((words (leN p.reverse)).length)) ((words (leN p.reverse)).length) ((uC (words (leN p.reverse)))) :: .row 51 1 (.slice (some ⟨g15, 0, none⟩) 1 2) 1 ([.int .u32 1]) :: .row 51 1 (.slice (some ⟨g16, 0, none⟩) 1 2) 1 ([.int .u32 1]) :: .row BY 1 (.slice (some ⟨g7, 0, none⟩) p.length p.length) p.length ((Lib.byteCells p.reverse)) :: .obj g4 (.cells #[.bool false, .slice (some ⟨g14, 0, none⟩) ((words (leN p.reverse)).length) ((words (leN p.reverse)).length), .slice (some ⟨g15, 0, none⟩) 1 2, .bool false, .slice none 0 0, .slice (some ⟨g16, 0, none⟩) 1 2] 36) :: .obj g2 (.cells #[.int .i64 (((p.length : Nat) : Int)), .bool true, .bool true] 39) :: [])) hA hM rfl rfl (jz rfl rfl rfl (by kernel_rfl) hM 4 rfl rfl rfl) 4 rfl rfl rfl ?_
  intro w20 hM
  refine qe (hK13 _ _ (wp_ret (hret _ _ (en1 hA rfl (vw hM ByO_isS_36 rfl 4 rfl (cs := [.bool false, .slice (some ⟨g14, 0, none⟩) ((words (leN p.reverse)).length) ((words (leN p.reverse)).length), .slice (some ⟨g15, 0, none⟩) 1 2, .bool false, .slice none 0 0, .slice (some ⟨g16, 0, none⟩) 1 2]) rfl rfl) ?_))))
  have e9 : jt true true p = Q6.whole false (leN p.reverse) := by unfold jt; rw [if_neg (fun h => (by have h9 : 128 ≤ ((p.reverse).getD (p.length - 1) 0).toNat := h.2; omega))]; rfl
  rw [e9]
  exact ⟨_, _, _, _, _, _, _, _, rfl, ⟨qag hM 0 rfl, ku (x := 1) hM 1 rfl (by decide), qeb, ku (x := 1) hM 2 rfl (by decide)⟩, hM.bel⟩
 ·
  have hb12' := of_decide_eq_false hb12
  refine sdo (v := .bool false) hA (qg rfl rfl (fun w => (zi w).trans (by rw [hb12]))) fun a hA => ?_
  refine sdo (v := .bool false) hA (qj rfl rfl rfl rfl) fun a hA => ?_
  refine qe (hK11 _ _ (wp_cond_false (hA.ev rfl) ?_))
  refine wp_skip (hK10 _ _ (wsk fun K21 hK21 => wsk fun K22 hK22 => wrl (sdo hA (qa rfl) fun a hA => ?_)))
  refine sdo hA (zb Tryz.underlying22 rfl) fun a hA => ?_
  refine sdo hA (qa rfl) fun a hA => ?_
  refine qe (hK22 _ _ (wp_block (jb (fun m_ a w1 => ∃ (i : Nat), m_ = p.length - i ∧ (i ≤ p.length) ∧ Sl a 47 [(0, .agg #[.int .i64 (((p.length : Nat) : Int)), .bool true, .bool true]), (1, .slice sp p.length cp), (2, .pointer (some ⟨g2, 0, none⟩)), (4, .pointer (some ⟨g4, 0, none⟩)), (5, .slice (some ⟨g7, 0, none⟩) p.length p.length), (9, .agg #[.int .i64 (((p.length : Nat) : Int)), .bool true, .bool true]), (10, .slice sp p.length cp), (11, .slice (some ⟨g7, 0, none⟩) p.length p.length), (12, .pointer (some ⟨g2, 2, none⟩)), (13, .bool true), (14, .bool false), (15, .bool false), (16, .slice (some ⟨g7, 0, none⟩) p.length p.length), (17, .pointer (some ⟨g2, 0, none⟩)), (18, .int .i64 (((p.length : Nat) : Int))), (19, .int .i64 (((p.length - 1 : Nat) : Int))), (20, .pointer (some ⟨g7, (p.length - 1) * 1, none⟩)), (21, .int .u8 ((((p.reverse.getD (p.length - 1) 0).toNat : Nat) : Int))), (22, .bool false), (23, .bool false), (26, .slice (some ⟨g7, 0, none⟩) p.length p.length), (27, .int .i64 (((p.length : Nat) : Int))), (28, .int .i64 (((i : Nat) : Int)))] ∧ Mg w w1 (.row BY 1 (.slice (some ⟨g7, 0, none⟩) p.length p.length) p.length ((Lib.byteCells (zr p.reverse i))) :: .obj g4 (.cells #[.bool false, .slice none 0 0, .slice none 0 0, .bool false, .slice none 0 0, .slice none 0 0] 36) :: .obj g2 (.cells #[.int .i64 (((p.length : Nat) : Int)), .bool true, .bool true] 39) :: [])) _ ⟨0, rfl, Nat.zero_le _, hA.keep _ ⟨rfl, rfl, rfl, rfl, rfl, rfl, rfl, rfl, rfl, rfl, rfl, rfl, rfl, rfl, rfl, rfl, rfl, rfl, rfl, rfl, rfl, rfl, rfl, trivial⟩, hM⟩ ?_)))
  clear hM hA
  rintro m_ a w23 ⟨i, rfl, hinv25, hA, hM⟩ K24 hK24
  have hi9 := hinv25
  refine wsk fun K26 hK26 => wrl ?_
  rcases tf (decide (((i : Nat) : Int) < ((p.length : Nat) : Int))) with hb27 | hb27
  ·
   have hb27' := of_decide_eq_true hb27
   refine sdo (v := .bool true) hA (qg rfl rfl (fun w => (zi w).trans (by rw [hb27]))) fun a hA => ?_
   refine qe (hK26 _ _ (wsk fun K28 hK28 => wp_cond_true (hA.ev rfl) ?_))
   refine wp_skip (hK28 _ _ (wsk fun K29 hK29 => wp_block (wsk fun K30 hK30 => wrl (sdo hA (qa rfl) fun a hA => ?_))))
   refine sdo hA (qb rfl) fun a hA => ?_
   refine qe (hK30 _ _ (wrl ?_))
   iterate 4 refine sdo hA (qa rfl) fun a hA => ?_
   refine sdo (v := .pointer (some ⟨g7, (i) * 1, none⟩)) hA (jd Tryz.underlying22 (by kernel_rfl) rfl rfl rfl (show i < p.length by omega)) fun a hA => ?_
   refine sdo (v := .int .u8 ((((p.reverse.getD (i) 0).toNat : Nat) : Int))) hA (ky hM 0 rfl (qrd (l := p.reverse) (i := i) (by simp only [List.length_reverse]; omega)) ByO_is1_5 rfl) fun a hA => ?_
   have hX8 : (p.reverse.getD i 0).toNat < 256 := UInt8.toNat_lt _
   refine sdo (v := .int .u8 (((255 - (p.reverse.getD i 0).toNat : Nat) : Int))) hA (zp rfl (qwd hX8)) fun a hA => ?_
   refine sdo (v := .pointer (some ⟨g7, (i) * 1, none⟩)) hA (jd Tryz.underlying22 (by kernel_rfl) rfl rfl rfl (show i < p.length by omega)) fun a hA => ?_
   refine qpd (cs := [.int .u8 (((255 - (p.reverse.getD i 0).toNat : Nat) : Int))]) (L' := (.row BY 1 (.slice (some ⟨g7, 0, none⟩) p.length p.length) p.length ((over (Lib.byteCells (zr p.reverse i)) ((i) * 1) [.int .u8 (((255 - (p.reverse.getD i 0).toNat : Nat) : Int))])) :: .obj g4 (.cells #[.bool false, .slice none 0 0, .slice none 0 0, .bool false, .slice none 0 0, .slice none 0 0] 36) :: .obj g2 (.cells #[.int .i64 (((p.length : Nat) : Int)), .bool true, .bool true] 39) :: [])) (us := []) hA hM rfl rfl (jo rfl rfl rfl (by kernel_rfl) hM 0 rfl (show (i) * 1 + 1 ≤ p.length * 1 by omega) rfl) 0 rfl rfl ?_
   intro w31 hM
   replace hM : Mg w w31 (.row BY 1 (.slice (some ⟨g7, 0, none⟩) p.length p.length) p.length ((Lib.byteCells (zr p.reverse (i + 1)))) :: .obj g4 (.cells #[.bool false, .slice none 0 0, .slice none 0 0, .bool false, .slice none 0 0, .slice none 0 0] 36) :: .obj g2 (.cells #[.int .i64 (((p.length : Nat) : Int)), .bool true, .bool true] 39) :: []) := by
    have h9 := hM
    rw [qmb (l := p.reverse) (by simp only [List.length_reverse]; omega)] at h9
    exact h9
   refine qe (hK29 _ _ (wrl (sdo (v := .int .i64 (((i + 1 : Nat) : Int))) hA (qg rfl rfl (ar_add ((in_i64 (by omega) (by omega)).trans (by omega)))) fun a hA => ?_)))
   refine sdo hA (qa rfl) fun a hA => ?_
   refine qe ?_
   refine hK24 _ _ _ (by omega) ⟨i + 1, rfl, (by omega), hA.keep _ ⟨rfl, rfl, rfl, rfl, rfl, rfl, rfl, rfl, rfl, rfl, rfl, rfl, rfl, rfl, rfl, rfl, rfl, rfl, rfl, rfl, rfl, rfl, rfl, trivial⟩, hM⟩
  ·
   have hb27' := of_decide_eq_false hb27
   refine sdo (v := .bool false) hA (qg rfl rfl (fun w => (zi w).trans (by rw [hb27]))) fun a hA => ?_
   refine qe (hK26 _ _ (wsk fun K32 hK32 => wp_cond_false (hA.ev rfl) ?_))
   refine wp_exit (hK21 _ _ (wsk fun K33 hK33 => wrl (sdo hA (qa rfl) fun a hA => ?_)))
   have hx38 : (zr p.reverse i).length = p.length := by simp [kg]
   refine qi hA rfl rfl rfl (qf rfl rfl (fun w => by kernel_rfl)) ((by have h9 := vx (w := w23) (l := zr p.reverse i) (vl (bs := zr p.reverse i) hM 0 rfl).1 (ca := p.length) (by omega) (by omega); rw [hx38] at h9; exact h9)) ?_
   rintro _ w39 ⟨g34, g35, g36, rfl, hM37⟩
   replace hM : Mg w w39 (.row 51 1 (.slice (some ⟨g34, 0, none⟩) ((words (leN (zr p.reverse i))).length) ((words (leN (zr p.reverse i))).length)) ((words (leN (zr p.reverse i))).length) ((uC (words (leN (zr p.reverse i))))) :: .row 51 1 (.slice (some ⟨g35, 0, none⟩) 1 2) 1 ([.int .u32 1]) :: .row 51 1 (.slice (some ⟨g36, 0, none⟩) 1 2) 1 ([.int .u32 1]) :: .row BY 1 (.slice (some ⟨g7, 0, none⟩) p.length p.length) p.length ((Lib.byteCells (zr p.reverse i))) :: .obj g4 (.cells #[.bool false, .slice none 0 0, .slice none 0 0, .bool false, .slice none 0 0, .slice none 0 0] 36) :: .obj g2 (.cells #[.int .i64 (((p.length : Nat) : Int)), .bool true, .bool true] 39) :: []) := (hM.both hM37 (qn (by simp) (qn (by simp) (qn (by simp) (qy zd)))) (qn (by simp) (qn (by simp) (qn (by simp) (qy zd)))))
   refine ⟨_, rfl, ?_⟩
   intro a hA
   have hN9 : Nm _ (Q6.whole false (leN (zr p.reverse i))) (some ⟨g34, 0, none⟩) (words (leN (zr p.reverse i))).length (some ⟨g35, 0, none⟩) 2 none 0 (some ⟨g36, 0, none⟩) 2 := ⟨qag hM 0 rfl, ku (x := 1) hM 1 rfl (by decide), qeb, ku (x := 1) hM 2 rfl (by decide)⟩
   have hlt9 : leN (zr p.reverse i) < 256 ^ p.length := by have h9 := yq (zr p.reverse i); rw [show (zr p.reverse i).length = p.length from by simp [kg]] at h9; exact h9
   refine qi hA rfl rfl rfl (qf rfl rfl (fun w => by kernel_rfl)) (qmc hl64 hlt9 hN9) ?_
   rintro _ w43 ⟨o42_1, o42_c1, o42_2, o42_c2, o42_3, o42_c3, o42_4, o42_c4, rfl, hn40, hb41⟩
   replace hM := hM.call hb41
   refine ⟨_, rfl, ?_⟩
   intro a hA
   refine sdo hA (qa rfl) fun a hA => ?_
   iterate 2 refine sdo hA (qz (vs := [.agg #[.bool true, .slice o42_1 ((words (leN (zr p.reverse i) + 1)).length) o42_c1, .slice o42_2 1 o42_c2, .bool false, .slice o42_3 0 o42_c3, .slice o42_4 1 o42_c4], .int .i64 0]) rfl rfl) fun a hA => ?_
   refine qif (vs := [.bool false, .slice none 0 0, .slice none 0 0, .bool false, .slice none 0 0, .slice none 0 0]) (t := 36) hA hM rfl rfl rfl (fun g => .pointer (some ⟨g, 0, none⟩)) (qp (z := .agg #[.bool false, .slice none 0 0, .slice none 0 0, .bool false, .slice none 0 0, .slice none 0 0]) (by kernel_rfl) rfl) (by decide) ?_
   intro g44 w45 hM hc46 a hA
   replace hn40 := jv hn40 hc46
   refine yh (us := [.bool true, .slice o42_1 ((words (leN (zr p.reverse i) + 1)).length) o42_c1, .slice o42_2 1 o42_c2, .bool false, .slice o42_3 0 o42_c3, .slice o42_4 1 o42_c4]) (L' := (.obj g44 (.cells #[.bool true, .slice o42_1 ((words (leN (zr p.reverse i) + 1)).length) o42_c1, .slice o42_2 1 o42_c2, .bool false, .slice o42_3 0 o42_c3, .slice o42_4 1 o42_c4] 36) :: .row 51 1 (.slice (some ⟨g34, 0, none⟩) ((words (leN (zr p.reverse i))).length) ((words (leN (zr p.reverse i))).length)) ((words (leN (zr p.reverse i))).length) ((uC (words (leN (zr p.reverse i))))) :: .row 51 1 (.slice (some ⟨g35, 0, none⟩) 1 2) 1 ([.int .u32 1]) :: .row 51 1 (.slice (some ⟨g36, 0, none⟩) 1 2) 1 ([.int .u32 1]) :: .row BY 1 (.slice (some ⟨g7, 0, none⟩) p.length p.length) p.length ((Lib.byteCells (zr p.reverse i))) :: .obj g4 (.cells #[.bool false, .slice none 0 0, .slice none 0 0, .bool false, .slice none 0 0, .slice none 0 0] 36) :: .obj g2 (.cells #[.int .i64 (((p.length : Nat) : Int)), .bool true, .bool true] 39) :: [])) hA hM rfl rfl (jz rfl rfl rfl (by kernel_rfl) hM 0 rfl rfl rfl) 0 rfl rfl rfl rfl rfl rfl ?_
   intro w47 hM hc48
   replace hn40 := jv hn40 hc48
   refine sdo hA (qb rfl) fun a hA => ?_
   refine qe (hK33 _ _ (wsk fun K49 hK49 => wrl (sdo hA (jc hM ByO_isS_36 rfl 0 rfl (cs := [.bool true, .slice o42_1 ((words (leN (zr p.reverse i) + 1)).length) o42_c1, .slice o42_2 1 o42_c2, .bool false, .slice o42_3 0 o42_c3, .slice o42_4 1 o42_c4]) rfl rfl) fun a hA => ?_)))
   refine yh (us := [.bool true, .slice o42_1 ((words (leN (zr p.reverse i) + 1)).length) o42_c1, .slice o42_2 1 o42_c2, .bool false, .slice o42_3 0 o42_c3, .slice o42_4 1 o42_c4]) (L' := (.obj g44 (.cells #[.bool true, .slice o42_1 ((words (leN (zr p.reverse i) + 1)).length) o42_c1, .slice o42_2 1 o42_c2, .bool false, .slice o42_3 0 o42_c3, .slice o42_4 1 o42_c4] 36) :: .row 51 1 (.slice (some ⟨g34, 0, none⟩) ((words (leN (zr p.reverse i))).length) ((words (leN (zr p.reverse i))).length)) ((words (leN (zr p.reverse i))).length) ((uC (words (leN (zr p.reverse i))))) :: .row 51 1 (.slice (some ⟨g35, 0, none⟩) 1 2) 1 ([.int .u32 1]) :: .row 51 1 (.slice (some ⟨g36, 0, none⟩) 1 2) 1 ([.int .u32 1]) :: .row BY 1 (.slice (some ⟨g7, 0, none⟩) p.length p.length) p.length ((Lib.byteCells (zr p.reverse i))) :: .obj g4 (.cells #[.bool true, .slice o42_1 ((words (leN (zr p.reverse i) + 1)).length) o42_c1, .slice o42_2 1 o42_c2, .bool false, .slice o42_3 0 o42_c3, .slice o42_4 1 o42_c4] 36) :: .obj g2 (.cells #[.int .i64 (((p.length : Nat) : Int)), .bool true, .bool true] 39) :: [])) hA hM rfl rfl (jz rfl rfl rfl (by kernel_rfl) hM 5 rfl rfl rfl) 5 rfl rfl rfl rfl rfl rfl ?_
   intro w50 hM hc51
   replace hn40 := jv hn40 hc51
   refine qe (hK49 _ _ (wp_ret (hret _ _ (en1 hA rfl (vw hM ByO_isS_36 rfl 5 rfl (cs := [.bool true, .slice o42_1 ((words (leN (zr p.reverse i) + 1)).length) o42_c1, .slice o42_2 1 o42_c2, .bool false, .slice o42_3 0 o42_c3, .slice o42_4 1 o42_c4]) rfl rfl) ?_))))
   have hi8 : i = p.length := by omega
   subst hi8
   have e9 : jt true true p = Q6.whole true (leN (zr p.reverse p.length) + 1) := by
    unfold jt
    rw [if_pos ⟨rfl, (show 128 ≤ ((p.reverse).getD (p.length - 1) 0).toNat from by omega)⟩]
    have h8 := qre p.reverse
    rw [← qrc, show (p.reverse).length = p.length from by simp] at h8
    rw [(show zw true p = p.reverse from rfl), show 256 ^ p.length - leN p.reverse = leN (zr p.reverse p.length) + 1 from by omega]
   rw [e9]
   exact ⟨_, _, _, _, _, _, _, _, rfl, hn40, hM.bel⟩
theorem qca {w : World} {sp : Option Addr} {cp : Nat} {p : List UInt8} (hp : Rb w sp p) (hl1 : 1 ≤ p.length) (hl64 : p.length ≤ 64) : Calls Tryz.prog 12 #[.agg #[.int .i64 ((p.length : Nat) : Int), .bool false, .bool false], .slice sp p.length cp] w (AnsV w (jt false false p)) := by
 have hM : Mg w w ([]) := Mg.start w
 refine za (l := [(0, .agg #[.int .i64 (((p.length : Nat) : Int)), .bool false, .bool false]), (1, .slice sp p.length cp)]) Tryz.func12 rfl Tryz.ntmps12 rfl rfl ?_
 intro Q hret hnorm hP a hA
 refine wsk fun K1 hK1 => wrl (xr (vs := [.int .i64 (((p.length : Nat) : Int)), .bool false, .bool false]) (t := 39) hA hM rfl rfl rfl (fun g => .pointer (some ⟨g, 0, none⟩)) (zf rfl rfl) (by decide) ?_)
 intro g2 w3 hM a hA
 refine xr (vs := [.bool false, .slice none 0 0, .slice none 0 0, .bool false, .slice none 0 0, .slice none 0 0]) (t := 36) hA hM rfl rfl rfl (fun g => .pointer (some ⟨g, 0, none⟩)) (qp (z := .agg #[.bool false, .slice none 0 0, .slice none 0 0, .bool false, .slice none 0 0, .slice none 0 0]) (by kernel_rfl) rfl) (by decide) ?_
 intro g4 w5 hM a hA
 refine qe (hK1 _ _ (wsk fun K6 hK6 => wrl (sdo hA (jc hM ByO_isS_39 rfl 1 rfl (cs := [.int .i64 (((p.length : Nat) : Int)), .bool false, .bool false]) rfl rfl) fun a hA => ?_)))
 refine sdo hA (qa rfl) fun a hA => ?_
 refine qi hA rfl rfl rfl (qf rfl rfl (fun w => by kernel_rfl)) (kt (hp.below hM.bel) (by omega)) ?_
 rintro _ w9 ⟨g7, rfl, hM8⟩
 replace hM : Mg w w9 (.row BY 1 (.slice (some ⟨g7, 0, none⟩) p.length p.length) p.length ((Lib.byteCells p)) :: .obj g4 (.cells #[.bool false, .slice none 0 0, .slice none 0 0, .bool false, .slice none 0 0, .slice none 0 0] 36) :: .obj g2 (.cells #[.int .i64 (((p.length : Nat) : Int)), .bool false, .bool false] 39) :: []) := (hM.both hM8 (qn (by simp) (qn (by simp) (qy zd))) (qn (by simp) (qy zd)))
 refine ⟨_, rfl, ?_⟩
 intro a hA
 refine sdo hA (qb rfl) fun a hA => ?_
 refine qe (hK6 _ _ (wsk fun K10 hK10 => wsk fun K11 hK11 => wrl (sdo (v := .pointer (some ⟨g2, 2, none⟩)) hA (qh ByO_fld_39_2 rfl rfl) fun a hA => ?_)))
 refine sdo hA (zx hM ByO_is1_4 rfl 2 rfl rfl) fun a hA => ?_
 refine sdo (v := .bool true) hA (zp rfl zu) fun a hA => ?_
 refine sdo hA (qa rfl) fun a hA => ?_
 iterate 7 refine zg hA rfl rfl rfl fun a hA => ?_
 refine sdo (v := .bool true) hA (qj rfl rfl rfl rfl) fun a hA => ?_
 refine qe (hK11 _ _ (wp_cond_true (hA.ev rfl) ?_))
 refine wsk fun K12 hK12 => wrl (sdo hA (qa rfl) fun a hA => ?_)
 have hx17 : (p).length = p.length := by simp [kg]
 refine qi hA rfl rfl rfl (qf rfl rfl (fun w => by kernel_rfl)) (vx (l := p) (vl (bs := p) hM 0 rfl).1 (by omega) (by omega)) ?_
 rintro _ w18 ⟨g13, g14, g15, rfl, hM16⟩
 replace hM : Mg w w18 (.row 51 1 (.slice (some ⟨g13, 0, none⟩) ((words (leN p)).length) ((words (leN p)).length)) ((words (leN p)).length) ((uC (words (leN p)))) :: .row 51 1 (.slice (some ⟨g14, 0, none⟩) 1 2) 1 ([.int .u32 1]) :: .row 51 1 (.slice (some ⟨g15, 0, none⟩) 1 2) 1 ([.int .u32 1]) :: .row BY 1 (.slice (some ⟨g7, 0, none⟩) p.length p.length) p.length ((Lib.byteCells p)) :: .obj g4 (.cells #[.bool false, .slice none 0 0, .slice none 0 0, .bool false, .slice none 0 0, .slice none 0 0] 36) :: .obj g2 (.cells #[.int .i64 (((p.length : Nat) : Int)), .bool false, .bool false] 39) :: []) := (hM.both hM16 (qn (by simp) (qn (by simp) (qn (by simp) (qy zd)))) (qn (by simp) (qn (by simp) (qn (by simp) (qy zd)))))
 refine ⟨_, rfl, ?_⟩
 intro a hA
 refine vg (us := [.bool false, .slice (some ⟨g13, 0, none⟩) ((words (leN p)).length) ((words (leN p)).length), .slice (some ⟨g14, 0, none⟩) 1 2, .bool false, .slice none 0 0, .slice (some ⟨g15, 0, none⟩) 1 2]) (L' := (.row 51 1 (.slice (some ⟨g13, 0, none⟩) ((words (leN p)).length) ((words (leN p)).length)) ((words (leN p)).length) ((uC (words (leN p)))) :: .row 51 1 (.slice (some ⟨g14, 0, none⟩) 1 2) 1 ([.int .u32 1]) :: .row 51 1 (.slice (some ⟨g15, 0, none⟩) 1 2) 1 ([.int .u32 1]) :: .row BY 1 (.slice (some ⟨g7, 0, none⟩) p.length p.length) p.length ((Lib.byteCells p)) :: .obj g4 (.cells #[.bool false, .slice (some ⟨g13, 0, none⟩) ((words (leN p)).length) ((words (leN p)).length), .slice (some ⟨g14, 0, none⟩) 1 2, .bool false, .slice none 0 0, .slice (some ⟨g15, 0, none⟩) 1 2] 36) :: .obj g2 (.cells #[.int .i64 (((p.length : Nat) : Int)), .bool false, .bool false] 39) :: [])) hA hM rfl rfl (jz rfl rfl rfl (by kernel_rfl) hM 4 rfl rfl rfl) 4 rfl rfl rfl ?_
 intro w19 hM
 refine qe (hK12 _ _ (wp_ret (hret _ _ (en1 hA rfl (vw hM ByO_isS_36 rfl 4 rfl (cs := [.bool false, .slice (some ⟨g13, 0, none⟩) ((words (leN p)).length) ((words (leN p)).length), .slice (some ⟨g14, 0, none⟩) 1 2, .bool false, .slice none 0 0, .slice (some ⟨g15, 0, none⟩) 1 2]) rfl rfl) ?_))))
 have e9 : jt false false p = Q6.whole false (leN p) := by unfold jt; rw [if_neg (fun h => (by cases h.1))]; rfl
 rw [e9]
 exact ⟨_, _, _, _, _, _, _, _, rfl, ⟨qag hM 0 rfl, ku (x := 1) hM 1 rfl (by decide), qeb, ku (x := 1) hM 2 rfl (by decide)⟩, hM.bel⟩
theorem qcj {w : World} {sp : Option Addr} {cp : Nat} {p : List UInt8} (hp : Rb w sp p) (hl1 : 1 ≤ p.length) (hl64 : p.length ≤ 64) : Calls Tryz.prog 12 #[.agg #[.int .i64 ((p.length : Nat) : Int), .bool false, .bool true], .slice sp p.length cp] w (AnsV w (jt false true p)) := by
 have hM : Mg w w ([]) := Mg.start w
 refine za (l := [(0, .agg #[.int .i64 (((p.length : Nat) : Int)), .bool false, .bool true]), (1, .slice sp p.length cp)]) Tryz.func12 rfl Tryz.ntmps12 rfl rfl ?_
 intro Q hret hnorm hP a hA
 refine wsk fun K1 hK1 => wrl (xr (vs := [.int .i64 (((p.length : Nat) : Int)), .bool false, .bool true]) (t := 39) hA hM rfl rfl rfl (fun g => .pointer (some ⟨g, 0, none⟩)) (zf rfl rfl) (by decide) ?_)
 intro g2 w3 hM a hA
 refine xr (vs := [.bool false, .slice none 0 0, .slice none 0 0, .bool false, .slice none 0 0, .slice none 0 0]) (t := 36) hA hM rfl rfl rfl (fun g => .pointer (some ⟨g, 0, none⟩)) (qp (z := .agg #[.bool false, .slice none 0 0, .slice none 0 0, .bool false, .slice none 0 0, .slice none 0 0]) (by kernel_rfl) rfl) (by decide) ?_
 intro g4 w5 hM a hA
 refine qe (hK1 _ _ (wsk fun K6 hK6 => wrl (sdo hA (jc hM ByO_isS_39 rfl 1 rfl (cs := [.int .i64 (((p.length : Nat) : Int)), .bool false, .bool true]) rfl rfl) fun a hA => ?_)))
 refine sdo hA (qa rfl) fun a hA => ?_
 refine qi hA rfl rfl rfl (qf rfl rfl (fun w => by kernel_rfl)) (kt (hp.below hM.bel) (by omega)) ?_
 rintro _ w9 ⟨g7, rfl, hM8⟩
 replace hM : Mg w w9 (.row BY 1 (.slice (some ⟨g7, 0, none⟩) p.length p.length) p.length ((Lib.byteCells p)) :: .obj g4 (.cells #[.bool false, .slice none 0 0, .slice none 0 0, .bool false, .slice none 0 0, .slice none 0 0] 36) :: .obj g2 (.cells #[.int .i64 (((p.length : Nat) : Int)), .bool false, .bool true] 39) :: []) := (hM.both hM8 (qn (by simp) (qn (by simp) (qy zd))) (qn (by simp) (qy zd)))
 refine ⟨_, rfl, ?_⟩
 intro a hA
 refine sdo hA (qb rfl) fun a hA => ?_
 refine qe (hK6 _ _ (wsk fun K10 hK10 => wsk fun K11 hK11 => wrl (sdo (v := .pointer (some ⟨g2, 2, none⟩)) hA (qh ByO_fld_39_2 rfl rfl) fun a hA => ?_)))
 refine sdo hA (zx hM ByO_is1_4 rfl 2 rfl rfl) fun a hA => ?_
 refine sdo (v := .bool false) hA (zp rfl zu) fun a hA => ?_
 iterate 2 refine sdo hA (qa rfl) fun a hA => ?_
 refine sdo (v := .pointer (some ⟨g2, 0, none⟩)) hA (qh ByO_fld_39_0 rfl rfl) fun a hA => ?_
 refine sdo hA (zx hM ByO_is1_3 rfl 2 rfl rfl) fun a hA => ?_
 refine sdo (v := .int .i64 (((p.length - 1 : Nat) : Int))) hA (qg rfl rfl (ar_sub ((in_i64 (by omega) (by omega)).trans (by omega)))) fun a hA => ?_
 refine sdo (v := .pointer (some ⟨g7, (p.length - 1) * 1, none⟩)) hA (jd Tryz.underlying22 (by kernel_rfl) rfl rfl rfl (show p.length - 1 < p.length by omega)) fun a hA => ?_
 refine sdo (v := .int .u8 ((((p.getD (p.length - 1) 0).toNat : Nat) : Int))) hA (ky hM 0 rfl (jk (l := p) (i := p.length - 1) (by omega)) ByO_is1_5 rfl) fun a hA => ?_
 rcases tf (decide ((((p.getD (p.length - 1) 0).toNat : Nat) : Int) < 128)) with hb12 | hb12
 ·
  have hb12' := of_decide_eq_true hb12
  refine sdo (v := .bool true) hA (qg rfl rfl (fun w => (zi w).trans (by rw [hb12]))) fun a hA => ?_
  refine sdo (v := .bool true) hA (qj rfl rfl rfl rfl) fun a hA => ?_
  refine qe (hK11 _ _ (wp_cond_true (hA.ev rfl) ?_))
  refine wsk fun K13 hK13 => wrl (sdo hA (qa rfl) fun a hA => ?_)
  have hx18 : (p).length = p.length := by simp [kg]
  refine qi hA rfl rfl rfl (qf rfl rfl (fun w => by kernel_rfl)) (vx (l := p) (vl (bs := p) hM 0 rfl).1 (by omega) (by omega)) ?_
  rintro _ w19 ⟨g14, g15, g16, rfl, hM17⟩
  replace hM : Mg w w19 (.row 51 1 (.slice (some ⟨g14, 0, none⟩) ((words (leN p)).length) ((words (leN p)).length)) ((words (leN p)).length) ((uC (words (leN p)))) :: .row 51 1 (.slice (some ⟨g15, 0, none⟩) 1 2) 1 ([.int .u32 1]) :: .row 51 1 (.slice (some ⟨g16, 0, none⟩) 1 2) 1 ([.int .u32 1]) :: .row BY 1 (.slice (some ⟨g7, 0, none⟩) p.length p.length) p.length ((Lib.byteCells p)) :: .obj g4 (.cells #[.bool false, .slice none 0 0, .slice none 0 0, .bool false, .slice none 0 0, .slice none 0 0] 36) :: .obj g2 (.cells #[.int .i64 (((p.length : Nat) : Int)), .bool false, .bool true] 39) :: []) := (hM.both hM17 (qn (by simp) (qn (by simp) (qn (by simp) (qy zd)))) (qn (by simp) (qn (by simp) (qn (by simp) (qy zd)))))
  refine ⟨_, rfl, ?_⟩
  intro a hA
  refine vg (us := [.bool false, .slice (some ⟨g14, 0, none⟩) ((words (leN p)).length) ((words (leN p)).length), .slice (some ⟨g15, 0, none⟩) 1 2, .bool false, .slice none 0 0, .slice (some ⟨g16, 0, none⟩) 1 2]) (L' := (.row 51 1 (.slice (some ⟨g14, 0, none⟩) ((words (leN p)).length) ((words (leN p)).length)) ((words (leN p)).length) ((uC (words (leN p)))) :: .row 51 1 (.slice (some ⟨g15, 0, none⟩) 1 2) 1 ([.int .u32 1]) :: .row 51 1 (.slice (some ⟨g16, 0, none⟩) 1 2) 1 ([.int .u32 1]) :: .row BY 1 (.slice (some ⟨g7, 0, none⟩) p.length p.length) p.length ((Lib.byteCells p)) :: .obj g4 (.cells #[.bool false, .slice (some ⟨g14, 0, none⟩) ((words (leN p)).length) ((words (leN p)).length), .slice (some ⟨g15, 0, none⟩) 1 2, .bool false, .slice none 0 0, .slice (some ⟨g16, 0, none⟩) 1 2] 36) :: .obj g2 (.cells #[.int .i64 (((p.length : Nat) : Int)), .bool false, .bool true] 39) :: [])) hA hM rfl rfl (jz rfl rfl rfl (by kernel_rfl) hM 4 rfl rfl rfl) 4 rfl rfl rfl ?_
  intro w20 hM
  refine qe (hK13 _ _ (wp_ret (hret _ _ (en1 hA rfl (vw hM ByO_isS_36 rfl 4 rfl (cs := [.bool false, .slice (some ⟨g14, 0, none⟩) ((words (leN p)).length) ((words (leN p)).length), .slice (some ⟨g15, 0, none⟩) 1 2, .bool false, .slice none 0 0, .slice (some ⟨g16, 0, none⟩) 1 2]) rfl rfl) ?_))))
  have e9 : jt false true p = Q6.whole false (leN p) := by unfold jt; rw [if_neg (fun h => (by have h9 : 128 ≤ ((p).getD (p.length - 1) 0).toNat := h.2; omega))]; rfl
  rw [e9]
  exact ⟨_, _, _, _, _, _, _, _, rfl, ⟨qag hM 0 rfl, ku (x := 1) hM 1 rfl (by decide), qeb, ku (x := 1) hM 2 rfl (by decide)⟩, hM.bel⟩
 ·
  have hb12' := of_decide_eq_false hb12
  refine sdo (v := .bool false) hA (qg rfl rfl (fun w => (zi w).trans (by rw [hb12]))) fun a hA => ?_
  refine sdo (v := .bool false) hA (qj rfl rfl rfl rfl) fun a hA => ?_
  refine qe (hK11 _ _ (wp_cond_false (hA.ev rfl) ?_))
  refine wp_skip (hK10 _ _ (wsk fun K21 hK21 => wsk fun K22 hK22 => wrl (sdo hA (qa rfl) fun a hA => ?_)))
  refine sdo hA (zb Tryz.underlying22 rfl) fun a hA => ?_
  refine sdo hA (qa rfl) fun a hA => ?_
  refine qe (hK22 _ _ (wp_block (jb (fun m_ a w1 => ∃ (i : Nat), m_ = p.length - i ∧ (i ≤ p.length) ∧ Sl a 47 [(0, .agg #[.int .i64 (((p.length : Nat) : Int)), .bool false, .bool true]), (1, .slice sp p.length cp), (2, .pointer (some ⟨g2, 0, none⟩)), (4, .pointer (some ⟨g4, 0, none⟩)), (5, .slice (some ⟨g7, 0, none⟩) p.length p.length), (9, .agg #[.int .i64 (((p.length : Nat) : Int)), .bool false, .bool true]), (10, .slice sp p.length cp), (11, .slice (some ⟨g7, 0, none⟩) p.length p.length), (12, .pointer (some ⟨g2, 2, none⟩)), (13, .bool true), (14, .bool false), (15, .bool false), (16, .slice (some ⟨g7, 0, none⟩) p.length p.length), (17, .pointer (some ⟨g2, 0, none⟩)), (18, .int .i64 (((p.length : Nat) : Int))), (19, .int .i64 (((p.length - 1 : Nat) : Int))), (20, .pointer (some ⟨g7, (p.length - 1) * 1, none⟩)), (21, .int .u8 ((((p.getD (p.length - 1) 0).toNat : Nat) : Int))), (22, .bool false), (23, .bool false), (26, .slice (some ⟨g7, 0, none⟩) p.length p.length), (27, .int .i64 (((p.length : Nat) : Int))), (28, .int .i64 (((i : Nat) : Int)))] ∧ Mg w w1 (.row BY 1 (.slice (some ⟨g7, 0, none⟩) p.length p.length) p.length ((Lib.byteCells (zr p i))) :: .obj g4 (.cells #[.bool false, .slice none 0 0, .slice none 0 0, .bool false, .slice none 0 0, .slice none 0 0] 36) :: .obj g2 (.cells #[.int .i64 (((p.length : Nat) : Int)), .bool false, .bool true] 39) :: [])) _ ⟨0, rfl, Nat.zero_le _, hA.keep _ ⟨rfl, rfl, rfl, rfl, rfl, rfl, rfl, rfl, rfl, rfl, rfl, rfl, rfl, rfl, rfl, rfl, rfl, rfl, rfl, rfl, rfl, rfl, rfl, trivial⟩, hM⟩ ?_)))
  clear hM hA
  rintro m_ a w23 ⟨i, rfl, hinv25, hA, hM⟩ K24 hK24
  have hi9 := hinv25
  refine wsk fun K26 hK26 => wrl ?_
  rcases tf (decide (((i : Nat) : Int) < ((p.length : Nat) : Int))) with hb27 | hb27
  ·
   have hb27' := of_decide_eq_true hb27
   refine sdo (v := .bool true) hA (qg rfl rfl (fun w => (zi w).trans (by rw [hb27]))) fun a hA => ?_
   refine qe (hK26 _ _ (wsk fun K28 hK28 => wp_cond_true (hA.ev rfl) ?_))
   refine wp_skip (hK28 _ _ (wsk fun K29 hK29 => wp_block (wsk fun K30 hK30 => wrl (sdo hA (qa rfl) fun a hA => ?_))))
   refine sdo hA (qb rfl) fun a hA => ?_
   refine qe (hK30 _ _ (wrl ?_))
   iterate 4 refine sdo hA (qa rfl) fun a hA => ?_
   refine sdo (v := .pointer (some ⟨g7, (i) * 1, none⟩)) hA (jd Tryz.underlying22 (by kernel_rfl) rfl rfl rfl (show i < p.length by omega)) fun a hA => ?_
   refine sdo (v := .int .u8 ((((p.getD (i) 0).toNat : Nat) : Int))) hA (ky hM 0 rfl (qrd (l := p) (i := i) (by omega)) ByO_is1_5 rfl) fun a hA => ?_
   have hX8 : (p.getD i 0).toNat < 256 := UInt8.toNat_lt _
   refine sdo (v := .int .u8 (((255 - (p.getD i 0).toNat : Nat) : Int))) hA (zp rfl (qwd hX8)) fun a hA => ?_
   refine sdo (v := .pointer (some ⟨g7, (i) * 1, none⟩)) hA (jd Tryz.underlying22 (by kernel_rfl) rfl rfl rfl (show i < p.length by omega)) fun a hA => ?_
   refine qpd (cs := [.int .u8 (((255 - (p.getD i 0).toNat : Nat) : Int))]) (L' := (.row BY 1 (.slice (some ⟨g7, 0, none⟩) p.length p.length) p.length ((over (Lib.byteCells (zr p i)) ((i) * 1) [.int .u8 (((255 - (p.getD i 0).toNat : Nat) : Int))])) :: .obj g4 (.cells #[.bool false, .slice none 0 0, .slice none 0 0, .bool false, .slice none 0 0, .slice none 0 0] 36) :: .obj g2 (.cells #[.int .i64 (((p.length : Nat) : Int)), .bool false, .bool true] 39) :: [])) (us := []) hA hM rfl rfl (jo rfl rfl rfl (by kernel_rfl) hM 0 rfl (show (i) * 1 + 1 ≤ p.length * 1 by omega) rfl) 0 rfl rfl ?_
   intro w31 hM
   replace hM : Mg w w31 (.row BY 1 (.slice (some ⟨g7, 0, none⟩) p.length p.length) p.length ((Lib.byteCells (zr p (i + 1)))) :: .obj g4 (.cells #[.bool false, .slice none 0 0, .slice none 0 0, .bool false, .slice none 0 0, .slice none 0 0] 36) :: .obj g2 (.cells #[.int .i64 (((p.length : Nat) : Int)), .bool false, .bool true] 39) :: []) := by
    have h9 := hM
    rw [qmb (l := p) (by omega)] at h9
    exact h9
   refine qe (hK29 _ _ (wrl (sdo (v := .int .i64 (((i + 1 : Nat) : Int))) hA (qg rfl rfl (ar_add ((in_i64 (by omega) (by omega)).trans (by omega)))) fun a hA => ?_)))
   refine sdo hA (qa rfl) fun a hA => ?_
   refine qe ?_
   refine hK24 _ _ _ (by omega) ⟨i + 1, rfl, (by omega), hA.keep _ ⟨rfl, rfl, rfl, rfl, rfl, rfl, rfl, rfl, rfl, rfl, rfl, rfl, rfl, rfl, rfl, rfl, rfl, rfl, rfl, rfl, rfl, rfl, rfl, trivial⟩, hM⟩
  ·
   have hb27' := of_decide_eq_false hb27
   refine sdo (v := .bool false) hA (qg rfl rfl (fun w => (zi w).trans (by rw [hb27]))) fun a hA => ?_
   refine qe (hK26 _ _ (wsk fun K32 hK32 => wp_cond_false (hA.ev rfl) ?_))
   refine wp_exit (hK21 _ _ (wsk fun K33 hK33 => wrl (sdo hA (qa rfl) fun a hA => ?_)))
   have hx38 : (zr p i).length = p.length := by simp [kg]
   refine qi hA rfl rfl rfl (qf rfl rfl (fun w => by kernel_rfl)) ((by have h9 := vx (w := w23) (l := zr p i) (vl (bs := zr p i) hM 0 rfl).1 (ca := p.length) (by omega) (by omega); rw [hx38] at h9; exact h9)) ?_
   rintro _ w39 ⟨g34, g35, g36, rfl, hM37⟩
   replace hM : Mg w w39 (.row 51 1 (.slice (some ⟨g34, 0, none⟩) ((words (leN (zr p i))).length) ((words (leN (zr p i))).length)) ((words (leN (zr p i))).length) ((uC (words (leN (zr p i))))) :: .row 51 1 (.slice (some ⟨g35, 0, none⟩) 1 2) 1 ([.int .u32 1]) :: .row 51 1 (.slice (some ⟨g36, 0, none⟩) 1 2) 1 ([.int .u32 1]) :: .row BY 1 (.slice (some ⟨g7, 0, none⟩) p.length p.length) p.length ((Lib.byteCells (zr p i))) :: .obj g4 (.cells #[.bool false, .slice none 0 0, .slice none 0 0, .bool false, .slice none 0 0, .slice none 0 0] 36) :: .obj g2 (.cells #[.int .i64 (((p.length : Nat) : Int)), .bool false, .bool true] 39) :: []) := (hM.both hM37 (qn (by simp) (qn (by simp) (qn (by simp) (qy zd)))) (qn (by simp) (qn (by simp) (qn (by simp) (qy zd)))))
   refine ⟨_, rfl, ?_⟩
   intro a hA
   have hN9 : Nm _ (Q6.whole false (leN (zr p i))) (some ⟨g34, 0, none⟩) (words (leN (zr p i))).length (some ⟨g35, 0, none⟩) 2 none 0 (some ⟨g36, 0, none⟩) 2 := ⟨qag hM 0 rfl, ku (x := 1) hM 1 rfl (by decide), qeb, ku (x := 1) hM 2 rfl (by decide)⟩
   have hlt9 : leN (zr p i) < 256 ^ p.length := by have h9 := yq (zr p i); rw [show (zr p i).length = p.length from by simp [kg]] at h9; exact h9
   refine qi hA rfl rfl rfl (qf rfl rfl (fun w => by kernel_rfl)) (qmc hl64 hlt9 hN9) ?_
   rintro _ w43 ⟨o42_1, o42_c1, o42_2, o42_c2, o42_3, o42_c3, o42_4, o42_c4, rfl, hn40, hb41⟩
   replace hM := hM.call hb41
   refine ⟨_, rfl, ?_⟩
   intro a hA
   refine sdo hA (qa rfl) fun a hA => ?_
   iterate 2 refine sdo hA (qz (vs := [.agg #[.bool true, .slice o42_1 ((words (leN (zr p i) + 1)).length) o42_c1, .slice o42_2 1 o42_c2, .bool false, .slice o42_3 0 o42_c3, .slice o42_4 1 o42_c4], .int .i64 0]) rfl rfl) fun a hA => ?_
   refine qif (vs := [.bool false, .slice none 0 0, .slice none 0 0, .bool false, .slice none 0 0, .slice none 0 0]) (t := 36) hA hM rfl rfl rfl (fun g => .pointer (some ⟨g, 0, none⟩)) (qp (z := .agg #[.bool false, .slice none 0 0, .slice none 0 0, .bool false, .slice none 0 0, .slice none 0 0]) (by kernel_rfl) rfl) (by decide) ?_
   intro g44 w45 hM hc46 a hA
   replace hn40 := jv hn40 hc46
   refine yh (us := [.bool true, .slice o42_1 ((words (leN (zr p i) + 1)).length) o42_c1, .slice o42_2 1 o42_c2, .bool false, .slice o42_3 0 o42_c3, .slice o42_4 1 o42_c4]) (L' := (.obj g44 (.cells #[.bool true, .slice o42_1 ((words (leN (zr p i) + 1)).length) o42_c1, .slice o42_2 1 o42_c2, .bool false, .slice o42_3 0 o42_c3, .slice o42_4 1 o42_c4] 36) :: .row 51 1 (.slice (some ⟨g34, 0, none⟩) ((words (leN (zr p i))).length) ((words (leN (zr p i))).length)) ((words (leN (zr p i))).length) ((uC (words (leN (zr p i))))) :: .row 51 1 (.slice (some ⟨g35, 0, none⟩) 1 2) 1 ([.int .u32 1]) :: .row 51 1 (.slice (some ⟨g36, 0, none⟩) 1 2) 1 ([.int .u32 1]) :: .row BY 1 (.slice (some ⟨g7, 0, none⟩) p.length p.length) p.length ((Lib.byteCells (zr p i))) :: .obj g4 (.cells #[.bool false, .slice none 0 0, .slice none 0 0, .bool false, .slice none 0 0, .slice none 0 0] 36) :: .obj g2 (.cells #[.int .i64 (((p.length : Nat) : Int)), .bool false, .bool true] 39) :: [])) hA hM rfl rfl (jz rfl rfl rfl (by kernel_rfl) hM 0 rfl rfl rfl) 0 rfl rfl rfl rfl rfl rfl ?_
   intro w47 hM hc48
   replace hn40 := jv hn40 hc48
   refine sdo hA (qb rfl) fun a hA => ?_
   refine qe (hK33 _ _ (wsk fun K49 hK49 => wrl (sdo hA (jc hM ByO_isS_36 rfl 0 rfl (cs := [.bool true, .slice o42_1 ((words (leN (zr p i) + 1)).length) o42_c1, .slice o42_2 1 o42_c2, .bool false, .slice o42_3 0 o42_c3, .slice o42_4 1 o42_c4]) rfl rfl) fun a hA => ?_)))
   refine yh (us := [.bool true, .slice o42_1 ((words (leN (zr p i) + 1)).length) o42_c1, .slice o42_2 1 o42_c2, .bool false, .slice o42_3 0 o42_c3, .slice o42_4 1 o42_c4]) (L' := (.obj g44 (.cells #[.bool true, .slice o42_1 ((words (leN (zr p i) + 1)).length) o42_c1, .slice o42_2 1 o42_c2, .bool false, .slice o42_3 0 o42_c3, .slice o42_4 1 o42_c4] 36) :: .row 51 1 (.slice (some ⟨g34, 0, none⟩) ((words (leN (zr p i))).length) ((words (leN (zr p i))).length)) ((words (leN (zr p i))).length) ((uC (words (leN (zr p i))))) :: .row 51 1 (.slice (some ⟨g35, 0, none⟩) 1 2) 1 ([.int .u32 1]) :: .row 51 1 (.slice (some ⟨g36, 0, none⟩) 1 2) 1 ([.int .u32 1]) :: .row BY 1 (.slice (some ⟨g7, 0, none⟩) p.length p.length) p.length ((Lib.byteCells (zr p i))) :: .obj g4 (.cells #[.bool true, .slice o42_1 ((words (leN (zr p i) + 1)).length) o42_c1, .slice o42_2 1 o42_c2, .bool false, .slice o42_3 0 o42_c3, .slice o42_4 1 o42_c4] 36) :: .obj g2 (.cells #[.int .i64 (((p.length : Nat) : Int)), .bool false, .bool true] 39) :: [])) hA hM rfl rfl (jz rfl rfl rfl (by kernel_rfl) hM 5 rfl rfl rfl) 5 rfl rfl rfl rfl rfl rfl ?_
   intro w50 hM hc51
   replace hn40 := jv hn40 hc51
   refine qe (hK49 _ _ (wp_ret (hret _ _ (en1 hA rfl (vw hM ByO_isS_36 rfl 5 rfl (cs := [.bool true, .slice o42_1 ((words (leN (zr p i) + 1)).length) o42_c1, .slice o42_2 1 o42_c2, .bool false, .slice o42_3 0 o42_c3, .slice o42_4 1 o42_c4]) rfl rfl) ?_))))
   have hi8 : i = p.length := by omega
   subst hi8
   have e9 : jt false true p = Q6.whole true (leN (zr p p.length) + 1) := by
    unfold jt
    rw [if_pos ⟨rfl, (show 128 ≤ ((p).getD (p.length - 1) 0).toNat from by omega)⟩]
    have h8 := qre p
    rw [← qrc, show (p).length = p.length from by simp] at h8
    rw [(show zw false p = p from rfl), show 256 ^ p.length - leN p = leN (zr p p.length) + 1 from by omega]
   rw [e9]
   exact ⟨_, _, _, _, _, _, _, _, rfl, hn40, hM.bel⟩
theorem yy {w : World} {sp : Option Addr} {cp : Nat} {p : List UInt8} (hp : Rb w sp p) (hl1 : 1 ≤ p.length) (hl64 : p.length ≤ 64) (bg sg : Bool) : Calls Tryz.prog 12 #[.agg #[.int .i64 ((p.length : Nat) : Int), .bool bg, .bool sg], .slice sp p.length cp] w (AnsV w (jt bg sg p)) := by
 cases bg <;> cases sg
 ·
  exact qca hp hl1 hl64
 ·
  exact qcj hp hl1 hl64
 ·
  exact qci hp hl1 hl64
 ·
  exact qee hp hl1 hl64
end Go.Proofs.YtbhdnpbbmpemnaaGreatDoor.G
namespace Go.Proofs.YtbhdnpbbmpemnaaGreatDoor
open Go.RowKit
set_option linter.unusedVariables false
set_option linter.unusedSimpArgs false

section
variable {P : Program} {w0 w : World} {l : List (Nat × Value)} {dst : Option Tmp} {ty : TypeId} {pos : String} {after : Array Edge} {guard : Option (Nat × Bool)} {v : Value} {L : List (Nat × List Value)} {R : List (Option Addr × List Nat)} {O : List (Option Addr × Nat × List Nat)}
theorem zdi {t e : TypeId} (ht : P.underlying t = some (.slice e)) (he : (P.info? e).map (·.size) = some 1) {x y1 y2 : Operand} {so : Option Addr} {n cap lo hi q : Nat} {z1 z2 : Int} (hx : ev l x = some (.slice so n cap)) (hy1 : ev l y1 = some (.int .i64 z1)) (hy2 : ev l y2 = some (.int .i64 z2)) (hz1 : z1 = ((lo : Nat) : Int)) (hz2 : z2 = ((hi : Nat) : Int)) (h1 : lo ≤ hi) (h2 : hi ≤ cap) (hq : hi - lo = q) : Does P l ⟨dst, .slice t x (some y1) (some y2) none, ty, pos, after, guard⟩ w (.slice (G.ui so cap lo) q (cap - lo)) w := fun ρ h => by
  subst hz1 hz2 hq
  obtain ⟨i, hii, hs⟩ := xb he
  have k2 : (sizeOf e).run P w = .ok 1 w := by simp [sizeOf, typeInfo, hii, hs]
  have g1 : (0 : Int) ≤ (lo : Nat) ∧ ((lo : Nat) : Int) ≤ (hi : Int) := ⟨by omega, by omega⟩
  have g2 : (0 : Int) ≤ (hi : Nat) ∧ ((hi : Nat) : Int) ≤ (cap : Int) := ⟨by omega, by omega⟩
  simp only [execOp, h x _ hx, h y1 _ hy1, h y2 _ hy2, Option.map_some, Option.map_none, Instr.sliceAt, Instr.slice, Instr.sliceBounds, Instr.sliceBound, asIntOf, run_underlying ht, Sem.run_bind, Sem.run_pure, Result.andThen_ok, g1, g2, k2, and_self, if_true, Int.toNat_natCast, Nat.mul_one, G.ui]
theorem ub (hS : St w0 w L R O) {b o : Nat} (hlt : b < w0.heap.size) (hc : w0.cell? ⟨b, o, none⟩ = some v) {t : TypeId} (ht : Is1 P t) {x : Operand} (hx : ev l x = some (.pointer (some ⟨b, o, none⟩))) : Does P l ⟨dst, .load t x, ty, pos, after, guard⟩ w v w :=
  xp hx (vq ht ((hS.bel.cell hlt).trans hc))
end
theorem qhb {w : World} {so : Option Addr} {l : List UInt8} {i : Nat} (h : G.Rb w so l) (hi : i < l.length) : ∃ b off, so = some ⟨b, off, none⟩ ∧ b < w.heap.size ∧ ∀ j, j < l.length → w.cell? ⟨b, off + j, none⟩ = some (.int .u8 (((l.getD j 0).toNat : Nat) : Int)) := h.pos (fun e => by rw [e] at hi; simp at hi)
def okG (n : Nat) (ap size : Int) : Bool := G.js size && G.inB n ap size
/-- The bytes, the highest first. -/
def bqB (bg : Bool) (p : List UInt8) : List UInt8 := if bg = true then p else p.reverse
theorem zmh (bg : Bool) (p : List UInt8) : G.zw bg p = (bqB bg p).reverse := by unfold G.zw bqB; cases bg <;> simp
theorem qvc (bg : Bool) (p : List UInt8) : (bqB bg p).length = p.length := by unfold bqB; cases bg <;> simp
def upK (bg : Bool) (p : List UInt8) (k : Nat) : Nat := G.leN ((bqB bg p).take k).reverse
theorem qrf (bg : Bool) (p : List UInt8) : upK bg p 0 = 0 := by simp [upK, G.leN]
theorem qhc (bg : Bool) (p : List UInt8) : upK bg p p.length = G.leN (G.zw bg p) := by unfold upK; rw [zmh, ← qvc bg p, List.take_length]
theorem qda {bg : Bool} {p : List UInt8} {k : Nat} (h : k < p.length) : upK bg p (k + 1) = upK bg p k * 256 + ((bqB bg p).getD k 0).toNat := by
  have h1 : k < (bqB bg p).length := by rw [qvc]; exact h
  unfold upK
  rw [List.take_succ_eq_append_getElem h1, List.reverse_append]
  have e : (bqB bg p).getD k 0 = (bqB bg p)[k] := by rw [List.getD_eq_getElem?_getD, List.getElem?_eq_getElem h1]; rfl
  rw [e]
  simp only [List.reverse_cons, List.reverse_nil, List.nil_append, List.cons_append, G.leN]
  omega
theorem zdj {l : List UInt8} {an nn k : Nat} (hk : k < nn) : (bqB true ((l.drop an).take nn)).getD k 0 = l.getD (an + k) 0 := by
  unfold bqB
  rw [if_pos rfl, List.getD_eq_getElem?_getD, List.getD_eq_getElem?_getD, List.getElem?_take, if_pos hk, List.getElem?_drop]
theorem qmd {l : List UInt8} {an nn k : Nat} (hk : k < nn) (hl : an + nn ≤ l.length) : (bqB false ((l.drop an).take nn)).getD k 0 = l.getD (an + nn - 1 - k) 0 := by
  have hlen : ((l.drop an).take nn).length = nn := by rw [List.length_take, List.length_drop]; omega
  unfold bqB
  rw [if_neg (by decide), List.getD_eq_getElem?_getD, List.getD_eq_getElem?_getD, List.getElem?_reverse (by omega), hlen, List.getElem?_take, if_pos (by omega), List.getElem?_drop]
  congr 2
  omega
theorem qob (bg : Bool) {p : List UInt8} {k : Nat} (hk : k ≤ p.length) (hp : p.length ≤ 64) : upK bg p k < 256 ^ k ∧ (words (upK bg p k)).length ≤ 512 := by
  have h := G.yq ((bqB bg p).take k).reverse
  rw [List.length_reverse, List.length_take, qvc, Nat.min_eq_left hk] at h
  exact ⟨h, G.jx (n := k) (by omega) (Nat.le_of_lt h)⟩
theorem ud {x : Nat} (h : x < 256) : (words x).length ≤ 100000 := Nat.le_trans (G.jx (n := 1) (by decide) (by rw [Nat.pow_one]; omega)) (by decide)
theorem vj : words 256 = [256] := by rw [words_pos (by omega)]; simp [words_zero]
theorem qah {w : World} {ao bo : Option Addr} {x : Nat} {xl : List Nat} (ca cb : Nat) (hx : xl = words x) (ha : Rd w ao xl) (hb : Rd w bo [256]) (hl : (words x).length ≤ 512) : Calls Tryz.prog 25 #[.slice ao xl.length ca, .slice bo 1 cb] w (Row1 w (words (x * 256))) := by
  subst hx
  have h := xf (y := 256) ca cb ha (vj.symm ▸ hb) (by omega) (by rw [vj]; decide)
  rw [show (words 256).length = 1 from by rw [vj]; rfl] at h
  exact h
theorem qvd {w : World} {bo : Option Addr} (cb : Nat) {n : Nat} (hb : Rd w bo [1]) (hn : n ≤ 1000000) : Calls Tryz.prog 29 #[.slice bo 1 cb, .int .i64 ((n : Nat) : Int)] w (Row1 w (words (2 ^ n))) := by
  have h := zdc (x := 1) (n := ((n : Nat) : Int)) cb (xe.symm ▸ hb) (by rw [xe]; decide) (by omega) (by omega)
  rw [show (words 1).length = 1 from by rw [xe]; rfl, Int.toNat_natCast, Nat.one_mul] at h
  exact h
theorem zlg {w : World} {x y : Nat} {xl : List Nat} {a1 a2 : Option Addr} {ac1 ac2 : Nat} (hx : xl = words x) (ha1 : Sc w a1 ac1 xl) (ha2 : Sc w a2 ac2 [1]) {u1 u2 : Option Addr} {uc1 uc2 : Nat} (hu1 : Sc w u1 uc1 (words y)) (hu2 : Sc w u2 uc2 [1]) (lx : (words x).length ≤ 512) (ly : (words y).length ≤ 512) (hxy : x < y) :
    Calls Tryz.prog 30 #[.agg #[.bool false, .slice a1 xl.length ac1, .slice a2 1 ac2], .agg #[.bool true, .slice u1 (words y).length uc1, .slice u2 1 uc2]] w (AnsF w true (words (y - x)) [1]) := by
  subst hx
  have h1 : (words 1).length = 1 := by rw [xe]; rfl
  rw [← xe] at hu2 ha2
  have h := qqg (b1 := false) (b2 := true) ha1 ha2 hu1 hu2 (by omega) (by omega) (by omega) (by omega) (by omega) (by omega)
  have e : sgn false x * ((1 : Nat) : Int) + sgn true y * ((1 : Nat) : Int) = sgn true (y - x) := by simp [sgn]; omega
  rw [e] at h
  have e1 : rb (sgn true (y - x)) = true := by unfold rb sgn; simp; omega
  have e2 : rt (sgn true (y - x)) (1 * 1) = y - x := by unfold rt; rw [qcg]; simp
  have e3 : rq (sgn true (y - x)) (1 * 1) = 1 := by unfold rq; simp
  rw [e1, e2, e3, h1, xe] at h
  exact h
theorem zmi {w : World} {ao : Option Addr} {x : Nat} {xl : List Nat} (cap : Nat) (hx : xl = words x) (h : Rd w ao xl) (hl : (words x).length ≤ 512) : Calls Tryz.prog 28 #[.slice ao xl.length cap] w fun e w' => e = .returned (.int .i64 ((bl x : Nat) : Int)) ∧ w' = w := by
  subst hx
  exact size_any cap h (by omega)
theorem kw (n : Nat) : 2 ^ (8 * n) = 256 ^ n := by rw [Nat.pow_mul]
theorem qhd {l : List UInt8} {n : Nat} (hl : l.length = n) (h1 : 1 ≤ n) : bl (G.leN l) = 8 * n ↔ 128 ≤ (l.getD (n - 1) 0).toNat := by
  have hlt : n - 1 < l.length := by omega
  have e : l = l.take (n - 1) ++ [l[n - 1]] := by
    have := List.take_append_drop (n - 1) l
    rw [List.drop_eq_getElem_cons hlt, List.drop_eq_nil_of_le (by omega)] at this
    exact this.symm
  have ed : l.getD (n - 1) 0 = l[n - 1] := by rw [List.getD_eq_getElem?_getD, List.getElem?_eq_getElem hlt]; rfl
  rw [ed]
  have hx : G.leN l = G.leN (l.take (n - 1)) + 256 ^ (n - 1) * l[n - 1].toNat := by
    have h := congrArg G.leN e
    rw [G.qbi] at h
    rw [h, List.length_take, Nat.min_eq_left (by omega)]
    simp [G.leN]
  have ht := G.yq (l.take (n - 1))
  rw [List.length_take, Nat.min_eq_left (by omega)] at ht
  have hw := G.yq l
  rw [hl] at hw
  have hb : l[n - 1].toNat < 256 := UInt8.toNat_lt _
  obtain ⟨m, rfl⟩ : ∃ m, n = m + 1 := ⟨n - 1, by omega⟩
  simp only [Nat.add_sub_cancel] at *
  have hp : 2 ^ (8 * (m + 1) - 1) = 128 * 256 ^ m := by
    rw [show 8 * (m + 1) - 1 = 8 * m + 7 from by omega, Nat.pow_add, kw]
    omega
  constructor
  · intro h
    have hne : G.leN l ≠ 0 := fun k => by rw [k, bl_zero] at h; omega
    have h2 := bl_ge hne
    rw [h, hp] at h2
    apply Classical.byContradiction
    intro hc
    have : l[m].toNat ≤ 127 := by omega
    have h3 := Nat.mul_le_mul_left (256 ^ m) this
    rw [hx] at h2
    omega
  · intro h
    have h3 := Nat.mul_le_mul_left (256 ^ m) h
    have h4 := bl_eq (x := G.leN l) (n := 8 * (m + 1) - 1) (by rw [hp, hx]; omega) (by rw [show 8 * (m + 1) - 1 + 1 = 8 * (m + 1) from by omega, kw]; exact hw)
    omega
end Go.Proofs.YtbhdnpbbmpemnaaGreatDoor
namespace Go.Proofs.YtbhdnpbbmpemnaaGreatDoor
open Go.RowKit
set_option linter.unusedVariables false
set_option linter.unusedSimpArgs false
set_option maxRecDepth 100000
theorem GvB_isS_36 : IsS Tryz.prog 36 6 := ⟨⟨_, Tryz.underlying36⟩, by kernel_rfl⟩
theorem GvB_isS_39 : IsS Tryz.prog 39 3 := ⟨⟨_, Tryz.underlying39⟩, by kernel_rfl⟩
theorem zmj {w : World} {so : Option Addr} {ca : Nat} {l : List UInt8} (hb : G.Rb w so l) (hca : l.length ≤ ca) (hl : l.length ≤ 140737488351232) {an nn : Nat} (hn1 : 1 ≤ nn) (hn64 : nn ≤ 64) (hle : an + nn ≤ l.length) (bg sg : Bool) : Calls Tryz.prog 16 #[.slice so l.length ca, .int .i64 ((an : Nat) : Int), .int .i64 ((nn : Nat) : Int), .bool bg, .bool sg] w (AnsN w (G.jt bg sg ((l.drop an).take nn), 0)) := by
 have hpl : ((l.drop an).take nn).length = nn := by rw [List.length_take, List.length_drop]; omega
 have hk1 : G.js ((nn : Nat) : Int) = true := by unfold G.js; apply decide_eq_true; omega
 have hk2 : G.inB l.length ((an : Nat) : Int) ((nn : Nat) : Int) = true := by unfold G.inB; apply decide_eq_true; omega
 have hS : St w w [] [] [] := St.start w
 refine za (l := [(0, .slice so l.length ca), (1, .int .i64 (((an : Nat) : Int))), (2, .int .i64 (((nn : Nat) : Int))), (3, .bool bg), (4, .bool sg)]) Tryz.func16 rfl Tryz.ntmps16 rfl rfl ?_
 intro Q hret hnorm hP a hA
 refine wsk fun K1 hK1 => wrl (ze (vs := [.bool false, .slice none 0 0, .slice none 0 0, .bool false, .slice none 0 0, .slice none 0 0]) (t := 36) hA hS rfl rfl rfl (fun g => .pointer (some ⟨g, 0, none⟩)) (qp (z := .agg #[.bool false, .slice none 0 0, .slice none 0 0, .bool false, .slice none 0 0, .slice none 0 0]) (by kernel_rfl) rfl) rfl ?_)
 intro g2 w3 hS a hA
 refine sdo hA (qb rfl) fun a hA => ?_
 refine qe (hK1 _ _ (wsk fun K4 hK4 => wrl ?_))
 iterate 3 refine sdo hA (qa rfl) fun a hA => ?_
 refine sdo (v := .agg #[.int .i64 (((nn : Nat) : Int)), .bool bg, .bool sg]) hA (zj rfl (fun w => by kernel_rfl)) fun a hA => ?_
 refine ze (vs := [.int .i64 0, .bool false, .bool false]) (t := 39) hA hS rfl rfl rfl (fun g => .pointer (some ⟨g, 0, none⟩)) (qp (z := .agg #[.int .i64 0, .bool false, .bool false]) (by kernel_rfl) rfl) rfl ?_
 intro g5 w6 hS a hA
 refine zq (us := [.int .i64 (((nn : Nat) : Int)), .bool bg, .bool sg]) hA hS rfl rfl (qr rfl rfl rfl (by kernel_rfl) hS 0 rfl rfl rfl) 0 rfl rfl rfl rfl ?_
 intro w7 hS
 refine qe (hK4 _ _ (wsk fun K8 hK8 => wsk fun K9 hK9 => wrl (sdo hA (qw hS GvB_isS_39 rfl 0 rfl (cs := [.int .i64 (((nn : Nat) : Int)), .bool bg, .bool sg]) rfl rfl) fun a hA => ?_)))
 refine qi hA rfl rfl rfl (qf  rfl rfl (fun w => by kernel_rfl)) ((hk1 ▸ G.qfd (size := ((nn : Nat) : Int)) (bg := bg) (sg := sg))) ?_
 rintro _ w11 ⟨rfl, hb10⟩
 replace hS := hS.call hb10
 refine ⟨_, rfl, ?_⟩
 intro a hA
 refine sdo (v := .bool false) hA (zp rfl zu) fun a hA => ?_
 iterate 4 refine sdo hA (qa rfl) fun a hA => ?_
 refine qi hA rfl rfl rfl (qf  rfl rfl (fun w => by kernel_rfl)) (G.qya hl (by omega) (by omega) (by omega) (by omega) hk2) ?_
 rintro _ w13 ⟨rfl, hb12⟩
 replace hS := hS.call hb12
 refine ⟨_, rfl, ?_⟩
 intro a hA
 refine sdo (v := .bool false) hA (zp rfl zu) fun a hA => ?_
 refine sdo (v := .bool false) hA (qj rfl rfl rfl rfl) fun a hA => ?_
 refine qe (hK9 _ _ (wp_cond_false (hA.ev rfl) ?_))
 refine wp_skip (hK8 _ _ (wsk fun K14 hK14 => je (S := fun w1 => St w w1 [(g5, [.int .i64 (((nn : Nat) : Int)), .bool bg, .bool sg])] [] []) (by kernel_rfl) ?_))
 replace hS := hS.drew
 refine qk hA 0 rfl rfl rfl rfl hP (hS.partD (.cons_cons _ (.cons _ .slnil)) 0 rfl (.refl _)) (fun w1 hS => qw hS GvB_isS_39 rfl 0 rfl (cs := [.int .i64 (((nn : Nat) : Int)), .bool bg, .bool sg]) rfl rfl) fun a hA => ?_
 refine qk hA 1 rfl rfl rfl rfl hP (hS.partD (.cons_cons _ (.cons _ .slnil)) 0 rfl (.refl _)) (fun w1 hS => qa rfl) fun a hA => ?_
 refine qk hA 2 rfl rfl rfl rfl hP (hS.partD (.cons_cons _ (.cons _ .slnil)) 0 rfl (.refl _)) (fun w1 hS => qa rfl) fun a hA => ?_
 refine qk hA 3 rfl rfl rfl rfl hP (hS.partD (.cons_cons _ (.cons _ .slnil)) 0 rfl (.refl _)) (fun w1 hS => qa rfl) fun a hA => ?_
 refine qk hA 4 rfl rfl rfl rfl hP (hS.partD (.cons_cons _ (.cons _ .slnil)) 0 rfl (.refl _)) (fun w1 hS => qa rfl) fun a hA => ?_
 refine qk (v := .int .i64 (((an + nn : Nat) : Int))) hA 5 rfl rfl rfl rfl hP (hS.partD (.cons_cons _ (.cons _ .slnil)) 0 rfl (.refl _)) (fun w1 hS => qg rfl rfl (fun w => (jp (ji (by omega) (by omega)) w).trans (by rw [show (((an : Nat) : Int) + ((nn : Nat) : Int) : Int) = ((an + nn : Nat) : Int) from by omega]))) fun a hA => ?_
 refine qk (v := .slice ((G.ui so ca an)) nn ((ca - an))) hA 6 rfl rfl rfl rfl hP (hS.partD (.cons_cons _ (.cons _ .slnil)) 0 rfl (.refl _)) (fun w1 hS => zdi (lo := an) (hi := an + nn) Tryz.underlying22 (by kernel_rfl) rfl rfl rfl (by first | rfl | omega) (by first | rfl | omega) (by omega) (by omega) (by omega)) fun a hA => ?_
 refine qt (by kernel_rfl) (zm hA 7 rfl rfl rfl rfl (qf  rfl rfl (fun w => by kernel_rfl)) ((by have h9 := G.yy (w := w13.drew) (p := ((l.drop an).take nn)) (((hb.drop ca an hca).takeZ nn).below hS.bel) (cp := ca - an) (by omega) (by omega) bg sg; rw [hpl] at h9; exact h9)) ?_)
 rintro _ w18 ⟨p15_1, p15_c1, p15_2, p15_c2, p15_3, p15_c3, p15_4, p15_c4, rfl, hn16, hb17⟩
 replace hS := hS.call hb17
 replace hS := hS.addR hn16.s1.rd
 replace hS := hS.addR hn16.s2.rd
 replace hS := hS.addR hn16.s3.rd
 replace hS := hS.addR hn16.s4.rd
 refine ⟨_, rfl, (hS.partD (.cons_cons _ (.cons _ .slnil)) 4 rfl (.refl _)), ?_⟩
 intro a hA
 refine qt (by kernel_rfl) (zl (us := [.bool ((G.jt bg sg ((l.drop an).take nn)).b1), .slice p15_1 (((G.jt bg sg ((l.drop an).take nn)).t1).length) p15_c1, .slice p15_2 (((G.jt bg sg ((l.drop an).take nn)).q1).length) p15_c2, .bool ((G.jt bg sg ((l.drop an).take nn)).b2), .slice p15_3 (((G.jt bg sg ((l.drop an).take nn)).t2).length) p15_c3, .slice p15_4 (((G.jt bg sg ((l.drop an).take nn)).q2).length) p15_c4]) hA hS 8 rfl rfl rfl (qr rfl rfl rfl (by kernel_rfl) hS 1 rfl rfl rfl) 1 rfl rfl rfl rfl ?_)
 intro w19 hS
 refine ⟨(hS.partD (.cons_cons _ (.cons _ .slnil)) 4 rfl (.refl _)), ?_⟩
 refine qk hA 9 rfl rfl rfl rfl hP (hS.partD (.cons_cons _ (.cons _ .slnil)) 4 rfl (.refl _)) (fun w1 hS => qb rfl) fun a hA => ?_
 refine zn (by kernel_rfl) ?_
 refine hK14 _ _ (wp_ret (hret _ _ (en2 hA rfl (jh hS GvB_isS_36 rfl 1 rfl (cs := [.bool ((G.jt bg sg ((l.drop an).take nn)).b1), .slice p15_1 (((G.jt bg sg ((l.drop an).take nn)).t1).length) p15_c1, .slice p15_2 (((G.jt bg sg ((l.drop an).take nn)).q1).length) p15_c2, .bool ((G.jt bg sg ((l.drop an).take nn)).b2), .slice p15_3 (((G.jt bg sg ((l.drop an).take nn)).t2).length) p15_c3, .slice p15_4 (((G.jt bg sg ((l.drop an).take nn)).q2).length) p15_c4]) rfl rfl) (ql rfl) ?_)))
 exact ⟨p15_1, p15_c1, p15_2, p15_c2, p15_3, p15_c3, p15_4, p15_c4, rfl, ⟨⟨(hS.rd 3 rfl), hn16.s1.nil, hn16.s1.cap⟩, ⟨(hS.rd 2 rfl), hn16.s2.nil, hn16.s2.cap⟩, ⟨(hS.rd 1 rfl), hn16.s3.nil, hn16.s3.cap⟩, ⟨(hS.rd 0 rfl), hn16.s4.nil, hn16.s4.cap⟩⟩, hS.bel⟩
theorem qwe {w : World} {m : Nat} {ap size : Int} (hm : m ≤ 140737488351232) (hap0 : -9223372036854775808 ≤ ap) (hap1 : ap ≤ 9223372036854775807) (hsize0 : -9223372036854775808 ≤ size) (hsize1 : size ≤ 9223372036854775807) {c : Bool} (hc : okG m ap size = c) : Calls Tryz.prog 23 #[.int .i64 ((m : Nat) : Int), .int .i64 ap, .int .i64 size] w fun e w' => e = .returned (.bool c) ∧ Below w.heap.size w w' := by
 have hS : St w w [] [] [] := St.start w
 refine za (l := [(0, .int .i64 (((m : Nat) : Int))), (1, .int .i64 ap), (2, .int .i64 size)]) Tryz.func23 rfl Tryz.ntmps23 rfl rfl ?_
 intro Q hret hnorm hP a hA
 refine wsk fun K1 hK1 => wrl (sdo hA (qb rfl) fun a hA => ?_)
 refine qe (hK1 _ _ (wsk fun K2 hK2 => wrl (sdo hA (qa rfl) fun a hA => ?_)))
 rcases tf (decide (1 ≤ size)) with hb3 | hb3
 ·
  have hb3' := of_decide_eq_true hb3
  refine sdo (v := .bool true) hA (qg rfl rfl (fun w => (ju w).trans (by rw [hb3]))) fun a hA => ?_
  iterate 2 refine sdo hA (qa rfl) fun a hA => ?_
  rcases tf (decide (size ≤ 64)) with hb4 | hb4
  ·
   have hb4' := of_decide_eq_true hb4
   refine sdo (v := .bool true) hA (qg rfl rfl (fun w => (kx w).trans (by rw [hb4]))) fun a hA => ?_
   refine sdo (v := .bool true) hA (qj rfl rfl rfl rfl) fun a hA => ?_
   iterate 2 refine sdo hA (qa rfl) fun a hA => ?_
   rcases tf (decide (0 ≤ ap)) with hb5 | hb5
   ·
    have hb5' := of_decide_eq_true hb5
    refine sdo (v := .bool true) hA (qg rfl rfl (fun w => (ju w).trans (by rw [hb5]))) fun a hA => ?_
    refine sdo (v := .bool true) hA (qj rfl rfl rfl rfl) fun a hA => ?_
    iterate 3 refine sdo hA (qa rfl) fun a hA => ?_
    rcases tf (decide (size ≤ ((m : Nat) : Int))) with hb6 | hb6
    ·
     have hb6' := of_decide_eq_true hb6
     refine sdo (v := .bool true) hA (qg rfl rfl (fun w => (ju w).trans (by rw [hb6]))) fun a hA => ?_
     refine sdo (v := .bool true) hA (qj rfl rfl rfl rfl) fun a hA => ?_
     iterate 4 refine sdo hA (qa rfl) fun a hA => ?_
     refine sdo (v := .int .i64 (((m : Nat) : Int) - size)) hA (qg rfl rfl (jy (ji (by omega) (by omega)))) fun a hA => ?_
     rcases tf (decide (ap ≤ ((m : Nat) : Int) - size)) with hb7 | hb7
     ·
      have hb7' := of_decide_eq_true hb7
      refine sdo (v := .bool true) hA (qg rfl rfl (fun w => (kx w).trans (by rw [hb7]))) fun a hA => ?_
      refine sdo (v := .bool true) hA (qj rfl rfl rfl rfl) fun a hA => ?_
      refine sdo hA (qb rfl) fun a hA => ?_
      refine qe (hK2 _ _ (wp_ret (hret _ _ (en1 hA rfl (ql rfl) ?_))))
      subst hc
      exact ⟨by rw [show okG m ap size = true from by unfold okG G.js G.inB; simp; omega], hS.bel⟩
     ·
      have hb7' := of_decide_eq_false hb7
      refine sdo (v := .bool false) hA (qg rfl rfl (fun w => (kx w).trans (by rw [hb7]))) fun a hA => ?_
      refine sdo (v := .bool false) hA (qj rfl rfl rfl rfl) fun a hA => ?_
      refine sdo hA (qb rfl) fun a hA => ?_
      refine qe (hK2 _ _ (wp_ret (hret _ _ (en1 hA rfl (ql rfl) ?_))))
      subst hc
      exact ⟨by rw [show okG m ap size = false from by unfold okG G.js G.inB; simp; omega], hS.bel⟩
    ·
     have hb6' := of_decide_eq_false hb6
     refine sdo (v := .bool false) hA (qg rfl rfl (fun w => (ju w).trans (by rw [hb6]))) fun a hA => ?_
     refine sdo (v := .bool false) hA (qj rfl rfl rfl rfl) fun a hA => ?_
     refine sdo hA (qa rfl) fun a hA => ?_
     iterate 5 refine zg hA rfl rfl rfl fun a hA => ?_
     refine sdo (v := .bool false) hA (qj rfl rfl rfl rfl) fun a hA => ?_
     refine sdo hA (qb rfl) fun a hA => ?_
     refine qe (hK2 _ _ (wp_ret (hret _ _ (en1 hA rfl (ql rfl) ?_))))
     subst hc
     exact ⟨by rw [show okG m ap size = false from by unfold okG G.js G.inB; simp; omega], hS.bel⟩
   ·
    have hb5' := of_decide_eq_false hb5
    refine sdo (v := .bool false) hA (qg rfl rfl (fun w => (ju w).trans (by rw [hb5]))) fun a hA => ?_
    refine sdo (v := .bool false) hA (qj rfl rfl rfl rfl) fun a hA => ?_
    refine sdo hA (qa rfl) fun a hA => ?_
    iterate 3 refine zg hA rfl rfl rfl fun a hA => ?_
    refine sdo (v := .bool false) hA (qj rfl rfl rfl rfl) fun a hA => ?_
    refine sdo hA (qa rfl) fun a hA => ?_
    iterate 5 refine zg hA rfl rfl rfl fun a hA => ?_
    refine sdo (v := .bool false) hA (qj rfl rfl rfl rfl) fun a hA => ?_
    refine sdo hA (qb rfl) fun a hA => ?_
    refine qe (hK2 _ _ (wp_ret (hret _ _ (en1 hA rfl (ql rfl) ?_))))
    subst hc
    exact ⟨by rw [show okG m ap size = false from by unfold okG G.js G.inB; simp; omega], hS.bel⟩
  ·
   have hb4' := of_decide_eq_false hb4
   refine sdo (v := .bool false) hA (qg rfl rfl (fun w => (kx w).trans (by rw [hb4]))) fun a hA => ?_
   refine sdo (v := .bool false) hA (qj rfl rfl rfl rfl) fun a hA => ?_
   refine sdo hA (qa rfl) fun a hA => ?_
   iterate 2 refine zg hA rfl rfl rfl fun a hA => ?_
   refine sdo (v := .bool false) hA (qj rfl rfl rfl rfl) fun a hA => ?_
   refine sdo hA (qa rfl) fun a hA => ?_
   iterate 3 refine zg hA rfl rfl rfl fun a hA => ?_
   refine sdo (v := .bool false) hA (qj rfl rfl rfl rfl) fun a hA => ?_
   refine sdo hA (qa rfl) fun a hA => ?_
   iterate 5 refine zg hA rfl rfl rfl fun a hA => ?_
   refine sdo (v := .bool false) hA (qj rfl rfl rfl rfl) fun a hA => ?_
   refine sdo hA (qb rfl) fun a hA => ?_
   refine qe (hK2 _ _ (wp_ret (hret _ _ (en1 hA rfl (ql rfl) ?_))))
   subst hc
   exact ⟨by rw [show okG m ap size = false from by unfold okG G.js G.inB; simp; omega], hS.bel⟩
 ·
  have hb3' := of_decide_eq_false hb3
  refine sdo (v := .bool false) hA (qg rfl rfl (fun w => (ju w).trans (by rw [hb3]))) fun a hA => ?_
  refine sdo hA (qa rfl) fun a hA => ?_
  iterate 2 refine zg hA rfl rfl rfl fun a hA => ?_
  refine sdo (v := .bool false) hA (qj rfl rfl rfl rfl) fun a hA => ?_
  refine sdo hA (qa rfl) fun a hA => ?_
  iterate 2 refine zg hA rfl rfl rfl fun a hA => ?_
  refine sdo (v := .bool false) hA (qj rfl rfl rfl rfl) fun a hA => ?_
  refine sdo hA (qa rfl) fun a hA => ?_
  iterate 3 refine zg hA rfl rfl rfl fun a hA => ?_
  refine sdo (v := .bool false) hA (qj rfl rfl rfl rfl) fun a hA => ?_
  refine sdo hA (qa rfl) fun a hA => ?_
  iterate 5 refine zg hA rfl rfl rfl fun a hA => ?_
  refine sdo (v := .bool false) hA (qj rfl rfl rfl rfl) fun a hA => ?_
  refine sdo hA (qb rfl) fun a hA => ?_
  refine qe (hK2 _ _ (wp_ret (hret _ _ (en1 hA rfl (ql rfl) ?_))))
  subst hc
  exact ⟨by rw [show okG m ap size = false from by unfold okG G.js G.inB; simp; omega], hS.bel⟩
end Go.Proofs.YtbhdnpbbmpemnaaGreatDoor
namespace Go.Proofs.YtbhdnpbbmpemnaaGreatDoor
open Go.RowKit
set_option linter.unusedVariables false
set_option linter.unusedSimpArgs false
set_option maxRecDepth 100000
theorem GvC_is1_5 : Is1 Tryz.prog 5 := ⟨⟨_, Tryz.underlying5, rfl⟩, by kernel_rfl⟩
theorem GvC_fld_36_0 : FieldAt Tryz.prog 36 0 0 := ⟨_, _, Tryz.underlying36, rfl, rfl, by kernel_rfl⟩
theorem GvC_isS_34 : IsS Tryz.prog 34 3 := ⟨⟨_, Tryz.underlying34⟩, by kernel_rfl⟩
theorem GvC_isS_36 : IsS Tryz.prog 36 6 := ⟨⟨_, Tryz.underlying36⟩, by kernel_rfl⟩
set_option maxHeartbeats 1000000 in
theorem qve {w : World} {so : Option Addr} {ca : Nat} {l : List UInt8} (hb : G.Rb w so l) (hca : l.length ≤ ca) (hl : l.length ≤ 140737488351232) {an nn : Nat} (hn1 : 1 ≤ nn) (hn64 : nn ≤ 64) (hle : an + nn ≤ l.length) (bg : Bool) : Calls Tryz.prog 13 #[.slice so l.length ca, .int .i64 ((an : Nat) : Int), .int .i64 ((nn : Nat) : Int), .bool bg, .bool false] w (AnsN w (G.jt bg false ((l.drop an).take nn), 0)) := by
 have hpl : ((l.drop an).take nn).length = nn := by rw [List.length_take, List.length_drop]; omega
 have hk1 : G.js ((nn : Nat) : Int) = true := by unfold G.js; apply decide_eq_true; omega
 have hk2 : G.inB l.length ((an : Nat) : Int) ((nn : Nat) : Int) = true := by unfold G.inB; apply decide_eq_true; omega
 have hk3 : okG l.length ((an : Nat) : Int) ((nn : Nat) : Int) = true := by unfold okG; rw [hk1, hk2]; rfl
 have hy2 : (words (2 ^ (8 * nn))).length ≤ 512 := by rw [kw]; exact G.jx hn64 (Nat.le_refl _)
 have hS : St w w [] [] [] := St.start w
 refine za (l := [(0, .slice so l.length ca), (1, .int .i64 (((an : Nat) : Int))), (2, .int .i64 (((nn : Nat) : Int))), (3, .bool bg), (4, .bool false)]) Tryz.func13 rfl Tryz.ntmps13 rfl rfl ?_
 intro Q hret hnorm hP a hA
 refine wsk fun K1 hK1 => wrl (ze (vs := [.bool false, .slice none 0 0, .slice none 0 0, .bool false, .slice none 0 0, .slice none 0 0]) (t := 36) hA hS rfl rfl rfl (fun g => .pointer (some ⟨g, 0, none⟩)) (qp (z := .agg #[.bool false, .slice none 0 0, .slice none 0 0, .bool false, .slice none 0 0, .slice none 0 0]) (by kernel_rfl) rfl) rfl ?_)
 intro g2 w3 hS a hA
 refine sdo hA (qb rfl) fun a hA => ?_
 refine qe (hK1 _ _ (wsk fun K4 hK4 => wsk fun K5 hK5 => wrl (sdo hA (qa rfl) fun a hA => ?_)))
 refine sdo hA (zb Tryz.underlying22 rfl) fun a hA => ?_
 iterate 2 refine sdo hA (qa rfl) fun a hA => ?_
 refine qi hA rfl rfl rfl (qf  rfl rfl (fun w => by kernel_rfl)) (qwe hl (by omega) (by omega) (by omega) (by omega) hk3) ?_
 rintro _ w7 ⟨rfl, hb6⟩
 replace hS := hS.call hb6
 refine ⟨_, rfl, ?_⟩
 intro a hA
 refine sdo (v := .bool false) hA (zp rfl zu) fun a hA => ?_
 refine qe (hK5 _ _ (wp_cond_false (hA.ev rfl) ?_))
 refine wp_skip (hK4 _ _ (wsk fun K8 hK8 => wrl (jf (us := []) (t := 51) (m := 0) hA hS rfl rfl rfl (qx rfl (by kernel_rfl)) (by simp [Dig]) ?_)))
 intro g9 w10 hS a hA
 refine sdo hA (qb rfl) fun a hA => ?_
 refine qe (hK8 _ _ (wsk fun K11 hK11 => wsk fun K12 hK12 => wrl (sdo hA (qb rfl) fun a hA => ?_)))
 refine qe (hK12 _ _ (wp_block (jb (fun m a w1 => ∃ (k : Nat) (xl : List Nat) (ro : Option Addr) (rc : Nat), m = 1 + (nn - k) ∧ (k ≤ nn ∧ xl = words (upK bg ((l.drop an).take nn) k) ∧ (ro = none → rc = 0) ∧ xl.length ≤ rc) ∧ Sl a 79 [(0, .slice so l.length ca), (1, .int .i64 (((an : Nat) : Int))), (2, .int .i64 (((nn : Nat) : Int))), (3, .bool bg), (4, .bool false), (10, .pointer (some ⟨g2, 0, none⟩)), (11, .int .i64 0), (12, .slice ro xl.length rc), (13, .int .i64 (((k : Nat) : Int))), (17, .slice so l.length ca), (18, .int .i64 (((l.length : Nat) : Int))), (19, .int .i64 (((an : Nat) : Int))), (20, .int .i64 (((nn : Nat) : Int))), (21, .bool true), (22, .bool false), (24, .slice (some ⟨g9, 0, none⟩) 0 0)] ∧ St w w1 [(g2, [.bool false, .slice none 0 0, .slice none 0 0, .bool false, .slice none 0 0, .slice none 0 0])] [(ro, xl), (some ⟨g9, 0, none⟩, [])] []) _ ⟨0, [], some ⟨g9, 0, none⟩, 0, rfl, ⟨Nat.zero_le _, by rw [qrf, words_zero], (fun h => by cases h), (Nat.le_refl _)⟩, hA.keep _ ⟨rfl, rfl, rfl, rfl, rfl, rfl, rfl, rfl, rfl, rfl, rfl, rfl, rfl, rfl, rfl, rfl, trivial⟩, ((hS.pickR [(some ⟨g9, 0, none⟩, []), (some ⟨g9, 0, none⟩, [])] ⟨⟨0, rfl⟩, ⟨⟨0, rfl⟩, trivial⟩⟩).subL _ (.refl _))⟩ ?_)))
 clear hS hA
 rintro m a w13 ⟨k, xl, ro, rc, rfl, hinv15, hA, hS⟩ K14 hK14
 obtain ⟨hk9, hxl, hnil, hcap⟩ := hinv15
 have hup := qob bg (p := ((l.drop an).take nn)) (k := k) (by omega) (by omega)
 refine wsk fun K16 hK16 => wsk fun K17 hK17 => wrl ?_
 iterate 2 refine sdo hA (qa rfl) fun a hA => ?_
 rcases tf (decide (((k : Nat) : Int) < ((nn : Nat) : Int))) with hb18 | hb18
 ·
  have hb18' := of_decide_eq_true hb18
  refine sdo (v := .bool true) hA (qg rfl rfl (fun w => (zi w).trans (by rw [hb18]))) fun a hA => ?_
  refine qe (hK17 _ _ (wp_cond_true (hA.ev rfl) ?_))
  refine wp_skip (hK16 _ _ (wsk fun K19 hK19 => wp_block (wsk fun K20 hK20 => wrl ?_)))
  iterate 3 refine sdo hA (qa rfl) fun a hA => ?_
  refine sdo (v := .int .i64 (((an + nn : Nat) : Int))) hA (qg rfl rfl (fun w => (jp (ji (by omega) (by omega)) w).trans (by rw [show (((an : Nat) : Int) + ((nn : Nat) : Int) : Int) = ((an + nn : Nat) : Int) from by omega]))) fun a hA => ?_
  refine sdo (v := .int .i64 (((an + nn - 1 : Nat) : Int))) hA (qg rfl rfl (fun w => (jy (ji (by omega) (by omega)) w).trans (by rw [show (((an + nn : Nat) : Int) - 1 : Int) = ((an + nn - 1 : Nat) : Int) from by omega]))) fun a hA => ?_
  refine sdo hA (qa rfl) fun a hA => ?_
  refine sdo (v := .int .i64 ((((an + nn - 1) - k : Nat) : Int))) hA (qg rfl rfl (fun w => (jy (ji (by omega) (by omega)) w).trans (by rw [show (((an + nn - 1 : Nat) : Int) - ((k : Nat) : Int) : Int) = (((an + nn - 1) - k : Nat) : Int) from by omega]))) fun a hA => ?_
  obtain ⟨bx21, ox22, hx23, hx24, hx25⟩ := qhb (i := (an + nn - 1) - k) hb (by omega)
  refine sdo (v := .pointer (some ⟨bx21, ox22 + ((an + nn - 1) - k), none⟩)) hA (zk (k := (an + nn - 1) - k) Tryz.underlying22 (by kernel_rfl) rfl rfl (by first | rfl | omega) hx23 (by omega)) fun a hA => ?_
  refine sdo (v := .int .u8 ((((l.getD ((an + nn - 1) - k) 0).toNat : Nat) : Int))) hA (ub hS hx24 (hx25 ((an + nn - 1) - k) (by omega)) GvC_is1_5 rfl) fun a hA => ?_
  refine sdo hA (qb rfl) fun a hA => ?_
  refine qe (hK20 _ _ (wsk fun K26 hK26 => wsk fun K27 hK27 => wrl (sdo hA (qa rfl) fun a hA => ?_)))
  refine qe (hK27 _ _ ?_)
  refine wp_cond_split (t := bg) (hA.ev rfl) (fun hc28 => ?_) (fun hc28 => ?_)
  ·
   refine wrl ?_
   iterate 3 refine sdo hA (qa rfl) fun a hA => ?_
   refine sdo (v := .int .i64 (((an + k : Nat) : Int))) hA (qg rfl rfl (fun w => (jp (ji (by omega) (by omega)) w).trans (by rw [show (((an : Nat) : Int) + ((k : Nat) : Int) : Int) = ((an + k : Nat) : Int) from by omega]))) fun a hA => ?_
   obtain ⟨bx29, ox30, hx31, hx32, hx33⟩ := qhb (i := an + k) hb (by omega)
   refine sdo (v := .pointer (some ⟨bx29, ox30 + (an + k), none⟩)) hA (zk (k := an + k) Tryz.underlying22 (by kernel_rfl) rfl rfl (by first | rfl | omega) hx31 (by omega)) fun a hA => ?_
   refine sdo (v := .int .u8 ((((l.getD (an + k) 0).toNat : Nat) : Int))) hA (ub hS hx32 (hx33 (an + k) (by omega)) GvC_is1_5 rfl) fun a hA => ?_
   refine sdo hA (qb rfl) fun a hA => ?_
   refine qe (hK26 _ _ (wrl (sdo hA (qa rfl) fun a hA => ?_)))
   refine jf (us := [256]) (t := 51) (m := 1) hA hS rfl rfl rfl (qx rfl (by kernel_rfl)) (by simp [Dig]) ?_
   intro g34 w35 hS a hA
   refine qi hA rfl rfl rfl (qf  rfl rfl (fun w => by kernel_rfl)) (qah (x := upK bg ((l.drop an).take nn) k) _ _ hxl (hS.rd 1 rfl) (hS.rd 0 rfl) hup.2) ?_
   rintro _ w40 ⟨ro36, rc37, rfl, ho38, hb39⟩
   replace hS := hS.call hb39
   replace hS := hS.addR ho38.rd
   refine ⟨_, rfl, ?_⟩
   intro a hA
   refine sdo hA (qa rfl) fun a hA => ?_
   have hX8 := UInt8.toNat_lt (l.getD (an + k) 0)
   refine sdo (v := .int .u64 ((((l.getD (an + k) 0).toNat : Nat) : Int))) hA (zy rfl (ar_conv Tryz.underlying5 Tryz.underlying53 (in_u64 (by omega) (by omega)))) fun a hA => ?_
   refine qi hA rfl rfl rfl (qf  rfl rfl (fun w => by kernel_rfl)) (rof_any ((l.getD (an + k) 0).toNat) _ (by omega)) ?_
   rintro _ w45 ⟨ro41, rc42, rfl, ho43, hb44⟩
   replace hS := hS.call hb44
   replace hS := hS.addR ho43.rd
   refine ⟨_, rfl, ?_⟩
   intro a hA
   refine qi hA rfl rfl rfl (qf  rfl rfl (fun w => by kernel_rfl)) (plus_any _ _ (hS.rd 1 rfl) (hS.rd 0 rfl) (Nat.le_trans (words_mul_length (k := 512) (m := 1) hup.2 (by rw [vj]; decide)) (by decide)) (ud (by omega))) ?_
   rintro _ w50 ⟨ro46, rc47, rfl, ho48, hb49⟩
   replace hS := hS.call hb49
   replace hS := hS.addR ho48.rd
   refine ⟨_, rfl, ?_⟩
   intro a hA
   refine sdo hA (qb rfl) fun a hA => ?_
   refine qe (hK19 _ _ (wrl (sdo hA (qa rfl) fun a hA => ?_)))
   refine sdo (v := .int .i64 (((k + 1 : Nat) : Int))) hA (qg rfl rfl (fun w => (jp (ji (by omega) (by omega)) w).trans (by rw [show (((k : Nat) : Int) + 1 : Int) = ((k + 1 : Nat) : Int) from by omega]))) fun a hA => ?_
   refine sdo hA (qb rfl) fun a hA => ?_
   refine qe ?_
   have hst := qda (bg := bg) (p := ((l.drop an).take nn)) (k := k) (by omega)
   rw [show (bqB bg ((l.drop an).take nn)).getD k 0 = l.getD (an + k) 0 from by rw [hc28]; exact zdj (by omega)] at hst
   refine hK14 _ _ _ (by omega) ⟨k + 1, words (upK bg ((l.drop an).take nn) k * 256 + (l.getD (an + k) 0).toNat), ro46, rc47, rfl, ⟨by omega, by rw [hst], ho48.nocap, ho48.caps⟩, hA.keep _ ⟨rfl, rfl, rfl, rfl, rfl, rfl, rfl, rfl, rfl, rfl, rfl, rfl, rfl, rfl, rfl, rfl, trivial⟩, ((hS.pickR [(ro46, words (upK bg ((l.drop an).take nn) k * 256 + (l.getD (an + k) 0).toNat)), (some ⟨g9, 0, none⟩, [])] ⟨⟨0, rfl⟩, ⟨⟨5, rfl⟩, trivial⟩⟩).subL _ (.refl _))⟩
  ·
   refine wp_skip (hK26 _ _ (wrl (sdo hA (qa rfl) fun a hA => ?_)))
   refine jf (us := [256]) (t := 51) (m := 1) hA hS rfl rfl rfl (qx rfl (by kernel_rfl)) (by simp [Dig]) ?_
   intro g51 w52 hS a hA
   refine qi hA rfl rfl rfl (qf  rfl rfl (fun w => by kernel_rfl)) (qah (x := upK bg ((l.drop an).take nn) k) _ _ hxl (hS.rd 1 rfl) (hS.rd 0 rfl) hup.2) ?_
   rintro _ w57 ⟨ro53, rc54, rfl, ho55, hb56⟩
   replace hS := hS.call hb56
   replace hS := hS.addR ho55.rd
   refine ⟨_, rfl, ?_⟩
   intro a hA
   refine sdo hA (qa rfl) fun a hA => ?_
   have hX8 := UInt8.toNat_lt (l.getD ((an + nn - 1) - k) 0)
   refine sdo (v := .int .u64 ((((l.getD ((an + nn - 1) - k) 0).toNat : Nat) : Int))) hA (zy rfl (ar_conv Tryz.underlying5 Tryz.underlying53 (in_u64 (by omega) (by omega)))) fun a hA => ?_
   refine qi hA rfl rfl rfl (qf  rfl rfl (fun w => by kernel_rfl)) (rof_any ((l.getD ((an + nn - 1) - k) 0).toNat) _ (by omega)) ?_
   rintro _ w62 ⟨ro58, rc59, rfl, ho60, hb61⟩
   replace hS := hS.call hb61
   replace hS := hS.addR ho60.rd
   refine ⟨_, rfl, ?_⟩
   intro a hA
   refine qi hA rfl rfl rfl (qf  rfl rfl (fun w => by kernel_rfl)) (plus_any _ _ (hS.rd 1 rfl) (hS.rd 0 rfl) (Nat.le_trans (words_mul_length (k := 512) (m := 1) hup.2 (by rw [vj]; decide)) (by decide)) (ud (by omega))) ?_
   rintro _ w67 ⟨ro63, rc64, rfl, ho65, hb66⟩
   replace hS := hS.call hb66
   replace hS := hS.addR ho65.rd
   refine ⟨_, rfl, ?_⟩
   intro a hA
   refine sdo hA (qb rfl) fun a hA => ?_
   refine qe (hK19 _ _ (wrl (sdo hA (qa rfl) fun a hA => ?_)))
   refine sdo (v := .int .i64 (((k + 1 : Nat) : Int))) hA (qg rfl rfl (fun w => (jp (ji (by omega) (by omega)) w).trans (by rw [show (((k : Nat) : Int) + 1 : Int) = ((k + 1 : Nat) : Int) from by omega]))) fun a hA => ?_
   refine sdo hA (qb rfl) fun a hA => ?_
   refine qe ?_
   have hst := qda (bg := bg) (p := ((l.drop an).take nn)) (k := k) (by omega)
   rw [show (bqB bg ((l.drop an).take nn)).getD k 0 = l.getD (an + nn - 1 - k) 0 from by rw [hc28]; exact qmd (by omega) hle] at hst
   refine hK14 _ _ _ (by omega) ⟨k + 1, words (upK bg ((l.drop an).take nn) k * 256 + (l.getD ((an + nn - 1) - k) 0).toNat), ro63, rc64, rfl, ⟨by omega, by rw [hst], ho65.nocap, ho65.caps⟩, hA.keep _ ⟨rfl, rfl, rfl, rfl, rfl, rfl, rfl, rfl, rfl, rfl, rfl, rfl, rfl, rfl, rfl, rfl, trivial⟩, ((hS.pickR [(ro63, words (upK bg ((l.drop an).take nn) k * 256 + (l.getD ((an + nn - 1) - k) 0).toNat)), (some ⟨g9, 0, none⟩, [])] ⟨⟨0, rfl⟩, ⟨⟨5, rfl⟩, trivial⟩⟩).subL _ (.refl _))⟩
 ·
  have hb18' := of_decide_eq_false hb18
  refine sdo (v := .bool false) hA (qg rfl rfl (fun w => (zi w).trans (by rw [hb18]))) fun a hA => ?_
  refine qe (hK17 _ _ (wp_cond_false (hA.ev rfl) ?_))
  refine wp_exit (hK11 _ _ (wsk fun K68 hK68 => wrl (sdo hA (qa rfl) fun a hA => ?_)))
  refine jf (us := [1]) (t := 51) (m := 1) hA hS rfl rfl rfl (qx rfl (by kernel_rfl)) (by simp [Dig]) ?_
  intro g69 w70 hS a hA
  have hkn : k = nn := by omega
  have hxz : xl = words (G.leN (G.zw bg ((l.drop an).take nn))) := by rw [hxl, hkn]; have h9 := qhc bg ((l.drop an).take nn); rw [hpl] at h9; rw [h9]
  have hz := qob bg (p := ((l.drop an).take nn)) (k := nn) (by omega) (by omega)
  rw [show upK bg ((l.drop an).take nn) nn = (G.leN (G.zw bg ((l.drop an).take nn))) from by have h9 := qhc bg ((l.drop an).take nn); rw [hpl] at h9; exact h9] at hz
  refine sdo (v := .agg #[.bool false, .slice ro xl.length rc, .slice (some ⟨g69, 0, none⟩) 1 1]) hA (zj rfl (fun w => by kernel_rfl)) fun a hA => ?_
  refine qi hA rfl rfl rfl (qf  rfl rfl (fun w => by kernel_rfl)) (jw _) ?_
  rintro _ w75 ⟨f71_1, f71_c1, f71_2, f71_c2, rfl, hs72, hs73, hb74⟩
  replace hS := hS.call hb74
  replace hS := hS.addR hs72.rd
  replace hS := hS.addR hs73.rd
  refine ⟨_, rfl, ?_⟩
  intro a hA
  refine sdo (v := .agg #[.bool false, .slice ro xl.length rc, .slice (some ⟨g69, 0, none⟩) 1 1, .bool false, .slice f71_1 0 f71_c1, .slice f71_2 1 f71_c2]) hA (zj rfl (fun w => by kernel_rfl)) fun a hA => ?_
  refine ze (vs := [.bool false, .slice none 0 0, .slice none 0 0, .bool false, .slice none 0 0, .slice none 0 0]) (t := 36) hA hS rfl rfl rfl (fun g => .pointer (some ⟨g, 0, none⟩)) (qp (z := .agg #[.bool false, .slice none 0 0, .slice none 0 0, .bool false, .slice none 0 0, .slice none 0 0]) (by kernel_rfl) rfl) rfl ?_
  intro g76 w77 hS a hA
  refine zq (us := [.bool false, .slice ro xl.length rc, .slice (some ⟨g69, 0, none⟩) 1 1, .bool false, .slice f71_1 0 f71_c1, .slice f71_2 1 f71_c2]) hA hS rfl rfl (qr rfl rfl rfl (by kernel_rfl) hS 0 rfl rfl rfl) 0 rfl rfl rfl rfl ?_
  intro w78 hS
  refine qe (hK68 _ _ (wsk fun K79 hK79 => wsk fun K80 hK80 => wrl ?_))
  iterate 2 refine sdo hA (qa rfl) fun a hA => ?_
  iterate 5 refine zg hA rfl rfl rfl fun a hA => ?_
  refine sdo (v := .bool false) hA (qj rfl rfl rfl rfl) fun a hA => ?_
  refine qe (hK80 _ _ (wp_cond_false (hA.ev rfl) ?_))
  refine wp_skip (hK79 _ _ (wsk fun K81 hK81 => wrl (sdo hA (qw hS GvC_isS_36 rfl 0 rfl (cs := [.bool false, .slice ro xl.length rc, .slice (some ⟨g69, 0, none⟩) 1 1, .bool false, .slice f71_1 0 f71_c1, .slice f71_2 1 f71_c2]) rfl rfl) fun a hA => ?_)))
  refine zq (us := [.bool false, .slice ro xl.length rc, .slice (some ⟨g69, 0, none⟩) 1 1, .bool false, .slice f71_1 0 f71_c1, .slice f71_2 1 f71_c2]) hA hS rfl rfl (qr rfl rfl rfl (by kernel_rfl) hS 1 rfl rfl rfl) 1 rfl rfl rfl rfl ?_
  intro w82 hS
  refine sdo hA (qb rfl) fun a hA => ?_
  refine qe (hK81 _ _ (wp_ret (hret _ _ (en2 hA rfl (jh hS GvC_isS_36 rfl 1 rfl (cs := [.bool false, .slice ro xl.length rc, .slice (some ⟨g69, 0, none⟩) 1 1, .bool false, .slice f71_1 0 f71_c1, .slice f71_2 1 f71_c2]) rfl rfl) (ql rfl) ?_))))
  have e9 : G.jt bg false ((l.drop an).take nn) = Q6.whole false (G.leN (G.zw bg ((l.drop an).take nn))) := by unfold G.jt; rw [hpl, if_neg (fun k => by cases k.1)]
  subst hxz
  rw [e9]
  exact ⟨ro, rc, some ⟨g69, 0, none⟩, 1, f71_1, f71_c1, f71_2, f71_c2, rfl, ⟨⟨(hS.rd 3 rfl), hnil, hcap⟩, ⟨(hS.rd 2 rfl), (fun h => by cases h), (Nat.le_refl _)⟩, ⟨(hS.rd 1 rfl), hs72.nil, hs72.cap⟩, ⟨(hS.rd 0 rfl), hs73.nil, hs73.cap⟩⟩, hS.bel⟩
set_option maxHeartbeats 1000000 in
theorem qzg {w : World} {so : Option Addr} {ca : Nat} {l : List UInt8} (hb : G.Rb w so l) (hca : l.length ≤ ca) (hl : l.length ≤ 140737488351232) {an nn : Nat} (hn1 : 1 ≤ nn) (hn64 : nn ≤ 64) (hle : an + nn ≤ l.length) (bg : Bool) : Calls Tryz.prog 13 #[.slice so l.length ca, .int .i64 ((an : Nat) : Int), .int .i64 ((nn : Nat) : Int), .bool bg, .bool true] w (AnsN w (G.jt bg true ((l.drop an).take nn), 0)) := by
 have hpl : ((l.drop an).take nn).length = nn := by rw [List.length_take, List.length_drop]; omega
 have hk1 : G.js ((nn : Nat) : Int) = true := by unfold G.js; apply decide_eq_true; omega
 have hk2 : G.inB l.length ((an : Nat) : Int) ((nn : Nat) : Int) = true := by unfold G.inB; apply decide_eq_true; omega
 have hk3 : okG l.length ((an : Nat) : Int) ((nn : Nat) : Int) = true := by unfold okG; rw [hk1, hk2]; rfl
 have hy2 : (words (2 ^ (8 * nn))).length ≤ 512 := by rw [kw]; exact G.jx hn64 (Nat.le_refl _)
 have hS : St w w [] [] [] := St.start w
 refine za (l := [(0, .slice so l.length ca), (1, .int .i64 (((an : Nat) : Int))), (2, .int .i64 (((nn : Nat) : Int))), (3, .bool bg), (4, .bool true)]) Tryz.func13 rfl Tryz.ntmps13 rfl rfl ?_
 intro Q hret hnorm hP a hA
 refine wsk fun K1 hK1 => wrl (ze (vs := [.bool false, .slice none 0 0, .slice none 0 0, .bool false, .slice none 0 0, .slice none 0 0]) (t := 36) hA hS rfl rfl rfl (fun g => .pointer (some ⟨g, 0, none⟩)) (qp (z := .agg #[.bool false, .slice none 0 0, .slice none 0 0, .bool false, .slice none 0 0, .slice none 0 0]) (by kernel_rfl) rfl) rfl ?_)
 intro g2 w3 hS a hA
 refine sdo hA (qb rfl) fun a hA => ?_
 refine qe (hK1 _ _ (wsk fun K4 hK4 => wsk fun K5 hK5 => wrl (sdo hA (qa rfl) fun a hA => ?_)))
 refine sdo hA (zb Tryz.underlying22 rfl) fun a hA => ?_
 iterate 2 refine sdo hA (qa rfl) fun a hA => ?_
 refine qi hA rfl rfl rfl (qf  rfl rfl (fun w => by kernel_rfl)) (qwe hl (by omega) (by omega) (by omega) (by omega) hk3) ?_
 rintro _ w7 ⟨rfl, hb6⟩
 replace hS := hS.call hb6
 refine ⟨_, rfl, ?_⟩
 intro a hA
 refine sdo (v := .bool false) hA (zp rfl zu) fun a hA => ?_
 refine qe (hK5 _ _ (wp_cond_false (hA.ev rfl) ?_))
 refine wp_skip (hK4 _ _ (wsk fun K8 hK8 => wrl (jf (us := []) (t := 51) (m := 0) hA hS rfl rfl rfl (qx rfl (by kernel_rfl)) (by simp [Dig]) ?_)))
 intro g9 w10 hS a hA
 refine sdo hA (qb rfl) fun a hA => ?_
 refine qe (hK8 _ _ (wsk fun K11 hK11 => wsk fun K12 hK12 => wrl (sdo hA (qb rfl) fun a hA => ?_)))
 refine qe (hK12 _ _ (wp_block (jb (fun m a w1 => ∃ (k : Nat) (xl : List Nat) (ro : Option Addr) (rc : Nat), m = 1 + (nn - k) ∧ (k ≤ nn ∧ xl = words (upK bg ((l.drop an).take nn) k) ∧ (ro = none → rc = 0) ∧ xl.length ≤ rc) ∧ Sl a 79 [(0, .slice so l.length ca), (1, .int .i64 (((an : Nat) : Int))), (2, .int .i64 (((nn : Nat) : Int))), (3, .bool bg), (4, .bool true), (10, .pointer (some ⟨g2, 0, none⟩)), (11, .int .i64 0), (12, .slice ro xl.length rc), (13, .int .i64 (((k : Nat) : Int))), (17, .slice so l.length ca), (18, .int .i64 (((l.length : Nat) : Int))), (19, .int .i64 (((an : Nat) : Int))), (20, .int .i64 (((nn : Nat) : Int))), (21, .bool true), (22, .bool false), (24, .slice (some ⟨g9, 0, none⟩) 0 0)] ∧ St w w1 [(g2, [.bool false, .slice none 0 0, .slice none 0 0, .bool false, .slice none 0 0, .slice none 0 0])] [(ro, xl), (some ⟨g9, 0, none⟩, [])] []) _ ⟨0, [], some ⟨g9, 0, none⟩, 0, rfl, ⟨Nat.zero_le _, by rw [qrf, words_zero], (fun h => by cases h), (Nat.le_refl _)⟩, hA.keep _ ⟨rfl, rfl, rfl, rfl, rfl, rfl, rfl, rfl, rfl, rfl, rfl, rfl, rfl, rfl, rfl, rfl, trivial⟩, ((hS.pickR [(some ⟨g9, 0, none⟩, []), (some ⟨g9, 0, none⟩, [])] ⟨⟨0, rfl⟩, ⟨⟨0, rfl⟩, trivial⟩⟩).subL _ (.refl _))⟩ ?_)))
 clear hS hA
 rintro m a w13 ⟨k, xl, ro, rc, rfl, hinv15, hA, hS⟩ K14 hK14
 obtain ⟨hk9, hxl, hnil, hcap⟩ := hinv15
 have hup := qob bg (p := ((l.drop an).take nn)) (k := k) (by omega) (by omega)
 refine wsk fun K16 hK16 => wsk fun K17 hK17 => wrl ?_
 iterate 2 refine sdo hA (qa rfl) fun a hA => ?_
 rcases tf (decide (((k : Nat) : Int) < ((nn : Nat) : Int))) with hb18 | hb18
 ·
  have hb18' := of_decide_eq_true hb18
  refine sdo (v := .bool true) hA (qg rfl rfl (fun w => (zi w).trans (by rw [hb18]))) fun a hA => ?_
  refine qe (hK17 _ _ (wp_cond_true (hA.ev rfl) ?_))
  refine wp_skip (hK16 _ _ (wsk fun K19 hK19 => wp_block (wsk fun K20 hK20 => wrl ?_)))
  iterate 3 refine sdo hA (qa rfl) fun a hA => ?_
  refine sdo (v := .int .i64 (((an + nn : Nat) : Int))) hA (qg rfl rfl (fun w => (jp (ji (by omega) (by omega)) w).trans (by rw [show (((an : Nat) : Int) + ((nn : Nat) : Int) : Int) = ((an + nn : Nat) : Int) from by omega]))) fun a hA => ?_
  refine sdo (v := .int .i64 (((an + nn - 1 : Nat) : Int))) hA (qg rfl rfl (fun w => (jy (ji (by omega) (by omega)) w).trans (by rw [show (((an + nn : Nat) : Int) - 1 : Int) = ((an + nn - 1 : Nat) : Int) from by omega]))) fun a hA => ?_
  refine sdo hA (qa rfl) fun a hA => ?_
  refine sdo (v := .int .i64 ((((an + nn - 1) - k : Nat) : Int))) hA (qg rfl rfl (fun w => (jy (ji (by omega) (by omega)) w).trans (by rw [show (((an + nn - 1 : Nat) : Int) - ((k : Nat) : Int) : Int) = (((an + nn - 1) - k : Nat) : Int) from by omega]))) fun a hA => ?_
  obtain ⟨bx21, ox22, hx23, hx24, hx25⟩ := qhb (i := (an + nn - 1) - k) hb (by omega)
  refine sdo (v := .pointer (some ⟨bx21, ox22 + ((an + nn - 1) - k), none⟩)) hA (zk (k := (an + nn - 1) - k) Tryz.underlying22 (by kernel_rfl) rfl rfl (by first | rfl | omega) hx23 (by omega)) fun a hA => ?_
  refine sdo (v := .int .u8 ((((l.getD ((an + nn - 1) - k) 0).toNat : Nat) : Int))) hA (ub hS hx24 (hx25 ((an + nn - 1) - k) (by omega)) GvC_is1_5 rfl) fun a hA => ?_
  refine sdo hA (qb rfl) fun a hA => ?_
  refine qe (hK20 _ _ (wsk fun K26 hK26 => wsk fun K27 hK27 => wrl (sdo hA (qa rfl) fun a hA => ?_)))
  refine qe (hK27 _ _ ?_)
  refine wp_cond_split (t := bg) (hA.ev rfl) (fun hc28 => ?_) (fun hc28 => ?_)
  ·
   refine wrl ?_
   iterate 3 refine sdo hA (qa rfl) fun a hA => ?_
   refine sdo (v := .int .i64 (((an + k : Nat) : Int))) hA (qg rfl rfl (fun w => (jp (ji (by omega) (by omega)) w).trans (by rw [show (((an : Nat) : Int) + ((k : Nat) : Int) : Int) = ((an + k : Nat) : Int) from by omega]))) fun a hA => ?_
   obtain ⟨bx29, ox30, hx31, hx32, hx33⟩ := qhb (i := an + k) hb (by omega)
   refine sdo (v := .pointer (some ⟨bx29, ox30 + (an + k), none⟩)) hA (zk (k := an + k) Tryz.underlying22 (by kernel_rfl) rfl rfl (by first | rfl | omega) hx31 (by omega)) fun a hA => ?_
   refine sdo (v := .int .u8 ((((l.getD (an + k) 0).toNat : Nat) : Int))) hA (ub hS hx32 (hx33 (an + k) (by omega)) GvC_is1_5 rfl) fun a hA => ?_
   refine sdo hA (qb rfl) fun a hA => ?_
   refine qe (hK26 _ _ (wrl (sdo hA (qa rfl) fun a hA => ?_)))
   refine jf (us := [256]) (t := 51) (m := 1) hA hS rfl rfl rfl (qx rfl (by kernel_rfl)) (by simp [Dig]) ?_
   intro g34 w35 hS a hA
   refine qi hA rfl rfl rfl (qf  rfl rfl (fun w => by kernel_rfl)) (qah (x := upK bg ((l.drop an).take nn) k) _ _ hxl (hS.rd 1 rfl) (hS.rd 0 rfl) hup.2) ?_
   rintro _ w40 ⟨ro36, rc37, rfl, ho38, hb39⟩
   replace hS := hS.call hb39
   replace hS := hS.addR ho38.rd
   refine ⟨_, rfl, ?_⟩
   intro a hA
   refine sdo hA (qa rfl) fun a hA => ?_
   have hX8 := UInt8.toNat_lt (l.getD (an + k) 0)
   refine sdo (v := .int .u64 ((((l.getD (an + k) 0).toNat : Nat) : Int))) hA (zy rfl (ar_conv Tryz.underlying5 Tryz.underlying53 (in_u64 (by omega) (by omega)))) fun a hA => ?_
   refine qi hA rfl rfl rfl (qf  rfl rfl (fun w => by kernel_rfl)) (rof_any ((l.getD (an + k) 0).toNat) _ (by omega)) ?_
   rintro _ w45 ⟨ro41, rc42, rfl, ho43, hb44⟩
   replace hS := hS.call hb44
   replace hS := hS.addR ho43.rd
   refine ⟨_, rfl, ?_⟩
   intro a hA
   refine qi hA rfl rfl rfl (qf  rfl rfl (fun w => by kernel_rfl)) (plus_any _ _ (hS.rd 1 rfl) (hS.rd 0 rfl) (Nat.le_trans (words_mul_length (k := 512) (m := 1) hup.2 (by rw [vj]; decide)) (by decide)) (ud (by omega))) ?_
   rintro _ w50 ⟨ro46, rc47, rfl, ho48, hb49⟩
   replace hS := hS.call hb49
   replace hS := hS.addR ho48.rd
   refine ⟨_, rfl, ?_⟩
   intro a hA
   refine sdo hA (qb rfl) fun a hA => ?_
   refine qe (hK19 _ _ (wrl (sdo hA (qa rfl) fun a hA => ?_)))
   refine sdo (v := .int .i64 (((k + 1 : Nat) : Int))) hA (qg rfl rfl (fun w => (jp (ji (by omega) (by omega)) w).trans (by rw [show (((k : Nat) : Int) + 1 : Int) = ((k + 1 : Nat) : Int) from by omega]))) fun a hA => ?_
   refine sdo hA (qb rfl) fun a hA => ?_
   refine qe ?_
   have hst := qda (bg := bg) (p := ((l.drop an).take nn)) (k := k) (by omega)
   rw [show (bqB bg ((l.drop an).take nn)).getD k 0 = l.getD (an + k) 0 from by rw [hc28]; exact zdj (by omega)] at hst
   refine hK14 _ _ _ (by omega) ⟨k + 1, words (upK bg ((l.drop an).take nn) k * 256 + (l.getD (an + k) 0).toNat), ro46, rc47, rfl, ⟨by omega, by rw [hst], ho48.nocap, ho48.caps⟩, hA.keep _ ⟨rfl, rfl, rfl, rfl, rfl, rfl, rfl, rfl, rfl, rfl, rfl, rfl, rfl, rfl, rfl, rfl, trivial⟩, ((hS.pickR [(ro46, words (upK bg ((l.drop an).take nn) k * 256 + (l.getD (an + k) 0).toNat)), (some ⟨g9, 0, none⟩, [])] ⟨⟨0, rfl⟩, ⟨⟨5, rfl⟩, trivial⟩⟩).subL _ (.refl _))⟩
  ·
   refine wp_skip (hK26 _ _ (wrl (sdo hA (qa rfl) fun a hA => ?_)))
   refine jf (us := [256]) (t := 51) (m := 1) hA hS rfl rfl rfl (qx rfl (by kernel_rfl)) (by simp [Dig]) ?_
   intro g51 w52 hS a hA
   refine qi hA rfl rfl rfl (qf  rfl rfl (fun w => by kernel_rfl)) (qah (x := upK bg ((l.drop an).take nn) k) _ _ hxl (hS.rd 1 rfl) (hS.rd 0 rfl) hup.2) ?_
   rintro _ w57 ⟨ro53, rc54, rfl, ho55, hb56⟩
   replace hS := hS.call hb56
   replace hS := hS.addR ho55.rd
   refine ⟨_, rfl, ?_⟩
   intro a hA
   refine sdo hA (qa rfl) fun a hA => ?_
   have hX8 := UInt8.toNat_lt (l.getD ((an + nn - 1) - k) 0)
   refine sdo (v := .int .u64 ((((l.getD ((an + nn - 1) - k) 0).toNat : Nat) : Int))) hA (zy rfl (ar_conv Tryz.underlying5 Tryz.underlying53 (in_u64 (by omega) (by omega)))) fun a hA => ?_
   refine qi hA rfl rfl rfl (qf  rfl rfl (fun w => by kernel_rfl)) (rof_any ((l.getD ((an + nn - 1) - k) 0).toNat) _ (by omega)) ?_
   rintro _ w62 ⟨ro58, rc59, rfl, ho60, hb61⟩
   replace hS := hS.call hb61
   replace hS := hS.addR ho60.rd
   refine ⟨_, rfl, ?_⟩
   intro a hA
   refine qi hA rfl rfl rfl (qf  rfl rfl (fun w => by kernel_rfl)) (plus_any _ _ (hS.rd 1 rfl) (hS.rd 0 rfl) (Nat.le_trans (words_mul_length (k := 512) (m := 1) hup.2 (by rw [vj]; decide)) (by decide)) (ud (by omega))) ?_
   rintro _ w67 ⟨ro63, rc64, rfl, ho65, hb66⟩
   replace hS := hS.call hb66
   replace hS := hS.addR ho65.rd
   refine ⟨_, rfl, ?_⟩
   intro a hA
   refine sdo hA (qb rfl) fun a hA => ?_
   refine qe (hK19 _ _ (wrl (sdo hA (qa rfl) fun a hA => ?_)))
   refine sdo (v := .int .i64 (((k + 1 : Nat) : Int))) hA (qg rfl rfl (fun w => (jp (ji (by omega) (by omega)) w).trans (by rw [show (((k : Nat) : Int) + 1 : Int) = ((k + 1 : Nat) : Int) from by omega]))) fun a hA => ?_
   refine sdo hA (qb rfl) fun a hA => ?_
   refine qe ?_
   have hst := qda (bg := bg) (p := ((l.drop an).take nn)) (k := k) (by omega)
   rw [show (bqB bg ((l.drop an).take nn)).getD k 0 = l.getD (an + nn - 1 - k) 0 from by rw [hc28]; exact qmd (by omega) hle] at hst
   refine hK14 _ _ _ (by omega) ⟨k + 1, words (upK bg ((l.drop an).take nn) k * 256 + (l.getD ((an + nn - 1) - k) 0).toNat), ro63, rc64, rfl, ⟨by omega, by rw [hst], ho65.nocap, ho65.caps⟩, hA.keep _ ⟨rfl, rfl, rfl, rfl, rfl, rfl, rfl, rfl, rfl, rfl, rfl, rfl, rfl, rfl, rfl, rfl, trivial⟩, ((hS.pickR [(ro63, words (upK bg ((l.drop an).take nn) k * 256 + (l.getD ((an + nn - 1) - k) 0).toNat)), (some ⟨g9, 0, none⟩, [])] ⟨⟨0, rfl⟩, ⟨⟨5, rfl⟩, trivial⟩⟩).subL _ (.refl _))⟩
 ·
  have hb18' := of_decide_eq_false hb18
  refine sdo (v := .bool false) hA (qg rfl rfl (fun w => (zi w).trans (by rw [hb18]))) fun a hA => ?_
  refine qe (hK17 _ _ (wp_cond_false (hA.ev rfl) ?_))
  refine wp_exit (hK11 _ _ (wsk fun K68 hK68 => wrl (sdo hA (qa rfl) fun a hA => ?_)))
  refine jf (us := [1]) (t := 51) (m := 1) hA hS rfl rfl rfl (qx rfl (by kernel_rfl)) (by simp [Dig]) ?_
  intro g69 w70 hS a hA
  have hkn : k = nn := by omega
  have hxz : xl = words (G.leN (G.zw bg ((l.drop an).take nn))) := by rw [hxl, hkn]; have h9 := qhc bg ((l.drop an).take nn); rw [hpl] at h9; rw [h9]
  have hz := qob bg (p := ((l.drop an).take nn)) (k := nn) (by omega) (by omega)
  rw [show upK bg ((l.drop an).take nn) nn = (G.leN (G.zw bg ((l.drop an).take nn))) from by have h9 := qhc bg ((l.drop an).take nn); rw [hpl] at h9; exact h9] at hz
  refine sdo (v := .agg #[.bool false, .slice ro xl.length rc, .slice (some ⟨g69, 0, none⟩) 1 1]) hA (zj rfl (fun w => by kernel_rfl)) fun a hA => ?_
  refine qi hA rfl rfl rfl (qf  rfl rfl (fun w => by kernel_rfl)) (jw _) ?_
  rintro _ w75 ⟨f71_1, f71_c1, f71_2, f71_c2, rfl, hs72, hs73, hb74⟩
  replace hS := hS.call hb74
  replace hS := hS.addR hs72.rd
  replace hS := hS.addR hs73.rd
  refine ⟨_, rfl, ?_⟩
  intro a hA
  refine sdo (v := .agg #[.bool false, .slice ro xl.length rc, .slice (some ⟨g69, 0, none⟩) 1 1, .bool false, .slice f71_1 0 f71_c1, .slice f71_2 1 f71_c2]) hA (zj rfl (fun w => by kernel_rfl)) fun a hA => ?_
  refine ze (vs := [.bool false, .slice none 0 0, .slice none 0 0, .bool false, .slice none 0 0, .slice none 0 0]) (t := 36) hA hS rfl rfl rfl (fun g => .pointer (some ⟨g, 0, none⟩)) (qp (z := .agg #[.bool false, .slice none 0 0, .slice none 0 0, .bool false, .slice none 0 0, .slice none 0 0]) (by kernel_rfl) rfl) rfl ?_
  intro g76 w77 hS a hA
  refine zq (us := [.bool false, .slice ro xl.length rc, .slice (some ⟨g69, 0, none⟩) 1 1, .bool false, .slice f71_1 0 f71_c1, .slice f71_2 1 f71_c2]) hA hS rfl rfl (qr rfl rfl rfl (by kernel_rfl) hS 0 rfl rfl rfl) 0 rfl rfl rfl rfl ?_
  intro w78 hS
  refine qe (hK68 _ _ (wsk fun K79 hK79 => wsk fun K80 hK80 => wrl ?_))
  iterate 3 refine sdo hA (qa rfl) fun a hA => ?_
  refine qi hA rfl rfl rfl (qf  rfl rfl (fun w => by kernel_rfl)) (zmi (x := (G.leN (G.zw bg ((l.drop an).take nn)))) _ hxz (hS.rd 3 rfl) hz.2) ?_
  rintro _ w82 ⟨rfl, hb81⟩
  replace hb81 := vd hb81
  replace hS := hS.call hb81
  refine ⟨_, rfl, ?_⟩
  intro a hA
  refine sdo hA (qa rfl) fun a hA => ?_
  refine sdo (v := .int .i64 (((8 * nn : Nat) : Int))) hA (qg rfl rfl (ar_mul ((in_i64 (by omega) (by omega)).trans (by omega)))) fun a hA => ?_
  rcases tf ((((bl (G.leN (G.zw bg ((l.drop an).take nn))) : Nat) : Int) == ((8 * nn : Nat) : Int))) with hb83 | hb83
  ·
   have hb83' := eq_of_beq hb83
   refine sdo (v := .bool true) hA (qg rfl rfl (fun w => (xt w).trans (by rw [hb83]))) fun a hA => ?_
   refine sdo (v := .bool true) hA (qj rfl rfl rfl rfl) fun a hA => ?_
   refine qe (hK80 _ _ (wp_cond_true (hA.ev rfl) ?_))
   refine wsk fun K84 hK84 => wrl (jf (us := [1]) (t := 51) (m := 1) hA hS rfl rfl rfl (qx rfl (by kernel_rfl)) (by simp [Dig]) ?_)
   intro g85 w86 hS a hA
   refine sdo hA (qa rfl) fun a hA => ?_
   refine sdo (v := .int .i64 (((8 * nn : Nat) : Int))) hA (qg rfl rfl (ar_mul ((in_i64 (by omega) (by omega)).trans (by omega)))) fun a hA => ?_
   refine qi hA rfl rfl rfl (qf  rfl rfl (fun w => by kernel_rfl)) (qvd _ (hS.rd 0 rfl) (n := 8 * nn) (by omega)) ?_
   rintro _ w91 ⟨ro87, rc88, rfl, ho89, hb90⟩
   replace hS := hS.call hb90
   replace hS := hS.addR ho89.rd
   refine ⟨_, rfl, ?_⟩
   intro a hA
   refine jf (us := [1]) (t := 51) (m := 1) hA hS rfl rfl rfl (qx rfl (by kernel_rfl)) (by simp [Dig]) ?_
   intro g92 w93 hS a hA
   refine sdo (v := .agg #[.bool false, .slice ro87 ((words (2 ^ (8 * nn))).length) rc88, .slice (some ⟨g92, 0, none⟩) 1 1]) hA (zj rfl (fun w => by kernel_rfl)) fun a hA => ?_
   refine ze (vs := [.bool false, .slice none 0 0, .slice none 0 0]) (t := 34) hA hS rfl rfl rfl (fun g => .pointer (some ⟨g, 0, none⟩)) (qp (z := .agg #[.bool false, .slice none 0 0, .slice none 0 0]) (by kernel_rfl) rfl) rfl ?_
   intro g94 w95 hS a hA
   refine zq (us := [.bool false, .slice ro87 ((words (2 ^ (8 * nn))).length) rc88, .slice (some ⟨g92, 0, none⟩) 1 1]) hA hS rfl rfl (qr rfl rfl rfl (by kernel_rfl) hS 0 rfl rfl rfl) 0 rfl rfl rfl rfl ?_
   intro w96 hS
   refine qe (hK84 _ _ ?_)
   have hJ113 : ∀ a w1, (∃ (J105 : Option Addr) (J106 : Nat) (J107 : Option Addr) (J108 : Nat), Sl a 79 [(0, .slice so l.length ca), (1, .int .i64 (((an : Nat) : Int))), (2, .int .i64 (((nn : Nat) : Int))), (3, .bool bg), (4, .bool true), (10, .pointer (some ⟨g2, 0, none⟩)), (11, .int .i64 0), (12, .slice ro xl.length rc), (13, .int .i64 (((k : Nat) : Int))), (15, .pointer (some ⟨g76, 0, none⟩)), (16, .pointer (some ⟨g94, 0, none⟩)), (17, .slice so l.length ca), (18, .int .i64 (((l.length : Nat) : Int))), (19, .int .i64 (((an : Nat) : Int))), (20, .int .i64 (((nn : Nat) : Int))), (21, .bool true), (22, .bool false), (24, .slice (some ⟨g9, 0, none⟩) 0 0), (25, .int .i64 (((k : Nat) : Int))), (26, .int .i64 (((nn : Nat) : Int))), (27, .bool false), (53, .slice ro xl.length rc), (54, .slice (some ⟨g69, 0, none⟩) 1 1), (55, .agg #[.bool false, .slice ro xl.length rc, .slice (some ⟨g69, 0, none⟩) 1 1]), (56, .agg #[.bool false, .slice f71_1 0 f71_c1, .slice f71_2 1 f71_c2]), (57, .agg #[.bool false, .slice ro xl.length rc, .slice (some ⟨g69, 0, none⟩) 1 1, .bool false, .slice f71_1 0 f71_c1, .slice f71_2 1 f71_c2]), (58, .bool true), (59, .bool true), (60, .slice ro xl.length rc), (61, .int .i64 (((bl (G.leN (G.zw bg ((l.drop an).take nn))) : Nat) : Int))), (62, .int .i64 (((nn : Nat) : Int))), (63, .int .i64 (((8 * nn : Nat) : Int))), (64, .bool true), (65, .bool true), (66, .slice (some ⟨g85, 0, none⟩) 1 1), (67, .int .i64 (((nn : Nat) : Int))), (68, .int .i64 (((8 * nn : Nat) : Int))), (69, .slice ro87 ((words (2 ^ (8 * nn))).length) rc88), (70, .slice (some ⟨g92, 0, none⟩) 1 1), (71, .agg #[.bool false, .slice ro87 ((words (2 ^ (8 * nn))).length) rc88, .slice (some ⟨g92, 0, none⟩) 1 1])] ∧ St w w1 [(g94, [.bool false, .slice ro87 ((words (2 ^ (8 * nn))).length) rc88, .slice (some ⟨g92, 0, none⟩) 1 1]), (g76, [.bool true, .slice J105 ((words (2 ^ (8 * nn) - (G.leN (G.zw bg ((l.drop an).take nn))))).length) J106, .slice J107 1 J108, .bool false, .slice f71_1 0 f71_c1, .slice f71_2 1 f71_c2]), (g2, [.bool false, .slice none 0 0, .slice none 0 0, .bool false, .slice none 0 0, .slice none 0 0])] [(J107, [1]), (J105, words (2 ^ (8 * nn) - (G.leN (G.zw bg ((l.drop an).take nn))))), (some ⟨g92, 0, none⟩, [1]), (ro87, words (2 ^ (8 * nn))), (some ⟨g85, 0, none⟩, [1]), (f71_2, [1]), (f71_1, []), (some ⟨g69, 0, none⟩, [1]), (ro, xl), (some ⟨g9, 0, none⟩, [])] [] ∧ (J107 = none → J108 = 0) ∧ ([1] : List Nat).length ≤ J108 ∧ (J105 = none → J106 = 0) ∧ (words (2 ^ (8 * nn) - (G.leN (G.zw bg ((l.drop an).take nn)))) : List Nat).length ≤ J106) → K79 a w1 := by
    clear hA hS
    rintro a w114 ⟨J105, J106, J107, J108, hA, hS, hn109, hc110, hn111, hc112⟩
    refine hK79 _ _ (wsk fun K115 hK115 => wrl (sdo hA (qw hS GvC_isS_36 rfl 1 rfl (cs := [.bool true, .slice J105 ((words (2 ^ (8 * nn) - (G.leN (G.zw bg ((l.drop an).take nn))))).length) J106, .slice J107 1 J108, .bool false, .slice f71_1 0 f71_c1, .slice f71_2 1 f71_c2]) rfl rfl) fun a hA => ?_))
    refine zq (us := [.bool true, .slice J105 ((words (2 ^ (8 * nn) - (G.leN (G.zw bg ((l.drop an).take nn))))).length) J106, .slice J107 1 J108, .bool false, .slice f71_1 0 f71_c1, .slice f71_2 1 f71_c2]) hA hS rfl rfl (qr rfl rfl rfl (by kernel_rfl) hS 2 rfl rfl rfl) 2 rfl rfl rfl rfl ?_
    intro w116 hS
    refine sdo hA (qb rfl) fun a hA => ?_
    refine qe (hK115 _ _ (wp_ret (hret _ _ (en2 hA rfl (jh hS GvC_isS_36 rfl 2 rfl (cs := [.bool true, .slice J105 ((words (2 ^ (8 * nn) - (G.leN (G.zw bg ((l.drop an).take nn))))).length) J106, .slice J107 1 J108, .bool false, .slice f71_1 0 f71_c1, .slice f71_2 1 f71_c2]) rfl rfl) (ql rfl) ?_))))
    have e9 : G.jt bg true ((l.drop an).take nn) = Q6.whole true (2 ^ (8 * nn) - (G.leN (G.zw bg ((l.drop an).take nn)))) := by unfold G.jt; rw [hpl, if_pos ⟨rfl, (qhd (by rw [G.xh]; exact hpl) hn1).1 (by omega)⟩, kw]
    rw [e9]
    exact ⟨J105, J106, J107, J108, f71_1, f71_c1, f71_2, f71_c2, rfl, ⟨⟨(hS.rd 1 rfl), hn111, hc112⟩, ⟨(hS.rd 0 rfl), hn109, hc110⟩, ⟨(hS.rd 6 rfl), hs72.nil, hs72.cap⟩, ⟨(hS.rd 5 rfl), hs73.nil, hs73.cap⟩⟩, hS.bel⟩
   refine je (S := fun w1 => St w w1 [(g94, [.bool false, .slice ro87 ((words (2 ^ (8 * nn))).length) rc88, .slice (some ⟨g92, 0, none⟩) 1 1]), (g2, [.bool false, .slice none 0 0, .slice none 0 0, .bool false, .slice none 0 0, .slice none 0 0])] [(some ⟨g92, 0, none⟩, [1]), (ro87, words (2 ^ (8 * nn))), (some ⟨g85, 0, none⟩, [1]), (f71_2, [1]), (f71_1, []), (some ⟨g69, 0, none⟩, [1]), (ro, xl), (some ⟨g9, 0, none⟩, [])] []) (by kernel_rfl) ?_
   replace hS := hS.drew
   refine qk (v := .pointer (some ⟨g76, 0, none⟩)) hA 0 rfl rfl rfl rfl hP (hS.partD (.cons_cons _ (.cons _ (.cons_cons _ .slnil))) 0 rfl (.refl _)) (fun w1 hS => qh GvC_fld_36_0 rfl rfl) fun a hA => ?_
   refine qk hA 2 rfl rfl rfl rfl hP (hS.partD (.cons_cons _ (.cons _ (.cons_cons _ .slnil))) 0 rfl (.refl _)) (fun w1 hS => qw hS GvC_isS_34 rfl 0 rfl (cs := [.bool false, .slice ro87 ((words (2 ^ (8 * nn))).length) rc88, .slice (some ⟨g92, 0, none⟩) 1 1]) rfl rfl) fun a hA => ?_
   refine xj (rs := [1, 3]) (by kernel_rfl) (by simp) ⟨?_, ?_, trivial⟩
   ·
    refine qbc hA 1 rfl rfl rfl rfl (qw hS GvC_isS_34 rfl 1 rfl (cs := [.bool false, .slice ro xl.length rc, .slice (some ⟨g69, 0, none⟩) 1 1]) rfl rfl) (hS.partD (.cons_cons _ (.cons _ (.cons_cons _ .slnil))) 0 rfl (.refl _)) fun a hA => ?_
    refine qt (by kernel_rfl) (zm hA 3 rfl rfl rfl rfl (qf  rfl rfl (fun w => by kernel_rfl)) (kj (r := true) (by rw [decide_eq_true (jg.2 (Nat.pos_iff_ne_zero.1 (Nat.two_pow_pos _)))]; rfl)) ?_)
    rintro _ w118 ⟨rfl, hb117⟩
    replace hS := hS.call hb117
    refine ⟨_, rfl, (hS.partD (.cons_cons _ (.cons _ (.cons_cons _ .slnil))) 0 rfl (.refl _)), ?_⟩
    intro a hA
    refine qt (by kernel_rfl) (zm hA 4 rfl rfl rfl rfl (qf  rfl rfl (fun w => by kernel_rfl)) (zlg (x := (G.leN (G.zw bg ((l.drop an).take nn)))) (y := 2 ^ (8 * nn)) hxz ⟨(hS.rd 6 rfl), hnil, hcap⟩ ⟨(hS.rd 5 rfl), (fun h => by cases h), (Nat.le_refl _)⟩ ⟨(hS.rd 1 rfl), ho89.nocap, ho89.caps⟩ ⟨(hS.rd 0 rfl), (fun h => by cases h), (Nat.le_refl _)⟩ hz.2 hy2 (by rw [kw]; exact hz.1)) ?_)
    rintro _ w123 ⟨f119_1, f119_c1, f119_2, f119_c2, rfl, hs120, hs121, hb122⟩
    replace hS := hS.call hb122
    replace hS := hS.addR hs120.rd
    replace hS := hS.addR hs121.rd
    refine ⟨_, rfl, (hS.partD (.cons_cons _ (.cons _ (.cons_cons _ .slnil))) 2 rfl (.refl _)), ?_⟩
    intro a hA
    refine qk (v := .pointer (some ⟨g76, 0, none⟩)) hA 5 rfl rfl rfl rfl hP (hS.partD (.cons_cons _ (.cons _ (.cons_cons _ .slnil))) 2 rfl (.refl _)) (fun w1 hS => qh GvC_fld_36_0 rfl rfl) fun a hA => ?_
    refine qt (by kernel_rfl) (zl (us := [.bool true, .slice f119_1 ((words (2 ^ (8 * nn) - (G.leN (G.zw bg ((l.drop an).take nn))))).length) f119_c1, .slice f119_2 1 f119_c2, .bool false, .slice f71_1 0 f71_c1, .slice f71_2 1 f71_c2]) hA hS 6 rfl rfl rfl (qr rfl rfl rfl (by kernel_rfl) hS 1 rfl rfl rfl) 1 rfl rfl rfl rfl ?_)
    intro w124 hS
    refine ⟨(hS.partD (.cons_cons _ (.cons _ (.cons_cons _ .slnil))) 2 rfl (.refl _)), ?_⟩
    refine zn (by kernel_rfl) ?_
    refine hJ113 _ _ ⟨f119_1, f119_c1, f119_2, f119_c2, hA.keep _ ⟨rfl, rfl, rfl, rfl, rfl, rfl, rfl, rfl, rfl, rfl, rfl, rfl, rfl, rfl, rfl, rfl, rfl, rfl, rfl, rfl, rfl, rfl, rfl, rfl, rfl, rfl, rfl, rfl, rfl, rfl, rfl, rfl, rfl, rfl, rfl, rfl, rfl, rfl, rfl, rfl, trivial⟩, (St.pickRL hS ⟨⟨0, rfl⟩, ⟨⟨1, rfl⟩, ⟨⟨2, rfl⟩, ⟨⟨3, rfl⟩, ⟨⟨4, rfl⟩, ⟨⟨5, rfl⟩, ⟨⟨6, rfl⟩, ⟨⟨7, rfl⟩, ⟨⟨8, rfl⟩, ⟨⟨9, rfl⟩, trivial⟩⟩⟩⟩⟩⟩⟩⟩⟩⟩ [0, 1, 2] rfl (by decide)), hs121.nil, hs121.cap, hs120.nil, hs120.cap⟩
   ·
    refine zm hA 3 rfl rfl rfl rfl (qf  rfl rfl (fun w => by kernel_rfl)) (kj (r := true) (by rw [decide_eq_true (jg.2 (Nat.pos_iff_ne_zero.1 (Nat.two_pow_pos _)))]; rfl)) ?_
    rintro _ w126 ⟨rfl, hb125⟩
    replace hS := hS.call hb125
    refine ⟨_, rfl, (hS.partD (.cons_cons _ (.cons _ (.cons_cons _ .slnil))) 0 rfl (.refl _)), ?_⟩
    intro a hA
    refine qt (by kernel_rfl) (qbc hA 1 rfl rfl rfl rfl (qw hS GvC_isS_34 rfl 1 rfl (cs := [.bool false, .slice ro xl.length rc, .slice (some ⟨g69, 0, none⟩) 1 1]) rfl rfl) (hS.partD (.cons_cons _ (.cons _ (.cons_cons _ .slnil))) 0 rfl (.refl _)) ?_)
    intro a hA
    refine qt (by kernel_rfl) (zm hA 4 rfl rfl rfl rfl (qf  rfl rfl (fun w => by kernel_rfl)) (zlg (x := (G.leN (G.zw bg ((l.drop an).take nn)))) (y := 2 ^ (8 * nn)) hxz ⟨(hS.rd 6 rfl), hnil, hcap⟩ ⟨(hS.rd 5 rfl), (fun h => by cases h), (Nat.le_refl _)⟩ ⟨(hS.rd 1 rfl), ho89.nocap, ho89.caps⟩ ⟨(hS.rd 0 rfl), (fun h => by cases h), (Nat.le_refl _)⟩ hz.2 hy2 (by rw [kw]; exact hz.1)) ?_)
    rintro _ w131 ⟨f127_1, f127_c1, f127_2, f127_c2, rfl, hs128, hs129, hb130⟩
    replace hS := hS.call hb130
    replace hS := hS.addR hs128.rd
    replace hS := hS.addR hs129.rd
    refine ⟨_, rfl, (hS.partD (.cons_cons _ (.cons _ (.cons_cons _ .slnil))) 2 rfl (.refl _)), ?_⟩
    intro a hA
    refine qk (v := .pointer (some ⟨g76, 0, none⟩)) hA 5 rfl rfl rfl rfl hP (hS.partD (.cons_cons _ (.cons _ (.cons_cons _ .slnil))) 2 rfl (.refl _)) (fun w1 hS => qh GvC_fld_36_0 rfl rfl) fun a hA => ?_
    refine qt (by kernel_rfl) (zl (us := [.bool true, .slice f127_1 ((words (2 ^ (8 * nn) - (G.leN (G.zw bg ((l.drop an).take nn))))).length) f127_c1, .slice f127_2 1 f127_c2, .bool false, .slice f71_1 0 f71_c1, .slice f71_2 1 f71_c2]) hA hS 6 rfl rfl rfl (qr rfl rfl rfl (by kernel_rfl) hS 1 rfl rfl rfl) 1 rfl rfl rfl rfl ?_)
    intro w132 hS
    refine ⟨(hS.partD (.cons_cons _ (.cons _ (.cons_cons _ .slnil))) 2 rfl (.refl _)), ?_⟩
    refine zn (by kernel_rfl) ?_
    refine hJ113 _ _ ⟨f127_1, f127_c1, f127_2, f127_c2, hA.keep _ ⟨rfl, rfl, rfl, rfl, rfl, rfl, rfl, rfl, rfl, rfl, rfl, rfl, rfl, rfl, rfl, rfl, rfl, rfl, rfl, rfl, rfl, rfl, rfl, rfl, rfl, rfl, rfl, rfl, rfl, rfl, rfl, rfl, rfl, rfl, rfl, rfl, rfl, rfl, rfl, rfl, trivial⟩, (St.pickRL hS ⟨⟨0, rfl⟩, ⟨⟨1, rfl⟩, ⟨⟨2, rfl⟩, ⟨⟨3, rfl⟩, ⟨⟨4, rfl⟩, ⟨⟨5, rfl⟩, ⟨⟨6, rfl⟩, ⟨⟨7, rfl⟩, ⟨⟨8, rfl⟩, ⟨⟨9, rfl⟩, trivial⟩⟩⟩⟩⟩⟩⟩⟩⟩⟩ [0, 1, 2] rfl (by decide)), hs129.nil, hs129.cap, hs128.nil, hs128.cap⟩
  ·
   have hb83' := ne_of_beq_false hb83
   refine sdo (v := .bool false) hA (qg rfl rfl (fun w => (xt w).trans (by rw [hb83]))) fun a hA => ?_
   refine sdo (v := .bool false) hA (qj rfl rfl rfl rfl) fun a hA => ?_
   refine qe (hK80 _ _ (wp_cond_false (hA.ev rfl) ?_))
   refine wp_skip (hK79 _ _ (wsk fun K133 hK133 => wrl (sdo hA (qw hS GvC_isS_36 rfl 0 rfl (cs := [.bool false, .slice ro xl.length rc, .slice (some ⟨g69, 0, none⟩) 1 1, .bool false, .slice f71_1 0 f71_c1, .slice f71_2 1 f71_c2]) rfl rfl) fun a hA => ?_)))
   refine zq (us := [.bool false, .slice ro xl.length rc, .slice (some ⟨g69, 0, none⟩) 1 1, .bool false, .slice f71_1 0 f71_c1, .slice f71_2 1 f71_c2]) hA hS rfl rfl (qr rfl rfl rfl (by kernel_rfl) hS 1 rfl rfl rfl) 1 rfl rfl rfl rfl ?_
   intro w134 hS
   refine sdo hA (qb rfl) fun a hA => ?_
   refine qe (hK133 _ _ (wp_ret (hret _ _ (en2 hA rfl (jh hS GvC_isS_36 rfl 1 rfl (cs := [.bool false, .slice ro xl.length rc, .slice (some ⟨g69, 0, none⟩) 1 1, .bool false, .slice f71_1 0 f71_c1, .slice f71_2 1 f71_c2]) rfl rfl) (ql rfl) ?_))))
   have e9 : G.jt bg true ((l.drop an).take nn) = Q6.whole false (G.leN (G.zw bg ((l.drop an).take nn))) := by unfold G.jt; rw [hpl, if_neg (fun k => by have h9 := (qhd (by rw [G.xh]; exact hpl) hn1).2 k.2; omega)]
   subst hxz
   rw [e9]
   exact ⟨ro, rc, some ⟨g69, 0, none⟩, 1, f71_1, f71_c1, f71_2, f71_c2, rfl, ⟨⟨(hS.rd 3 rfl), hnil, hcap⟩, ⟨(hS.rd 2 rfl), (fun h => by cases h), (Nat.le_refl _)⟩, ⟨(hS.rd 1 rfl), hs72.nil, hs72.cap⟩, ⟨(hS.rd 0 rfl), hs73.nil, hs73.cap⟩⟩, hS.bel⟩
theorem zjc {w : World} {so : Option Addr} {ca : Nat} {l : List UInt8} (hb : G.Rb w so l) (hca : l.length ≤ ca) (hl : l.length ≤ 140737488351232) {an nn : Nat} (hn1 : 1 ≤ nn) (hn64 : nn ≤ 64) (hle : an + nn ≤ l.length) (bg sg : Bool) : Calls Tryz.prog 13 #[.slice so l.length ca, .int .i64 ((an : Nat) : Int), .int .i64 ((nn : Nat) : Int), .bool bg, .bool sg] w (AnsN w (G.jt bg sg ((l.drop an).take nn), 0)) := by
 cases sg
 ·
  exact qve hb hca hl hn1 hn64 hle bg
 ·
  exact qzg hb hca hl hn1 hn64 hle bg
end Go.Proofs.YtbhdnpbbmpemnaaGreatDoor
namespace Go.Proofs.YtbhdnpbbmpemnaaGreatDoor
open Go.RowKit
set_option linter.unusedVariables false
set_option linter.unusedSimpArgs false

theorem zea (l : List (Nat × Value)) (k : Nat) : G.va l k = va l k := by
  induction l with
  | nil => rfl
  | cons p t ih => show cond _ _ (G.va t k) = cond _ _ (va t k); rw [ih]
theorem toG {a : Act} {n : Nat} {l : List (Nat × Value)} (h : Sl a n l) : G.Sl a n l := ⟨h.size, fun k v hk => h.holds k v (by rw [← zea]; exact hk), h.none_⟩
theorem ofG {a : Act} {n : Nat} {l : List (Nat × Value)} (h : G.Sl a n l) : Sl a n l := ⟨h.size, fun k v hk => h.holds k v (by rw [zea]; exact hk), h.none_⟩
theorem St.bare {w0 w : World} (h : Below w0.heap.size w0 w) : St w0 w [] [] [] := ⟨h, by simp, by simp, by simp, by simp, by simp, by simp, by simp⟩
end Go.Proofs.YtbhdnpbbmpemnaaGreatDoor
namespace Go.Proofs.YtbhdnpbbmpemnaaGreatDoor.G
open Go.RowKit
set_option linter.unusedVariables false
set_option linter.unusedSimpArgs false

section
variable {P : Program} {w0 w : World} {L : List Ck} {l : List (Nat × Value)} {dst : Option Tmp} {ty : TypeId} {pos : String} {after : Array Edge} {guard : Option (Nat × Bool)} {v : Value}
theorem qoc {b o : Nat} (hc : w.cell? ⟨b, o, none⟩ = some v) {t : TypeId} (ht : Is1 P t) {x : Operand} (hx : ev l x = some (.pointer (some ⟨b, o, none⟩))) : Does P l ⟨dst, .load t x, ty, pos, after, guard⟩ w v w := xp hx (vq ht hc)
variable {ops : List Oper} {Q : Exit → Act → World → Prop} {a : Act} {n : Nat} {o : Oper} {rest : List Oper} {d : Nat}
theorem qaj (hA : Sl a n l) (hM : Mg w0 w L) {t e ty : TypeId} {z : Value} {sz by_ : Nat} {dst : Option Tmp} {pos : String} {after : Array Edge} {guard : Option (Nat × Bool)} (ht : P.underlying t = some (.slice e)) (hinfo : (P.info? e).map (fun i => (i.zero, i.size, i.bytes)) = some (some z, sz, by_)) {x y : Operand} {m : Nat} (hx : ev l x = some (.int .i64 ((m : Nat) : Int))) (hy : ev l y = some (.int .i64 ((m : Nat) : Int))) (ho : o = ⟨dst, .makeSlice t x y, ty, pos, after, guard⟩) (hg : zt l ops o = true) (hdst : o.dst = some d) (hd : Nat.blt d n = true) (hb : by_ * m ≤ 281474976710656) (h63 : m ≤ 9223372036854775807) (hnb : e ≠ BY ∨ yt L)
    (hk : ∀ g w', Mg w0 w' (.row e sz (.slice (some ⟨g, 0, none⟩) m m) m (madeCells z.cells (m * sz)).toList :: L) → Carry w w' → ∀ a', Sl a' n ((d, .slice (some ⟨g, 0, none⟩) m m) :: l) → wpList P ops.toArray Q rest a' w') : wpList P ops.toArray Q (o :: rest) a w := by
  subst ho
  obtain ⟨i, hi, hzz⟩ := Option.map_eq_some_iff.1 hinfo
  simp only [Prod.mk.injEq] at hzz
  obtain ⟨hz, hs, hbb⟩ := hzz
  obtain ⟨w', hr, hown, hgr⟩ := run_make_full (P := P) (w := w) w0.heap.size t e i z sz ht hi hz hs .i64 .i64 m (by rw [hbb]; exact hb) (by unfold maxLen; omega) hM.bel.size
  have hbel : Below w.heap.size w w' := ⟨hgr.os, hgr.tape, hgr.output, hgr.size, fun k hk => hgr.block k hk (by simp)⟩
  refine vf hA hg hdst hd (v := .slice (some ⟨w.heap.size, 0, none⟩) m m) (w' := w') (fun ρ h => ?_) (hk w.heap.size w' (hM.add hbel hown (fun k e => by simp [Ck.at_, Value.ownBlock] at e; omega) (.inr (.inl ⟨_, _, _, _, _, rfl, hnb⟩))) (fun _ _ r => r.below hbel))
  simp only [execOp, h x _ hx, h y _ hy, Sem.run_bind, hr, Result.andThen_ok, Sem.run_pure]
theorem xg (hA : Sl a n l) (hM : Mg w0 w L) (hg : zt l ops o = true) (hdst : o.dst = none) {g q : Nat} {c u : Value} {e : TypeId} {sz m cap : Nat} {xs : List Value} (he : Sets P l o w (w.setCells g q [c])) (k : Nat) (hk0 : L[k]? = some (.row e sz (.slice (some ⟨g, 0, none⟩) m cap) m xs)) (hu : xs[q]? = some u) (hn : kr u = true) {L' : List Ck} (hL : L.set k (.row e sz (.slice (some ⟨g, 0, none⟩) m cap) m (over xs q [c])) = L')
    (hk : ∀ w', Mg w0 w' L' → Carry w w' → wpList P ops.toArray Q rest a w') : wpList P ops.toArray Q (o :: rest) a w :=
  yk hA hg hdst he (hk _ (by subst hL; exact Mg.rowPuts [c] w L xs q hM k hk0) (fun so ls r => Rd.setNo r (yf hM k hk0 q u hu) (qni hn) c))
end
theorem qod {P : Program} {ts : Array TypeId} {ty : TypeId} {m k : Nat} : ∀ w cs, (builtin .min ts ty cs #[.int .i64 ((m : Nat) : Int), .int .i64 ((k : Nat) : Int)]).run P w = .ok (.value (.int .i64 ((min m k : Nat) : Int))) w := fun w cs => by
  have e : (if ((k : Nat) : Int) < ((m : Nat) : Int) then ((k : Nat) : Int) else ((m : Nat) : Int)) = ((min m k : Nat) : Int) := by split <;> omega
  simp only [BigFrame.builtin_min, Sem.run_bind, run_min_int2, Result.andThen_ok, Sem.run_pure, e]
def leB (n F : Nat) : List UInt8 := (List.range n).map fun i => UInt8.ofNat (F / 256 ^ i % 256)
def lbI (n F i : Nat) : List UInt8 := (List.range n).map fun j => if j < i then UInt8.ofNat (F / 256 ^ j % 256) else 0
theorem yb (n F : Nat) : (leB n F).length = n := by simp [leB]
theorem xi (n F i : Nat) : (lbI n F i).length = n := by simp [lbI]
theorem qwg {n F i j : Nat} (h : j < n) : (lbI n F i).getD j 0 = if j < i then UInt8.ofNat (F / 256 ^ j % 256) else 0 := by
  unfold lbI
  rw [List.getD_eq_getElem?_getD, List.getElem?_map, List.getElem?_range h]
  rfl
theorem qme (x : Nat) : (UInt8.ofNat (x % 256)).toNat = x % 256 := by rw [UInt8.toNat_ofNat']; omega
theorem qaa (n F : Nat) : (madeCells (Value.int .u8 0).cells (n * 1)).toList = Lib.byteCells (lbI n F 0) := by
  unfold madeCells Lib.byteCells lbI
  rw [Array.toList_map, Array.toList_range, Nat.mul_one, List.map_map]
  refine List.map_congr_left fun k _ => ?_
  show (Value.int .u8 0).cells[k % 1]! = _
  rw [Nat.mod_one]
  simp
  rfl
theorem qdc {n F i : Nat} (h : i < n) : over (Lib.byteCells (lbI n F i)) (i * 1) [.int .u8 ((F / 256 ^ i % 256 : Nat) : Int)] = Lib.byteCells (lbI n F (i + 1)) := by
  rw [Nat.mul_one]
  show (Lib.byteCells (lbI n F i)).set i _ = _
  refine List.ext_getElem? fun k => ?_
  have hl : (Lib.byteCells (lbI n F i)).length = n := by rw [Lib.byteCells_length, xi]
  by_cases hk : k < n
  · by_cases e : k = i
    · subst e
      rw [List.getElem?_set_self (by omega)]
      have h2 := jk (l := lbI n F (k + 1)) (i := k) (by rw [xi]; exact hk)
      rw [Nat.mul_one, qwg hk, if_pos (by omega), qme] at h2
      exact h2.symm
    · rw [List.getElem?_set_ne (fun q => e q.symm)]
      have h1 := jk (l := lbI n F i) (i := k) (by rw [xi]; exact hk)
      have h2 := jk (l := lbI n F (i + 1)) (i := k) (by rw [xi]; exact hk)
      rw [Nat.mul_one, qwg hk] at h1 h2
      rw [h1, h2]
      by_cases q : k < i
      · rw [if_pos q, if_pos (by omega)]
      · rw [if_neg q, if_neg (by omega)]
  · rw [List.getElem?_eq_none (by simp; omega), List.getElem?_eq_none (by rw [Lib.byteCells_length, xi]; omega)]
theorem qjc {n F i : Nat} (hi : i = min n ((words F).length * 4)) : lbI n F i = leB n F := by
  unfold lbI leB
  refine List.map_congr_left fun j hj => ?_
  have hj := List.mem_range.1 hj
  by_cases h : j < i
  · rw [if_pos h]
  · rw [if_neg h]
    have hge : (words F).length * 4 ≤ j := by omega
    have hF : F < 256 ^ j := by
      have h1 := words_length_iff.1 (Nat.le_refl (words F).length)
      refine Nat.lt_of_lt_of_le h1 ?_
      rw [pw_two, show (256 : Nat) = 2 ^ 8 from rfl, ← Nat.pow_mul]
      exact Nat.pow_le_pow_right (by decide) (by omega)
    rw [Nat.div_eq_of_lt hF]
    rfl
theorem qhe : ∀ (n F : Nat), F < 256 ^ n → leN (leB n F) = F
  | 0, F, h => by simp at h; subst h; rfl
  | n + 1, F, h => by
    have h1 : F / 256 < 256 ^ n := by rw [Nat.pow_succ] at h; exact Nat.div_lt_of_lt_mul (by rw [Nat.mul_comm]; exact h)
    have ih := qhe n (F / 256) h1
    have e : leB (n + 1) F = UInt8.ofNat (F % 256) :: leB n (F / 256) := by
      unfold leB
      rw [List.range_succ_eq_map, List.map_cons, List.map_map]
      congr 1
      · rw [Nat.pow_zero, Nat.div_one]
      · refine List.map_congr_left fun j _ => ?_
        show UInt8.ofNat (F / 256 ^ (j + 1) % 256) = UInt8.ofNat (F / 256 / 256 ^ j % 256)
        rw [Nat.div_div_eq_div_mul, Nat.pow_succ, Nat.mul_comm 256]
    rw [e, leN, ih, qme]
    omega
theorem qoe (F i : Nat) : (words F).getD (i / 4) 0 / 2 ^ (i % 4 * 8) % 256 = F / 256 ^ i % 256 := by
  rw [words_getD, pw_two]
  have hr : i % 4 < 4 := Nat.mod_lt _ (by decide)
  have e1 : (4294967296 : Nat) = 2 ^ (i % 4 * 8) * 2 ^ (32 - i % 4 * 8) := by
    rw [← Nat.pow_add, show i % 4 * 8 + (32 - i % 4 * 8) = 32 from by omega]
  rw [e1, Nat.mod_mul_right_div_self, Nat.div_div_eq_div_mul, ← Nat.pow_add]
  have e2 : 32 * (i / 4) + i % 4 * 8 = 8 * i := by omega
  rw [e2, Nat.pow_mul, Nat.mod_mod_of_dvd]
  have e3 : (2 : Nat) ^ (32 - i % 4 * 8) = 2 ^ 8 * 2 ^ (24 - i % 4 * 8) := by rw [← Nat.pow_add]; congr 1; omega
  rw [e3]
  exact Nat.dvd_mul_right _ _
theorem qhf (bg : Bool) (p : List UInt8) : zw bg (zw bg p) = p := by unfold zw; cases bg <;> simp
end Go.Proofs.YtbhdnpbbmpemnaaGreatDoor.G
namespace Go.Proofs.YtbhdnpbbmpemnaaGreatDoor.G
open Go.RowKit
set_option linter.unusedVariables false
set_option linter.unusedSimpArgs false
set_option maxRecDepth 100000
theorem ByP_is1_3 : Is1 Tryz.prog 3 := ⟨⟨_, Tryz.underlying3, rfl⟩, by kernel_rfl⟩
theorem ByP_is1_32 : Is1 Tryz.prog 32 := ⟨⟨_, Tryz.underlying32, rfl⟩, by kernel_rfl⟩
theorem ByP_is1_4 : Is1 Tryz.prog 4 := ⟨⟨_, Tryz.underlying4, rfl⟩, by kernel_rfl⟩
theorem ByP_is1_51 : Is1 Tryz.prog 51 := ⟨⟨_, Tryz.underlying51, rfl⟩, by kernel_rfl⟩
theorem ByP_fld_34_0 : FieldAt Tryz.prog 34 0 0 := ⟨_, _, Tryz.underlying34, rfl, rfl, by kernel_rfl⟩
theorem ByP_fld_34_1 : FieldAt Tryz.prog 34 1 1 := ⟨_, _, Tryz.underlying34, rfl, rfl, by kernel_rfl⟩
theorem ByP_fld_36_0 : FieldAt Tryz.prog 36 0 0 := ⟨_, _, Tryz.underlying36, rfl, rfl, by kernel_rfl⟩
theorem ByP_fld_39_0 : FieldAt Tryz.prog 39 0 0 := ⟨_, _, Tryz.underlying39, rfl, rfl, by kernel_rfl⟩
theorem ByP_fld_39_2 : FieldAt Tryz.prog 39 2 2 := ⟨_, _, Tryz.underlying39, rfl, rfl, by kernel_rfl⟩
theorem ByP_isS_36 : IsS Tryz.prog 36 6 := ⟨⟨_, Tryz.underlying36⟩, by kernel_rfl⟩
theorem ByP_isS_39 : IsS Tryz.prog 39 3 := ⟨⟨_, Tryz.underlying39⟩, by kernel_rfl⟩
theorem qba {w : World} {n : Nat} {bg : Bool} (h1 : 1 ≤ n) (h64 : n ≤ 64) : Calls Tryz.prog 33 #[.agg #[.int .i64 ((n : Nat) : Int), .bool bg, .bool true]] w fun e w' => e = .returned (.int .i64 ((n * 8 - 1 : Nat) : Int)) ∧ Below w.heap.size w w' := by
 have hM : Mg w w ([]) := Mg.start w
 refine za (l := [(0, .agg #[.int .i64 (((n : Nat) : Int)), .bool bg, .bool true])]) Tryz.func33 rfl Tryz.ntmps33 rfl rfl ?_
 intro Q hret hnorm hP a hA
 refine wsk fun K1 hK1 => wrl (xr (vs := [.int .i64 (((n : Nat) : Int)), .bool bg, .bool true]) (t := 39) hA hM rfl rfl rfl (fun g => .pointer (some ⟨g, 0, none⟩)) (zf rfl rfl) (by decide) ?_)
 intro g2 w3 hM a hA
 refine sdo hA (qb rfl) fun a hA => ?_
 refine qe (hK1 _ _ (wsk fun K4 hK4 => wsk fun K5 hK5 => wrl (sdo (v := .pointer (some ⟨g2, 2, none⟩)) hA (qh ByP_fld_39_2 rfl rfl) fun a hA => ?_)))
 refine sdo hA (zx hM ByP_is1_4 rfl 0 rfl rfl) fun a hA => ?_
 refine qe (hK5 _ _ (wp_cond_true (hA.ev rfl) ?_))
 refine wsk fun K6 hK6 => wrl (sdo (v := .pointer (some ⟨g2, 0, none⟩)) hA (qh ByP_fld_39_0 rfl rfl) fun a hA => ?_)
 refine sdo hA (zx hM ByP_is1_3 rfl 0 rfl rfl) fun a hA => ?_
 refine sdo (v := .int .i64 (((n * 8 : Nat) : Int))) hA (qg rfl rfl (ar_mul ((in_i64 (by omega) (by omega)).trans (by omega)))) fun a hA => ?_
 refine sdo (v := .int .i64 (((n * 8 - 1 : Nat) : Int))) hA (qg rfl rfl (ar_sub ((in_i64 (by omega) (by omega)).trans (by omega)))) fun a hA => ?_
 refine sdo hA (qb rfl) fun a hA => ?_
 refine qe (hK6 _ _ (wp_ret (hret _ _ (en1 hA rfl (ql rfl) ?_))))
 exact ⟨rfl, hM.bel⟩
theorem qjd {w : World} {n : Nat} {bg : Bool} (h1 : 1 ≤ n) (h64 : n ≤ 64) : Calls Tryz.prog 33 #[.agg #[.int .i64 ((n : Nat) : Int), .bool bg, .bool false]] w fun e w' => e = .returned (.int .i64 ((n * 8 : Nat) : Int)) ∧ Below w.heap.size w w' := by
 have hM : Mg w w ([]) := Mg.start w
 refine za (l := [(0, .agg #[.int .i64 (((n : Nat) : Int)), .bool bg, .bool false])]) Tryz.func33 rfl Tryz.ntmps33 rfl rfl ?_
 intro Q hret hnorm hP a hA
 refine wsk fun K1 hK1 => wrl (xr (vs := [.int .i64 (((n : Nat) : Int)), .bool bg, .bool false]) (t := 39) hA hM rfl rfl rfl (fun g => .pointer (some ⟨g, 0, none⟩)) (zf rfl rfl) (by decide) ?_)
 intro g2 w3 hM a hA
 refine sdo hA (qb rfl) fun a hA => ?_
 refine qe (hK1 _ _ (wsk fun K4 hK4 => wsk fun K5 hK5 => wrl (sdo (v := .pointer (some ⟨g2, 2, none⟩)) hA (qh ByP_fld_39_2 rfl rfl) fun a hA => ?_)))
 refine sdo hA (zx hM ByP_is1_4 rfl 0 rfl rfl) fun a hA => ?_
 refine qe (hK5 _ _ (wp_cond_false (hA.ev rfl) ?_))
 refine wp_skip (hK4 _ _ (wsk fun K6 hK6 => wrl (sdo (v := .pointer (some ⟨g2, 0, none⟩)) hA (qh ByP_fld_39_0 rfl rfl) fun a hA => ?_)))
 refine sdo hA (zx hM ByP_is1_3 rfl 0 rfl rfl) fun a hA => ?_
 refine sdo (v := .int .i64 (((n * 8 : Nat) : Int))) hA (qg rfl rfl (ar_mul ((in_i64 (by omega) (by omega)).trans (by omega)))) fun a hA => ?_
 refine sdo hA (qb rfl) fun a hA => ?_
 refine qe (hK6 _ _ (wp_ret (hret _ _ (en1 hA rfl (ql rfl) ?_))))
 exact ⟨rfl, hM.bel⟩
theorem xa {w w' : World} {q : Q6} {o1 o2 o3 o4 : Option Addr} {c1 c2 c3 c4 : Nat} (h : Nm w q o1 c1 o2 c2 o3 c3 o4 c4) (hb : Below w.heap.size w w') : Nm w' q o1 c1 o2 c2 o3 c3 o4 c4 := jv h (fun _ _ r => r.below hb)
theorem qhg {b : Bool} {x : Nat} (hx : (words x).length ≤ 512) (hb : b.toNat ≤ x) : xm (Q6.whole b x) = 0 := by
 unfold xm xd
 rw [xz hx hb]
 simp [Q6.whole]
theorem qwh (z : Nat) : IntKind.u8.wrap ((z : Nat) : Int) = ((z % 256 : Nat) : Int) := by
 have e : IntKind.u8.wrap ((z : Nat) : Int) = ((z : Nat) : Int) % 256 := by
  unfold IntKind.wrap
  show (if (false : Bool) = true then _ else _) = _
  rfl
 rw [e]
 omega
theorem yr (bg : Bool) {w : World} {sp : Option Addr} {cp : Nat} {p : List UInt8} {sg : Bool} (hp : Rb w sp p) (hl : p.length ≤ 140737488351232) : Calls Tryz.prog 20 #[.agg #[.int .i64 ((p.length : Nat) : Int), .bool bg, .bool sg], .slice sp p.length cp] w fun e w' => ∃ g, e = .returned (.slice (some ⟨g, 0, none⟩) p.length p.length) ∧ Mg w w' [.row BY 1 (.slice (some ⟨g, 0, none⟩) p.length p.length) p.length (Lib.byteCells (zw bg p))] := by
 cases bg
 ·
  exact kt hp hl
 ·
  exact ye hp hl
theorem qof {w : World} {b : Bool} {x n : Nat} {o1 o2 o3 o4 : Option Addr} {c1 c2 c3 c4 : Nat} (ha : Nm w (Q6.whole b x) o1 c1 o2 c2 o3 c3 o4 c4) (hx : (words x).length ≤ 512) (hbx : b.toNat ≤ x) (h1 : 1 ≤ n) (h64 : n ≤ 64) (bg : Bool) {F ln : Nat} (hF : fld b (x - b.toNat) 0 (n * 8) = F) (hln : bl (x - b.toNat) = ln) (hroom : ln ≤ n * 8 - 1)  : Calls Tryz.prog 14 #[.agg #[.int .i64 ((n : Nat) : Int), .bool bg, .bool true], xy (Q6.whole b x) o1 c1 o2 c2 o3 c3 o4 c4] w fun e w' => ∃ g, e = .returned (.tuple #[.slice (some ⟨g, 0, none⟩) n n, .int .i64 0]) ∧ Mg w w' [.row BY 1 (.slice (some ⟨g, 0, none⟩) n n) n (Lib.byteCells (zw bg (leB n F)))] := by
 have hw := qhg hx hbx
 have hwl : (words F).length ≤ 512 := by rw [← hF]; exact qwf (by omega)
 have hM : Mg w w ([]) := Mg.start w
 refine za (l := [(0, .agg #[.int .i64 (((n : Nat) : Int)), .bool bg, .bool true]), (1, .agg #[.bool b, .slice o1 ((words x).length) c1, .slice o2 1 c2, .bool false, .slice o3 0 c3, .slice o4 1 c4])]) Tryz.func14 rfl Tryz.ntmps14 rfl rfl ?_
 intro Q hret hnorm hP a hA
 refine wsk fun K1 hK1 => wrl (xr (vs := [.int .i64 (((n : Nat) : Int)), .bool bg, .bool true]) (t := 39) hA hM rfl rfl rfl (fun g => .pointer (some ⟨g, 0, none⟩)) (zf rfl rfl) (by decide) ?_)
 intro g2 w3 hM a hA
 refine xr (vs := [.bool b, .slice o1 ((words x).length) c1, .slice o2 1 c2, .bool false, .slice o3 0 c3, .slice o4 1 c4]) (t := 36) hA hM rfl rfl rfl (fun g => .pointer (some ⟨g, 0, none⟩)) (zf rfl rfl) (by decide) ?_
 intro g4 w5 hM a hA
 iterate 2 refine sdo hA (qb rfl) fun a hA => ?_
 refine qe (hK1 _ _ (wsk fun K6 hK6 => wrl (sdo hA (jc hM ByP_isS_36 rfl 0 rfl (cs := [.bool b, .slice o1 ((words x).length) c1, .slice o2 1 c2, .bool false, .slice o3 0 c3, .slice o4 1 c4]) rfl rfl) fun a hA => ?_)))
 refine qi hA rfl rfl rfl (qf rfl rfl (fun w => by kernel_rfl)) ((by have h9 := ya (w := w5) (xa ha hM.bel) (jl hx) hw hx hbx; rw [vr hw, hln] at h9; exact h9)) ?_
 rintro _ w8 ⟨rfl, hb7⟩
 replace hM := hM.call hb7
 refine ⟨_, rfl, ?_⟩
 intro a hA
 refine sdo hA (qa rfl) fun a hA => ?_
 iterate 2 refine sdo hA (qz (vs := [.int .i64 (((ln : Nat) : Int)), .int .i64 0]) rfl rfl) fun a hA => ?_
 iterate 2 refine sdo hA (qb rfl) fun a hA => ?_
 refine qe (hK6 _ _ (wsk fun K9 hK9 => wsk fun K10 hK10 => wrl (sdo hA (qa rfl) fun a hA => ?_)))
 refine sdo (v := .bool false) hA (qg rfl rfl (fun w => by kernel_rfl)) fun a hA => ?_
 refine qe (hK10 _ _ (wp_cond_false (hA.ev rfl) ?_))
 refine wp_skip (hK9 _ _ (wsk fun K11 hK11 => wsk fun K12 hK12 => wrl (sdo (v := .pointer (some ⟨g4, 0, none⟩)) hA (qh ByP_fld_36_0 rfl rfl) fun a hA => ?_)))
 refine sdo (v := .pointer (some ⟨g4, 0, none⟩)) hA (qh ByP_fld_34_0 rfl rfl) fun a hA => ?_
 refine sdo hA (zx hM ByP_is1_4 rfl 0 rfl rfl) fun a hA => ?_
 refine sdo hA (qa rfl) fun a hA => ?_
 rcases b with _ | _
 ·
  iterate 3 refine zg hA rfl rfl rfl fun a hA => ?_
  refine sdo (v := .bool false) hA (qj rfl rfl rfl rfl) fun a hA => ?_
  iterate 2 refine sdo hA (qa rfl) fun a hA => ?_
  refine sdo hA (jc hM ByP_isS_39 rfl 1 rfl (cs := [.int .i64 (((n : Nat) : Int)), .bool bg, .bool true]) rfl rfl) fun a hA => ?_
  refine qi hA rfl rfl rfl (qf rfl rfl (fun w => by kernel_rfl)) (qba h1 h64) ?_
  rintro _ w14 ⟨rfl, hb13⟩
  replace hM := hM.call hb13
  refine ⟨_, rfl, ?_⟩
  intro a hA
  refine sdo (v := .bool false) hA (qg rfl rfl (fun w => (ja w).trans (by rw [show (decide (((n * 8 - 1 : Nat) : Int) < ((ln : Nat) : Int))) = false from (decide_eq_false (by omega))]))) fun a hA => ?_
  refine sdo (v := .bool false) hA (qj rfl rfl rfl rfl) fun a hA => ?_
  refine qe (hK12 _ _ (wp_cond_false (hA.ev rfl) ?_))
  refine wp_skip (hK11 _ _ (wsk fun K15 hK15 => wrl (sdo hA (jc hM ByP_isS_36 rfl 0 rfl (cs := [.bool false, .slice o1 ((words x).length) c1, .slice o2 1 c2, .bool false, .slice o3 0 c3, .slice o4 1 c4]) rfl rfl) fun a hA => ?_)))
  refine sdo (v := .pointer (some ⟨g2, 0, none⟩)) hA (qh ByP_fld_39_0 rfl rfl) fun a hA => ?_
  refine sdo hA (zx hM ByP_is1_3 rfl 1 rfl rfl) fun a hA => ?_
  refine sdo (v := .int .i64 (((n * 8 : Nat) : Int))) hA (qg rfl rfl (ar_mul ((in_i64 (by omega) (by omega)).trans (by omega)))) fun a hA => ?_
  refine qi hA rfl rfl rfl (qf rfl rfl (fun w => by kernel_rfl)) ((show Calls Tryz.prog 34 _ _ (AnsN _ (Q6.whole false F, 0)) from (by have h9 := uz (w := w14) (S := 0) (E := n * 8) (xa ha hM.bel) (jl hx) (by omega) (by omega) hw hx hbx; rw [qai hw (by omega) (by omega), Nat.sub_zero, hF] at h9; exact h9))) ?_
  rintro _ w19 ⟨o18_1, o18_c1, o18_2, o18_c2, o18_3, o18_c3, o18_4, o18_c4, rfl, hn16, hb17⟩
  replace hM := hM.call hb17
  refine ⟨_, rfl, ?_⟩
  intro a hA
  refine sdo hA (qa rfl) fun a hA => ?_
  iterate 2 refine sdo hA (qz (vs := [.agg #[.bool false, .slice o18_1 ((words F).length) o18_c1, .slice o18_2 1 o18_c2, .bool false, .slice o18_3 0 o18_c3, .slice o18_4 1 o18_c4], .int .i64 0]) rfl rfl) fun a hA => ?_
  refine qif (vs := [.bool false, .slice none 0 0, .slice none 0 0, .bool false, .slice none 0 0, .slice none 0 0]) (t := 36) hA hM rfl rfl rfl (fun g => .pointer (some ⟨g, 0, none⟩)) (qp (z := .agg #[.bool false, .slice none 0 0, .slice none 0 0, .bool false, .slice none 0 0, .slice none 0 0]) (by kernel_rfl) rfl) (by decide) ?_
  intro g20 w21 hM hc22 a hA
  replace hn16 := jv hn16 hc22
  refine yh (us := [.bool false, .slice o18_1 ((words F).length) o18_c1, .slice o18_2 1 o18_c2, .bool false, .slice o18_3 0 o18_c3, .slice o18_4 1 o18_c4]) (L' := (.obj g20 (.cells #[.bool false, .slice o18_1 ((words F).length) o18_c1, .slice o18_2 1 o18_c2, .bool false, .slice o18_3 0 o18_c3, .slice o18_4 1 o18_c4] 36) :: .obj g4 (.cells #[.bool false, .slice o1 ((words x).length) c1, .slice o2 1 c2, .bool false, .slice o3 0 c3, .slice o4 1 c4] 36) :: .obj g2 (.cells #[.int .i64 (((n : Nat) : Int)), .bool bg, .bool true] 39) :: [])) hA hM rfl rfl (jz rfl rfl rfl (by kernel_rfl) hM 0 rfl rfl rfl) 0 rfl rfl rfl rfl rfl rfl ?_
  intro w23 hM hc24
  replace hn16 := jv hn16 hc24
  refine sdo hA (qb rfl) fun a hA => ?_
  refine qe (hK15 _ _ (wsk fun K25 hK25 => wrl (sdo (v := .pointer (some ⟨g2, 0, none⟩)) hA (qh ByP_fld_39_0 rfl rfl) fun a hA => ?_)))
  refine sdo hA (zx hM ByP_is1_3 rfl 2 rfl rfl) fun a hA => ?_
  refine qaj (z := .int .u8 0) (sz := 1) (by_ := 1) (m := n) hA hM Tryz.underlying22 (by kernel_rfl) rfl rfl rfl rfl rfl rfl (by omega) (by omega) (.inr (qn (by simp) (qn (by simp) (qn (by simp) (qy zd))))) ?_
  intro gx w26 hM hc27 a hA
  replace hn16 := jv hn16 hc27
  rw [qaa n F] at hM
  refine sdo hA (qb rfl) fun a hA => ?_
  refine qe (hK25 _ _ (wsk fun K28 hK28 => wsk fun K29 hK29 => wrl (sdo (v := .pointer (some ⟨g2, 0, none⟩)) hA (qh ByP_fld_39_0 rfl rfl) fun a hA => ?_)))
  refine sdo hA (zx hM ByP_is1_3 rfl 3 rfl rfl) fun a hA => ?_
  refine sdo (v := .pointer (some ⟨g20, 0, none⟩)) hA (qh ByP_fld_36_0 rfl rfl) fun a hA => ?_
  refine sdo (v := .pointer (some ⟨g20, 1, none⟩)) hA (qh ByP_fld_34_1 rfl rfl) fun a hA => ?_
  refine sdo hA (zx hM ByP_is1_32 rfl 1 rfl rfl) fun a hA => ?_
  refine sdo hA (zb Tryz.underlying32 rfl) fun a hA => ?_
  refine sdo (v := .int .i64 ((((words F).length * 4 : Nat) : Int))) hA (qg rfl rfl (ar_mul ((in_i64 (by omega) (by omega)).trans (by omega)))) fun a hA => ?_
  refine sdo (v := .int .i64 (((min n ((words F).length * 4) : Nat) : Int))) hA (vz rfl qod) fun a hA => ?_
  refine sdo hA (qa rfl) fun a hA => ?_
  refine qe (hK29 _ _ (wp_block (jb (fun m_ a w1 => ∃ (i : Nat), m_ = n - i ∧ (i ≤ min n ((words F).length * 4) ∧ Rd w1 o18_1 (words F)) ∧ Sl a 75 [(0, .agg #[.int .i64 (((n : Nat) : Int)), .bool bg, .bool true]), (1, .agg #[.bool false, .slice o1 ((words x).length) c1, .slice o2 1 c2, .bool false, .slice o3 0 c3, .slice o4 1 c4]), (2, .pointer (some ⟨g2, 0, none⟩)), (3, .pointer (some ⟨g4, 0, none⟩)), (4, .slice none 0 0), (5, .int .i64 0), (6, .int .i64 (((ln : Nat) : Int))), (7, .int .i64 0), (8, .pointer (some ⟨g20, 0, none⟩)), (9, .int .i64 0), (10, .slice (some ⟨gx, 0, none⟩) n n), (12, .tuple #[.int .i64 (((ln : Nat) : Int)), .int .i64 0]), (13, .agg #[.bool false, .slice o1 ((words x).length) c1, .slice o2 1 c2, .bool false, .slice o3 0 c3, .slice o4 1 c4]), (14, .tuple #[.int .i64 (((ln : Nat) : Int)), .int .i64 0]), (15, .int .i64 (((ln : Nat) : Int))), (16, .int .i64 0), (17, .int .i64 0), (18, .bool false), (20, .pointer (some ⟨g4, 0, none⟩)), (21, .pointer (some ⟨g4, 0, none⟩)), (22, .bool false), (23, .bool false), (27, .bool false), (28, .bool false), (29, .int .i64 (((ln : Nat) : Int))), (30, .agg #[.int .i64 (((n : Nat) : Int)), .bool bg, .bool true]), (31, .int .i64 (((n * 8 - 1 : Nat) : Int))), (32, .bool false), (33, .bool false), (34, .tuple #[.agg #[.bool false, .slice o18_1 ((words F).length) o18_c1, .slice o18_2 1 o18_c2, .bool false, .slice o18_3 0 o18_c3, .slice o18_4 1 o18_c4], .int .i64 0]), (35, .agg #[.bool false, .slice o1 ((words x).length) c1, .slice o2 1 c2, .bool false, .slice o3 0 c3, .slice o4 1 c4]), (36, .pointer (some ⟨g2, 0, none⟩)), (37, .int .i64 (((n : Nat) : Int))), (38, .int .i64 (((n * 8 : Nat) : Int))), (39, .tuple #[.agg #[.bool false, .slice o18_1 ((words F).length) o18_c1, .slice o18_2 1 o18_c2, .bool false, .slice o18_3 0 o18_c3, .slice o18_4 1 o18_c4], .int .i64 0]), (40, .agg #[.bool false, .slice o18_1 ((words F).length) o18_c1, .slice o18_2 1 o18_c2, .bool false, .slice o18_3 0 o18_c3, .slice o18_4 1 o18_c4]), (41, .int .i64 0), (42, .pointer (some ⟨g2, 0, none⟩)), (43, .int .i64 (((n : Nat) : Int))), (44, .slice (some ⟨gx, 0, none⟩) n n), (45, .pointer (some ⟨g2, 0, none⟩)), (46, .int .i64 (((n : Nat) : Int))), (47, .pointer (some ⟨g20, 0, none⟩)), (48, .pointer (some ⟨g20, 1, none⟩)), (49, .slice o18_1 ((words F).length) o18_c1), (50, .int .i64 ((((words F).length : Nat) : Int))), (51, .int .i64 ((((words F).length * 4 : Nat) : Int))), (52, .int .i64 (((min n ((words F).length * 4) : Nat) : Int))), (53, .int .i64 (((i : Nat) : Int)))] ∧ Mg w w1 (.row BY 1 (.slice (some ⟨gx, 0, none⟩) n n) n ((Lib.byteCells (lbI n F i))) :: .obj g20 (.cells #[.bool false, .slice o18_1 ((words F).length) o18_c1, .slice o18_2 1 o18_c2, .bool false, .slice o18_3 0 o18_c3, .slice o18_4 1 o18_c4] 36) :: .obj g4 (.cells #[.bool false, .slice o1 ((words x).length) c1, .slice o2 1 c2, .bool false, .slice o3 0 c3, .slice o4 1 c4] 36) :: .obj g2 (.cells #[.int .i64 (((n : Nat) : Int)), .bool bg, .bool true] 39) :: [])) _ ⟨0, rfl, ⟨Nat.zero_le _, hn16.s1.rd⟩, hA.keep _ ⟨rfl, rfl, rfl, rfl, rfl, rfl, rfl, rfl, rfl, rfl, rfl, rfl, rfl, rfl, rfl, rfl, rfl, rfl, rfl, rfl, rfl, rfl, rfl, rfl, rfl, rfl, rfl, rfl, rfl, rfl, rfl, rfl, rfl, rfl, rfl, rfl, rfl, rfl, rfl, rfl, rfl, rfl, rfl, rfl, rfl, rfl, rfl, rfl, rfl, trivial⟩, hM⟩ ?_)))
  clear hM hA
  rintro m_ a w30 ⟨i, rfl, hinv32, hA, hM⟩ K31 hK31
  obtain ⟨hi9, hrdF⟩ := hinv32
  refine wsk fun K33 hK33 => wrl ?_
  rcases tf (decide (((i : Nat) : Int) < ((min n ((words F).length * 4) : Nat) : Int))) with hb34 | hb34
  ·
   have hb34' := of_decide_eq_true hb34
   refine sdo (v := .bool true) hA (qg rfl rfl (fun w => (zi w).trans (by rw [hb34]))) fun a hA => ?_
   refine qe (hK33 _ _ (wsk fun K35 hK35 => wp_cond_true (hA.ev rfl) ?_))
   refine wp_skip (hK35 _ _ (wsk fun K36 hK36 => wp_block (wsk fun K37 hK37 => wrl (sdo hA (qa rfl) fun a hA => ?_))))
   refine sdo hA (qb rfl) fun a hA => ?_
   refine qe (hK37 _ _ (wrl ?_))
   iterate 2 refine sdo hA (qa rfl) fun a hA => ?_
   refine sdo (v := .pointer (some ⟨g20, 0, none⟩)) hA (qh ByP_fld_36_0 rfl rfl) fun a hA => ?_
   refine sdo (v := .pointer (some ⟨g20, 1, none⟩)) hA (qh ByP_fld_34_1 rfl rfl) fun a hA => ?_
   refine sdo hA (zx hM ByP_is1_32 rfl 1 rfl rfl) fun a hA => ?_
   refine sdo hA (qa rfl) fun a hA => ?_
   refine sdo (v := .int .i64 (((i / 4 : Nat) : Int))) hA (qg rfl rfl (ar_quo (by decide) ((congrArg IntKind.i64.wrap (Int.tdiv_eq_ediv_of_nonneg (by omega))).trans ((in_i64 (by omega) (by omega)).trans (by omega))))) fun a hA => ?_
   have hj9 : i / 4 < (words F).length := by omega
   obtain ⟨bx38, ox39, hx40⟩ := hrdF.addr hj9
   refine sdo (v := .pointer (some ⟨bx38, ox39 + i / 4, none⟩)) hA (zk (k := i / 4) Tryz.underlying32 (by kernel_rfl) rfl rfl rfl hx40 hj9) fun a hA => ?_
   refine sdo (v := .int .u32 ((((words F).getD (i / 4) 0 : Nat) : Int))) hA (qoc (hrdF.at_ hx40 hj9) ByP_is1_51 rfl) fun a hA => ?_
   refine sdo hA (qa rfl) fun a hA => ?_
   refine sdo (v := .int .i64 (((i % 4 : Nat) : Int))) hA (qg rfl rfl (ar_rem (by decide) ((Int.tmod_eq_emod_of_nonneg (by omega)).trans (by omega)))) fun a hA => ?_
   refine sdo (v := .int .i64 (((i % 4 * 8 : Nat) : Int))) hA (qg rfl rfl (ar_mul ((in_i64 (by omega) (by omega)).trans (by omega)))) fun a hA => ?_
   refine sdo (v := .int .u32 ((((words F).getD (i / 4) 0 / 2 ^ (i % 4 * 8) : Nat) : Int))) hA (qg rfl rfl (ar_shr (n := i % 4 * 8) rfl (Nat.ble_eq_true_of_le (show i % 4 * 8 ≤ 32 by omega)) (by rw [Int.natCast_ediv, Int.natCast_pow]; rfl))) fun a hA => ?_
   refine sdo (v := .int .u8 (((F / 256 ^ i % 256 : Nat) : Int))) hA (zy rfl (ar_conv Tryz.underlying51 Tryz.underlying5 (by rw [← qoe]; exact qwh _))) fun a hA => ?_
   refine sdo (v := .pointer (some ⟨gx, (i) * 1, none⟩)) hA (jd Tryz.underlying22 (by kernel_rfl) rfl rfl rfl (show i < n by omega)) fun a hA => ?_
   refine xg (c := .int .u8 (((F / 256 ^ i % 256 : Nat) : Int))) (L' := (.row BY 1 (.slice (some ⟨gx, 0, none⟩) n n) n ((over (Lib.byteCells (lbI n F i)) ((i) * 1) [.int .u8 (((F / 256 ^ i % 256 : Nat) : Int))])) :: .obj g20 (.cells #[.bool false, .slice o18_1 ((words F).length) o18_c1, .slice o18_2 1 o18_c2, .bool false, .slice o18_3 0 o18_c3, .slice o18_4 1 o18_c4] 36) :: .obj g4 (.cells #[.bool false, .slice o1 ((words x).length) c1, .slice o2 1 c2, .bool false, .slice o3 0 c3, .slice o4 1 c4] 36) :: .obj g2 (.cells #[.int .i64 (((n : Nat) : Int)), .bool bg, .bool true] 39) :: [])) hA hM rfl rfl (jo rfl rfl rfl (by kernel_rfl) hM 0 rfl (show (i) * 1 + 1 ≤ n * 1 by omega) rfl) 0 rfl (jk (l := lbI n F i) (i := i) (by rw [xi]; omega)) rfl rfl ?_
   intro w41 hM hc42
   replace hrdF := hc42 _ _ hrdF
   replace hM : Mg w w41 (.row BY 1 (.slice (some ⟨gx, 0, none⟩) n n) n ((Lib.byteCells (lbI n F (i + 1)))) :: .obj g20 (.cells #[.bool false, .slice o18_1 ((words F).length) o18_c1, .slice o18_2 1 o18_c2, .bool false, .slice o18_3 0 o18_c3, .slice o18_4 1 o18_c4] 36) :: .obj g4 (.cells #[.bool false, .slice o1 ((words x).length) c1, .slice o2 1 c2, .bool false, .slice o3 0 c3, .slice o4 1 c4] 36) :: .obj g2 (.cells #[.int .i64 (((n : Nat) : Int)), .bool bg, .bool true] 39) :: []) := by
    have h9 := hM
    rw [qdc (by omega)] at h9
    exact h9
   refine qe (hK36 _ _ (wrl (sdo (v := .int .i64 (((i + 1 : Nat) : Int))) hA (qg rfl rfl (ar_add ((in_i64 (by omega) (by omega)).trans (by omega)))) fun a hA => ?_)))
   refine sdo hA (qa rfl) fun a hA => ?_
   refine qe ?_
   refine hK31 _ _ _ (by omega) ⟨i + 1, rfl, ⟨by omega, hrdF⟩, hA.keep _ ⟨rfl, rfl, rfl, rfl, rfl, rfl, rfl, rfl, rfl, rfl, rfl, rfl, rfl, rfl, rfl, rfl, rfl, rfl, rfl, rfl, rfl, rfl, rfl, rfl, rfl, rfl, rfl, rfl, rfl, rfl, rfl, rfl, rfl, rfl, rfl, rfl, rfl, rfl, rfl, rfl, rfl, rfl, rfl, rfl, rfl, rfl, rfl, rfl, rfl, trivial⟩, hM⟩
  ·
   have hb34' := of_decide_eq_false hb34
   refine sdo (v := .bool false) hA (qg rfl rfl (fun w => (zi w).trans (by rw [hb34]))) fun a hA => ?_
   refine qe (hK33 _ _ (wsk fun K43 hK43 => wp_cond_false (hA.ev rfl) ?_))
   refine wp_exit (hK28 _ _ (wsk fun K44 hK44 => wrl (sdo hA (jc hM ByP_isS_39 rfl 3 rfl (cs := [.int .i64 (((n : Nat) : Int)), .bool bg, .bool true]) rfl rfl) fun a hA => ?_)))
   refine sdo hA (qa rfl) fun a hA => ?_
   have hi8 : i = min n ((words F).length * 4) := by omega
   have hd8 := qjc hi8
   replace hM : Mg w w30 (.row BY 1 (.slice (some ⟨gx, 0, none⟩) n n) n ((Lib.byteCells (leB n F))) :: .obj g20 (.cells #[.bool false, .slice o18_1 ((words F).length) o18_c1, .slice o18_2 1 o18_c2, .bool false, .slice o18_3 0 o18_c3, .slice o18_4 1 o18_c4] 36) :: .obj g4 (.cells #[.bool false, .slice o1 ((words x).length) c1, .slice o2 1 c2, .bool false, .slice o3 0 c3, .slice o4 1 c4] 36) :: .obj g2 (.cells #[.int .i64 (((n : Nat) : Int)), .bool bg, .bool true] 39) :: []) := by
    have h9 := hM
    rw [hd8] at h9
    exact h9
   refine qi hA rfl rfl rfl (qf rfl rfl (fun w => by kernel_rfl)) ((by have h9 := yr bg (w := w30) (sg := true) (cp := n) (vl (bs := leB n F) hM 0 rfl).1 (by rw [yb]; omega); rw [yb] at h9; exact h9)) ?_
   rintro _ w47 ⟨g45, rfl, hM46⟩
   replace hM : Mg w w47 (.row BY 1 (.slice (some ⟨g45, 0, none⟩) n n) n ((Lib.byteCells (zw bg (leB n F)))) :: .row BY 1 (.slice (some ⟨gx, 0, none⟩) n n) n ((Lib.byteCells (leB n F))) :: .obj g20 (.cells #[.bool false, .slice o18_1 ((words F).length) o18_c1, .slice o18_2 1 o18_c2, .bool false, .slice o18_3 0 o18_c3, .slice o18_4 1 o18_c4] 36) :: .obj g4 (.cells #[.bool false, .slice o1 ((words x).length) c1, .slice o2 1 c2, .bool false, .slice o3 0 c3, .slice o4 1 c4] 36) :: .obj g2 (.cells #[.int .i64 (((n : Nat) : Int)), .bool bg, .bool true] 39) :: []) := (hM.both hM46 (qn (by simp) (qn (by simp) (qn (by simp) (qn (by simp) (qy zd))))) (qn (by simp) (qy zd)))
   refine ⟨_, rfl, ?_⟩
   intro a hA
   iterate 2 refine sdo hA (qb rfl) fun a hA => ?_
   refine qe (hK44 _ _ (wp_ret (hret _ _ (en2 hA rfl (ql rfl) (ql rfl) ?_))))
   exact ⟨g45, rfl, hM.sub (.cons_cons _ (.cons _ (.cons _ (.cons _ (.cons _ (.refl _))))))⟩
 ·
  refine sdo (v := .pointer (some ⟨g2, 2, none⟩)) hA (qh ByP_fld_39_2 rfl rfl) fun a hA => ?_
  refine sdo hA (zx hM ByP_is1_4 rfl 1 rfl rfl) fun a hA => ?_
  refine sdo (v := .bool false) hA (zp rfl zu) fun a hA => ?_
  refine sdo (v := .bool false) hA (qj rfl rfl rfl rfl) fun a hA => ?_
  iterate 2 refine sdo hA (qa rfl) fun a hA => ?_
  refine sdo hA (jc hM ByP_isS_39 rfl 1 rfl (cs := [.int .i64 (((n : Nat) : Int)), .bool bg, .bool true]) rfl rfl) fun a hA => ?_
  refine qi hA rfl rfl rfl (qf rfl rfl (fun w => by kernel_rfl)) (qba h1 h64) ?_
  rintro _ w49 ⟨rfl, hb48⟩
  replace hM := hM.call hb48
  refine ⟨_, rfl, ?_⟩
  intro a hA
  refine sdo (v := .bool false) hA (qg rfl rfl (fun w => (ja w).trans (by rw [show (decide (((n * 8 - 1 : Nat) : Int) < ((ln : Nat) : Int))) = false from (decide_eq_false (by omega))]))) fun a hA => ?_
  refine sdo (v := .bool false) hA (qj rfl rfl rfl rfl) fun a hA => ?_
  refine qe (hK12 _ _ (wp_cond_false (hA.ev rfl) ?_))
  refine wp_skip (hK11 _ _ (wsk fun K50 hK50 => wrl (sdo hA (jc hM ByP_isS_36 rfl 0 rfl (cs := [.bool true, .slice o1 ((words x).length) c1, .slice o2 1 c2, .bool false, .slice o3 0 c3, .slice o4 1 c4]) rfl rfl) fun a hA => ?_)))
  refine sdo (v := .pointer (some ⟨g2, 0, none⟩)) hA (qh ByP_fld_39_0 rfl rfl) fun a hA => ?_
  refine sdo hA (zx hM ByP_is1_3 rfl 1 rfl rfl) fun a hA => ?_
  refine sdo (v := .int .i64 (((n * 8 : Nat) : Int))) hA (qg rfl rfl (ar_mul ((in_i64 (by omega) (by omega)).trans (by omega)))) fun a hA => ?_
  refine qi hA rfl rfl rfl (qf rfl rfl (fun w => by kernel_rfl)) ((show Calls Tryz.prog 34 _ _ (AnsN _ (Q6.whole false F, 0)) from (by have h9 := uz (w := w49) (S := 0) (E := n * 8) (xa ha hM.bel) (jl hx) (by omega) (by omega) hw hx hbx; rw [qai hw (by omega) (by omega), Nat.sub_zero, hF] at h9; exact h9))) ?_
  rintro _ w54 ⟨o53_1, o53_c1, o53_2, o53_c2, o53_3, o53_c3, o53_4, o53_c4, rfl, hn51, hb52⟩
  replace hM := hM.call hb52
  refine ⟨_, rfl, ?_⟩
  intro a hA
  refine sdo hA (qa rfl) fun a hA => ?_
  iterate 2 refine sdo hA (qz (vs := [.agg #[.bool false, .slice o53_1 ((words F).length) o53_c1, .slice o53_2 1 o53_c2, .bool false, .slice o53_3 0 o53_c3, .slice o53_4 1 o53_c4], .int .i64 0]) rfl rfl) fun a hA => ?_
  refine qif (vs := [.bool false, .slice none 0 0, .slice none 0 0, .bool false, .slice none 0 0, .slice none 0 0]) (t := 36) hA hM rfl rfl rfl (fun g => .pointer (some ⟨g, 0, none⟩)) (qp (z := .agg #[.bool false, .slice none 0 0, .slice none 0 0, .bool false, .slice none 0 0, .slice none 0 0]) (by kernel_rfl) rfl) (by decide) ?_
  intro g55 w56 hM hc57 a hA
  replace hn51 := jv hn51 hc57
  refine yh (us := [.bool false, .slice o53_1 ((words F).length) o53_c1, .slice o53_2 1 o53_c2, .bool false, .slice o53_3 0 o53_c3, .slice o53_4 1 o53_c4]) (L' := (.obj g55 (.cells #[.bool false, .slice o53_1 ((words F).length) o53_c1, .slice o53_2 1 o53_c2, .bool false, .slice o53_3 0 o53_c3, .slice o53_4 1 o53_c4] 36) :: .obj g4 (.cells #[.bool true, .slice o1 ((words x).length) c1, .slice o2 1 c2, .bool false, .slice o3 0 c3, .slice o4 1 c4] 36) :: .obj g2 (.cells #[.int .i64 (((n : Nat) : Int)), .bool bg, .bool true] 39) :: [])) hA hM rfl rfl (jz rfl rfl rfl (by kernel_rfl) hM 0 rfl rfl rfl) 0 rfl rfl rfl rfl rfl rfl ?_
  intro w58 hM hc59
  replace hn51 := jv hn51 hc59
  refine sdo hA (qb rfl) fun a hA => ?_
  refine qe (hK50 _ _ (wsk fun K60 hK60 => wrl (sdo (v := .pointer (some ⟨g2, 0, none⟩)) hA (qh ByP_fld_39_0 rfl rfl) fun a hA => ?_)))
  refine sdo hA (zx hM ByP_is1_3 rfl 2 rfl rfl) fun a hA => ?_
  refine qaj (z := .int .u8 0) (sz := 1) (by_ := 1) (m := n) hA hM Tryz.underlying22 (by kernel_rfl) rfl rfl rfl rfl rfl rfl (by omega) (by omega) (.inr (qn (by simp) (qn (by simp) (qn (by simp) (qy zd))))) ?_
  intro gx w61 hM hc62 a hA
  replace hn51 := jv hn51 hc62
  rw [qaa n F] at hM
  refine sdo hA (qb rfl) fun a hA => ?_
  refine qe (hK60 _ _ (wsk fun K63 hK63 => wsk fun K64 hK64 => wrl (sdo (v := .pointer (some ⟨g2, 0, none⟩)) hA (qh ByP_fld_39_0 rfl rfl) fun a hA => ?_)))
  refine sdo hA (zx hM ByP_is1_3 rfl 3 rfl rfl) fun a hA => ?_
  refine sdo (v := .pointer (some ⟨g55, 0, none⟩)) hA (qh ByP_fld_36_0 rfl rfl) fun a hA => ?_
  refine sdo (v := .pointer (some ⟨g55, 1, none⟩)) hA (qh ByP_fld_34_1 rfl rfl) fun a hA => ?_
  refine sdo hA (zx hM ByP_is1_32 rfl 1 rfl rfl) fun a hA => ?_
  refine sdo hA (zb Tryz.underlying32 rfl) fun a hA => ?_
  refine sdo (v := .int .i64 ((((words F).length * 4 : Nat) : Int))) hA (qg rfl rfl (ar_mul ((in_i64 (by omega) (by omega)).trans (by omega)))) fun a hA => ?_
  refine sdo (v := .int .i64 (((min n ((words F).length * 4) : Nat) : Int))) hA (vz rfl qod) fun a hA => ?_
  refine sdo hA (qa rfl) fun a hA => ?_
  refine qe (hK64 _ _ (wp_block (jb (fun m_ a w1 => ∃ (i : Nat), m_ = n - i ∧ (i ≤ min n ((words F).length * 4) ∧ Rd w1 o53_1 (words F)) ∧ Sl a 75 [(0, .agg #[.int .i64 (((n : Nat) : Int)), .bool bg, .bool true]), (1, .agg #[.bool true, .slice o1 ((words x).length) c1, .slice o2 1 c2, .bool false, .slice o3 0 c3, .slice o4 1 c4]), (2, .pointer (some ⟨g2, 0, none⟩)), (3, .pointer (some ⟨g4, 0, none⟩)), (4, .slice none 0 0), (5, .int .i64 0), (6, .int .i64 (((ln : Nat) : Int))), (7, .int .i64 0), (8, .pointer (some ⟨g55, 0, none⟩)), (9, .int .i64 0), (10, .slice (some ⟨gx, 0, none⟩) n n), (12, .tuple #[.int .i64 (((ln : Nat) : Int)), .int .i64 0]), (13, .agg #[.bool true, .slice o1 ((words x).length) c1, .slice o2 1 c2, .bool false, .slice o3 0 c3, .slice o4 1 c4]), (14, .tuple #[.int .i64 (((ln : Nat) : Int)), .int .i64 0]), (15, .int .i64 (((ln : Nat) : Int))), (16, .int .i64 0), (17, .int .i64 0), (18, .bool false), (20, .pointer (some ⟨g4, 0, none⟩)), (21, .pointer (some ⟨g4, 0, none⟩)), (22, .bool true), (23, .bool true), (24, .pointer (some ⟨g2, 2, none⟩)), (25, .bool true), (26, .bool false), (27, .bool false), (28, .bool false), (29, .int .i64 (((ln : Nat) : Int))), (30, .agg #[.int .i64 (((n : Nat) : Int)), .bool bg, .bool true]), (31, .int .i64 (((n * 8 - 1 : Nat) : Int))), (32, .bool false), (33, .bool false), (34, .tuple #[.agg #[.bool false, .slice o53_1 ((words F).length) o53_c1, .slice o53_2 1 o53_c2, .bool false, .slice o53_3 0 o53_c3, .slice o53_4 1 o53_c4], .int .i64 0]), (35, .agg #[.bool true, .slice o1 ((words x).length) c1, .slice o2 1 c2, .bool false, .slice o3 0 c3, .slice o4 1 c4]), (36, .pointer (some ⟨g2, 0, none⟩)), (37, .int .i64 (((n : Nat) : Int))), (38, .int .i64 (((n * 8 : Nat) : Int))), (39, .tuple #[.agg #[.bool false, .slice o53_1 ((words F).length) o53_c1, .slice o53_2 1 o53_c2, .bool false, .slice o53_3 0 o53_c3, .slice o53_4 1 o53_c4], .int .i64 0]), (40, .agg #[.bool false, .slice o53_1 ((words F).length) o53_c1, .slice o53_2 1 o53_c2, .bool false, .slice o53_3 0 o53_c3, .slice o53_4 1 o53_c4]), (41, .int .i64 0), (42, .pointer (some ⟨g2, 0, none⟩)), (43, .int .i64 (((n : Nat) : Int))), (44, .slice (some ⟨gx, 0, none⟩) n n), (45, .pointer (some ⟨g2, 0, none⟩)), (46, .int .i64 (((n : Nat) : Int))), (47, .pointer (some ⟨g55, 0, none⟩)), (48, .pointer (some ⟨g55, 1, none⟩)), (49, .slice o53_1 ((words F).length) o53_c1), (50, .int .i64 ((((words F).length : Nat) : Int))), (51, .int .i64 ((((words F).length * 4 : Nat) : Int))), (52, .int .i64 (((min n ((words F).length * 4) : Nat) : Int))), (53, .int .i64 (((i : Nat) : Int)))] ∧ Mg w w1 (.row BY 1 (.slice (some ⟨gx, 0, none⟩) n n) n ((Lib.byteCells (lbI n F i))) :: .obj g55 (.cells #[.bool false, .slice o53_1 ((words F).length) o53_c1, .slice o53_2 1 o53_c2, .bool false, .slice o53_3 0 o53_c3, .slice o53_4 1 o53_c4] 36) :: .obj g4 (.cells #[.bool true, .slice o1 ((words x).length) c1, .slice o2 1 c2, .bool false, .slice o3 0 c3, .slice o4 1 c4] 36) :: .obj g2 (.cells #[.int .i64 (((n : Nat) : Int)), .bool bg, .bool true] 39) :: [])) _ ⟨0, rfl, ⟨Nat.zero_le _, hn51.s1.rd⟩, hA.keep _ ⟨rfl, rfl, rfl, rfl, rfl, rfl, rfl, rfl, rfl, rfl, rfl, rfl, rfl, rfl, rfl, rfl, rfl, rfl, rfl, rfl, rfl, rfl, rfl, rfl, rfl, rfl, rfl, rfl, rfl, rfl, rfl, rfl, rfl, rfl, rfl, rfl, rfl, rfl, rfl, rfl, rfl, rfl, rfl, rfl, rfl, rfl, rfl, rfl, rfl, rfl, rfl, rfl, trivial⟩, hM⟩ ?_)))
  clear hM hA
  rintro m_ a w65 ⟨i, rfl, hinv67, hA, hM⟩ K66 hK66
  obtain ⟨hi9, hrdF⟩ := hinv67
  refine wsk fun K68 hK68 => wrl ?_
  rcases tf (decide (((i : Nat) : Int) < ((min n ((words F).length * 4) : Nat) : Int))) with hb69 | hb69
  ·
   have hb69' := of_decide_eq_true hb69
   refine sdo (v := .bool true) hA (qg rfl rfl (fun w => (zi w).trans (by rw [hb69]))) fun a hA => ?_
   refine qe (hK68 _ _ (wsk fun K70 hK70 => wp_cond_true (hA.ev rfl) ?_))
   refine wp_skip (hK70 _ _ (wsk fun K71 hK71 => wp_block (wsk fun K72 hK72 => wrl (sdo hA (qa rfl) fun a hA => ?_))))
   refine sdo hA (qb rfl) fun a hA => ?_
   refine qe (hK72 _ _ (wrl ?_))
   iterate 2 refine sdo hA (qa rfl) fun a hA => ?_
   refine sdo (v := .pointer (some ⟨g55, 0, none⟩)) hA (qh ByP_fld_36_0 rfl rfl) fun a hA => ?_
   refine sdo (v := .pointer (some ⟨g55, 1, none⟩)) hA (qh ByP_fld_34_1 rfl rfl) fun a hA => ?_
   refine sdo hA (zx hM ByP_is1_32 rfl 1 rfl rfl) fun a hA => ?_
   refine sdo hA (qa rfl) fun a hA => ?_
   refine sdo (v := .int .i64 (((i / 4 : Nat) : Int))) hA (qg rfl rfl (ar_quo (by decide) ((congrArg IntKind.i64.wrap (Int.tdiv_eq_ediv_of_nonneg (by omega))).trans ((in_i64 (by omega) (by omega)).trans (by omega))))) fun a hA => ?_
   have hj9 : i / 4 < (words F).length := by omega
   obtain ⟨bx73, ox74, hx75⟩ := hrdF.addr hj9
   refine sdo (v := .pointer (some ⟨bx73, ox74 + i / 4, none⟩)) hA (zk (k := i / 4) Tryz.underlying32 (by kernel_rfl) rfl rfl rfl hx75 hj9) fun a hA => ?_
   refine sdo (v := .int .u32 ((((words F).getD (i / 4) 0 : Nat) : Int))) hA (qoc (hrdF.at_ hx75 hj9) ByP_is1_51 rfl) fun a hA => ?_
   refine sdo hA (qa rfl) fun a hA => ?_
   refine sdo (v := .int .i64 (((i % 4 : Nat) : Int))) hA (qg rfl rfl (ar_rem (by decide) ((Int.tmod_eq_emod_of_nonneg (by omega)).trans (by omega)))) fun a hA => ?_
   refine sdo (v := .int .i64 (((i % 4 * 8 : Nat) : Int))) hA (qg rfl rfl (ar_mul ((in_i64 (by omega) (by omega)).trans (by omega)))) fun a hA => ?_
   refine sdo (v := .int .u32 ((((words F).getD (i / 4) 0 / 2 ^ (i % 4 * 8) : Nat) : Int))) hA (qg rfl rfl (ar_shr (n := i % 4 * 8) rfl (Nat.ble_eq_true_of_le (show i % 4 * 8 ≤ 32 by omega)) (by rw [Int.natCast_ediv, Int.natCast_pow]; rfl))) fun a hA => ?_
   refine sdo (v := .int .u8 (((F / 256 ^ i % 256 : Nat) : Int))) hA (zy rfl (ar_conv Tryz.underlying51 Tryz.underlying5 (by rw [← qoe]; exact qwh _))) fun a hA => ?_
   refine sdo (v := .pointer (some ⟨gx, (i) * 1, none⟩)) hA (jd Tryz.underlying22 (by kernel_rfl) rfl rfl rfl (show i < n by omega)) fun a hA => ?_
   refine xg (c := .int .u8 (((F / 256 ^ i % 256 : Nat) : Int))) (L' := (.row BY 1 (.slice (some ⟨gx, 0, none⟩) n n) n ((over (Lib.byteCells (lbI n F i)) ((i) * 1) [.int .u8 (((F / 256 ^ i % 256 : Nat) : Int))])) :: .obj g55 (.cells #[.bool false, .slice o53_1 ((words F).length) o53_c1, .slice o53_2 1 o53_c2, .bool false, .slice o53_3 0 o53_c3, .slice o53_4 1 o53_c4] 36) :: .obj g4 (.cells #[.bool true, .slice o1 ((words x).length) c1, .slice o2 1 c2, .bool false, .slice o3 0 c3, .slice o4 1 c4] 36) :: .obj g2 (.cells #[.int .i64 (((n : Nat) : Int)), .bool bg, .bool true] 39) :: [])) hA hM rfl rfl (jo rfl rfl rfl (by kernel_rfl) hM 0 rfl (show (i) * 1 + 1 ≤ n * 1 by omega) rfl) 0 rfl (jk (l := lbI n F i) (i := i) (by rw [xi]; omega)) rfl rfl ?_
   intro w76 hM hc77
   replace hrdF := hc77 _ _ hrdF
   replace hM : Mg w w76 (.row BY 1 (.slice (some ⟨gx, 0, none⟩) n n) n ((Lib.byteCells (lbI n F (i + 1)))) :: .obj g55 (.cells #[.bool false, .slice o53_1 ((words F).length) o53_c1, .slice o53_2 1 o53_c2, .bool false, .slice o53_3 0 o53_c3, .slice o53_4 1 o53_c4] 36) :: .obj g4 (.cells #[.bool true, .slice o1 ((words x).length) c1, .slice o2 1 c2, .bool false, .slice o3 0 c3, .slice o4 1 c4] 36) :: .obj g2 (.cells #[.int .i64 (((n : Nat) : Int)), .bool bg, .bool true] 39) :: []) := by
    have h9 := hM
    rw [qdc (by omega)] at h9
    exact h9
   refine qe (hK71 _ _ (wrl (sdo (v := .int .i64 (((i + 1 : Nat) : Int))) hA (qg rfl rfl (ar_add ((in_i64 (by omega) (by omega)).trans (by omega)))) fun a hA => ?_)))
   refine sdo hA (qa rfl) fun a hA => ?_
   refine qe ?_
   refine hK66 _ _ _ (by omega) ⟨i + 1, rfl, ⟨by omega, hrdF⟩, hA.keep _ ⟨rfl, rfl, rfl, rfl, rfl, rfl, rfl, rfl, rfl, rfl, rfl, rfl, rfl, rfl, rfl, rfl, rfl, rfl, rfl, rfl, rfl, rfl, rfl, rfl, rfl, rfl, rfl, rfl, rfl, rfl, rfl, rfl, rfl, rfl, rfl, rfl, rfl, rfl, rfl, rfl, rfl, rfl, rfl, rfl, rfl, rfl, rfl, rfl, rfl, rfl, rfl, rfl, trivial⟩, hM⟩
  ·
   have hb69' := of_decide_eq_false hb69
   refine sdo (v := .bool false) hA (qg rfl rfl (fun w => (zi w).trans (by rw [hb69]))) fun a hA => ?_
   refine qe (hK68 _ _ (wsk fun K78 hK78 => wp_cond_false (hA.ev rfl) ?_))
   refine wp_exit (hK63 _ _ (wsk fun K79 hK79 => wrl (sdo hA (jc hM ByP_isS_39 rfl 3 rfl (cs := [.int .i64 (((n : Nat) : Int)), .bool bg, .bool true]) rfl rfl) fun a hA => ?_)))
   refine sdo hA (qa rfl) fun a hA => ?_
   have hi8 : i = min n ((words F).length * 4) := by omega
   have hd8 := qjc hi8
   replace hM : Mg w w65 (.row BY 1 (.slice (some ⟨gx, 0, none⟩) n n) n ((Lib.byteCells (leB n F))) :: .obj g55 (.cells #[.bool false, .slice o53_1 ((words F).length) o53_c1, .slice o53_2 1 o53_c2, .bool false, .slice o53_3 0 o53_c3, .slice o53_4 1 o53_c4] 36) :: .obj g4 (.cells #[.bool true, .slice o1 ((words x).length) c1, .slice o2 1 c2, .bool false, .slice o3 0 c3, .slice o4 1 c4] 36) :: .obj g2 (.cells #[.int .i64 (((n : Nat) : Int)), .bool bg, .bool true] 39) :: []) := by
    have h9 := hM
    rw [hd8] at h9
    exact h9
   refine qi hA rfl rfl rfl (qf rfl rfl (fun w => by kernel_rfl)) ((by have h9 := yr bg (w := w65) (sg := true) (cp := n) (vl (bs := leB n F) hM 0 rfl).1 (by rw [yb]; omega); rw [yb] at h9; exact h9)) ?_
   rintro _ w82 ⟨g80, rfl, hM81⟩
   replace hM : Mg w w82 (.row BY 1 (.slice (some ⟨g80, 0, none⟩) n n) n ((Lib.byteCells (zw bg (leB n F)))) :: .row BY 1 (.slice (some ⟨gx, 0, none⟩) n n) n ((Lib.byteCells (leB n F))) :: .obj g55 (.cells #[.bool false, .slice o53_1 ((words F).length) o53_c1, .slice o53_2 1 o53_c2, .bool false, .slice o53_3 0 o53_c3, .slice o53_4 1 o53_c4] 36) :: .obj g4 (.cells #[.bool true, .slice o1 ((words x).length) c1, .slice o2 1 c2, .bool false, .slice o3 0 c3, .slice o4 1 c4] 36) :: .obj g2 (.cells #[.int .i64 (((n : Nat) : Int)), .bool bg, .bool true] 39) :: []) := (hM.both hM81 (qn (by simp) (qn (by simp) (qn (by simp) (qn (by simp) (qy zd))))) (qn (by simp) (qy zd)))
   refine ⟨_, rfl, ?_⟩
   intro a hA
   iterate 2 refine sdo hA (qb rfl) fun a hA => ?_
   refine qe (hK79 _ _ (wp_ret (hret _ _ (en2 hA rfl (ql rfl) (ql rfl) ?_))))
   exact ⟨g80, rfl, hM.sub (.cons_cons _ (.cons _ (.cons _ (.cons _ (.cons _ (.refl _))))))⟩
theorem qkj {w : World} {b : Bool} {x n : Nat} {o1 o2 o3 o4 : Option Addr} {c1 c2 c3 c4 : Nat} (ha : Nm w (Q6.whole b x) o1 c1 o2 c2 o3 c3 o4 c4) (hx : (words x).length ≤ 512) (hbx : b.toNat ≤ x) (h1 : 1 ≤ n) (h64 : n ≤ 64) (bg : Bool) {F ln : Nat} (hF : fld b (x - b.toNat) 0 (n * 8) = F) (hln : bl (x - b.toNat) = ln) (hroom : ln ≤ n * 8) (hneg : b = false) : Calls Tryz.prog 14 #[.agg #[.int .i64 ((n : Nat) : Int), .bool bg, .bool false], xy (Q6.whole b x) o1 c1 o2 c2 o3 c3 o4 c4] w fun e w' => ∃ g, e = .returned (.tuple #[.slice (some ⟨g, 0, none⟩) n n, .int .i64 0]) ∧ Mg w w' [.row BY 1 (.slice (some ⟨g, 0, none⟩) n n) n (Lib.byteCells (zw bg (leB n F)))] := by
 have hw := qhg hx hbx
 subst hneg
 have hwl : (words F).length ≤ 512 := by rw [← hF]; exact qwf (by omega)
 have hM : Mg w w ([]) := Mg.start w
 refine za (l := [(0, .agg #[.int .i64 (((n : Nat) : Int)), .bool bg, .bool false]), (1, .agg #[.bool false, .slice o1 ((words x).length) c1, .slice o2 1 c2, .bool false, .slice o3 0 c3, .slice o4 1 c4])]) Tryz.func14 rfl Tryz.ntmps14 rfl rfl ?_
 intro Q hret hnorm hP a hA
 refine wsk fun K1 hK1 => wrl (xr (vs := [.int .i64 (((n : Nat) : Int)), .bool bg, .bool false]) (t := 39) hA hM rfl rfl rfl (fun g => .pointer (some ⟨g, 0, none⟩)) (zf rfl rfl) (by decide) ?_)
 intro g2 w3 hM a hA
 refine xr (vs := [.bool false, .slice o1 ((words x).length) c1, .slice o2 1 c2, .bool false, .slice o3 0 c3, .slice o4 1 c4]) (t := 36) hA hM rfl rfl rfl (fun g => .pointer (some ⟨g, 0, none⟩)) (zf rfl rfl) (by decide) ?_
 intro g4 w5 hM a hA
 iterate 2 refine sdo hA (qb rfl) fun a hA => ?_
 refine qe (hK1 _ _ (wsk fun K6 hK6 => wrl (sdo hA (jc hM ByP_isS_36 rfl 0 rfl (cs := [.bool false, .slice o1 ((words x).length) c1, .slice o2 1 c2, .bool false, .slice o3 0 c3, .slice o4 1 c4]) rfl rfl) fun a hA => ?_)))
 refine qi hA rfl rfl rfl (qf rfl rfl (fun w => by kernel_rfl)) ((by have h9 := ya (w := w5) (xa ha hM.bel) (jl hx) hw hx hbx; rw [vr hw, hln] at h9; exact h9)) ?_
 rintro _ w8 ⟨rfl, hb7⟩
 replace hM := hM.call hb7
 refine ⟨_, rfl, ?_⟩
 intro a hA
 refine sdo hA (qa rfl) fun a hA => ?_
 iterate 2 refine sdo hA (qz (vs := [.int .i64 (((ln : Nat) : Int)), .int .i64 0]) rfl rfl) fun a hA => ?_
 iterate 2 refine sdo hA (qb rfl) fun a hA => ?_
 refine qe (hK6 _ _ (wsk fun K9 hK9 => wsk fun K10 hK10 => wrl (sdo hA (qa rfl) fun a hA => ?_)))
 refine sdo (v := .bool false) hA (qg rfl rfl (fun w => by kernel_rfl)) fun a hA => ?_
 refine qe (hK10 _ _ (wp_cond_false (hA.ev rfl) ?_))
 refine wp_skip (hK9 _ _ (wsk fun K11 hK11 => wsk fun K12 hK12 => wrl (sdo (v := .pointer (some ⟨g4, 0, none⟩)) hA (qh ByP_fld_36_0 rfl rfl) fun a hA => ?_)))
 refine sdo (v := .pointer (some ⟨g4, 0, none⟩)) hA (qh ByP_fld_34_0 rfl rfl) fun a hA => ?_
 refine sdo hA (zx hM ByP_is1_4 rfl 0 rfl rfl) fun a hA => ?_
 refine sdo hA (qa rfl) fun a hA => ?_
 iterate 3 refine zg hA rfl rfl rfl fun a hA => ?_
 refine sdo (v := .bool false) hA (qj rfl rfl rfl rfl) fun a hA => ?_
 iterate 2 refine sdo hA (qa rfl) fun a hA => ?_
 refine sdo hA (jc hM ByP_isS_39 rfl 1 rfl (cs := [.int .i64 (((n : Nat) : Int)), .bool bg, .bool false]) rfl rfl) fun a hA => ?_
 refine qi hA rfl rfl rfl (qf rfl rfl (fun w => by kernel_rfl)) (qjd h1 h64) ?_
 rintro _ w14 ⟨rfl, hb13⟩
 replace hM := hM.call hb13
 refine ⟨_, rfl, ?_⟩
 intro a hA
 refine sdo (v := .bool false) hA (qg rfl rfl (fun w => (ja w).trans (by rw [show (decide (((n * 8 : Nat) : Int) < ((ln : Nat) : Int))) = false from (decide_eq_false (by omega))]))) fun a hA => ?_
 refine sdo (v := .bool false) hA (qj rfl rfl rfl rfl) fun a hA => ?_
 refine qe (hK12 _ _ (wp_cond_false (hA.ev rfl) ?_))
 refine wp_skip (hK11 _ _ (wsk fun K15 hK15 => wrl (sdo hA (jc hM ByP_isS_36 rfl 0 rfl (cs := [.bool false, .slice o1 ((words x).length) c1, .slice o2 1 c2, .bool false, .slice o3 0 c3, .slice o4 1 c4]) rfl rfl) fun a hA => ?_)))
 refine sdo (v := .pointer (some ⟨g2, 0, none⟩)) hA (qh ByP_fld_39_0 rfl rfl) fun a hA => ?_
 refine sdo hA (zx hM ByP_is1_3 rfl 1 rfl rfl) fun a hA => ?_
 refine sdo (v := .int .i64 (((n * 8 : Nat) : Int))) hA (qg rfl rfl (ar_mul ((in_i64 (by omega) (by omega)).trans (by omega)))) fun a hA => ?_
 refine qi hA rfl rfl rfl (qf rfl rfl (fun w => by kernel_rfl)) ((show Calls Tryz.prog 34 _ _ (AnsN _ (Q6.whole false F, 0)) from (by have h9 := uz (w := w14) (S := 0) (E := n * 8) (xa ha hM.bel) (jl hx) (by omega) (by omega) hw hx hbx; rw [qai hw (by omega) (by omega), Nat.sub_zero, hF] at h9; exact h9))) ?_
 rintro _ w19 ⟨o18_1, o18_c1, o18_2, o18_c2, o18_3, o18_c3, o18_4, o18_c4, rfl, hn16, hb17⟩
 replace hM := hM.call hb17
 refine ⟨_, rfl, ?_⟩
 intro a hA
 refine sdo hA (qa rfl) fun a hA => ?_
 iterate 2 refine sdo hA (qz (vs := [.agg #[.bool false, .slice o18_1 ((words F).length) o18_c1, .slice o18_2 1 o18_c2, .bool false, .slice o18_3 0 o18_c3, .slice o18_4 1 o18_c4], .int .i64 0]) rfl rfl) fun a hA => ?_
 refine qif (vs := [.bool false, .slice none 0 0, .slice none 0 0, .bool false, .slice none 0 0, .slice none 0 0]) (t := 36) hA hM rfl rfl rfl (fun g => .pointer (some ⟨g, 0, none⟩)) (qp (z := .agg #[.bool false, .slice none 0 0, .slice none 0 0, .bool false, .slice none 0 0, .slice none 0 0]) (by kernel_rfl) rfl) (by decide) ?_
 intro g20 w21 hM hc22 a hA
 replace hn16 := jv hn16 hc22
 refine yh (us := [.bool false, .slice o18_1 ((words F).length) o18_c1, .slice o18_2 1 o18_c2, .bool false, .slice o18_3 0 o18_c3, .slice o18_4 1 o18_c4]) (L' := (.obj g20 (.cells #[.bool false, .slice o18_1 ((words F).length) o18_c1, .slice o18_2 1 o18_c2, .bool false, .slice o18_3 0 o18_c3, .slice o18_4 1 o18_c4] 36) :: .obj g4 (.cells #[.bool false, .slice o1 ((words x).length) c1, .slice o2 1 c2, .bool false, .slice o3 0 c3, .slice o4 1 c4] 36) :: .obj g2 (.cells #[.int .i64 (((n : Nat) : Int)), .bool bg, .bool false] 39) :: [])) hA hM rfl rfl (jz rfl rfl rfl (by kernel_rfl) hM 0 rfl rfl rfl) 0 rfl rfl rfl rfl rfl rfl ?_
 intro w23 hM hc24
 replace hn16 := jv hn16 hc24
 refine sdo hA (qb rfl) fun a hA => ?_
 refine qe (hK15 _ _ (wsk fun K25 hK25 => wrl (sdo (v := .pointer (some ⟨g2, 0, none⟩)) hA (qh ByP_fld_39_0 rfl rfl) fun a hA => ?_)))
 refine sdo hA (zx hM ByP_is1_3 rfl 2 rfl rfl) fun a hA => ?_
 refine qaj (z := .int .u8 0) (sz := 1) (by_ := 1) (m := n) hA hM Tryz.underlying22 (by kernel_rfl) rfl rfl rfl rfl rfl rfl (by omega) (by omega) (.inr (qn (by simp) (qn (by simp) (qn (by simp) (qy zd))))) ?_
 intro gx w26 hM hc27 a hA
 replace hn16 := jv hn16 hc27
 rw [qaa n F] at hM
 refine sdo hA (qb rfl) fun a hA => ?_
 refine qe (hK25 _ _ (wsk fun K28 hK28 => wsk fun K29 hK29 => wrl (sdo (v := .pointer (some ⟨g2, 0, none⟩)) hA (qh ByP_fld_39_0 rfl rfl) fun a hA => ?_)))
 refine sdo hA (zx hM ByP_is1_3 rfl 3 rfl rfl) fun a hA => ?_
 refine sdo (v := .pointer (some ⟨g20, 0, none⟩)) hA (qh ByP_fld_36_0 rfl rfl) fun a hA => ?_
 refine sdo (v := .pointer (some ⟨g20, 1, none⟩)) hA (qh ByP_fld_34_1 rfl rfl) fun a hA => ?_
 refine sdo hA (zx hM ByP_is1_32 rfl 1 rfl rfl) fun a hA => ?_
 refine sdo hA (zb Tryz.underlying32 rfl) fun a hA => ?_
 refine sdo (v := .int .i64 ((((words F).length * 4 : Nat) : Int))) hA (qg rfl rfl (ar_mul ((in_i64 (by omega) (by omega)).trans (by omega)))) fun a hA => ?_
 refine sdo (v := .int .i64 (((min n ((words F).length * 4) : Nat) : Int))) hA (vz rfl qod) fun a hA => ?_
 refine sdo hA (qa rfl) fun a hA => ?_
 refine qe (hK29 _ _ (wp_block (jb (fun m_ a w1 => ∃ (i : Nat), m_ = n - i ∧ (i ≤ min n ((words F).length * 4) ∧ Rd w1 o18_1 (words F)) ∧ Sl a 75 [(0, .agg #[.int .i64 (((n : Nat) : Int)), .bool bg, .bool false]), (1, .agg #[.bool false, .slice o1 ((words x).length) c1, .slice o2 1 c2, .bool false, .slice o3 0 c3, .slice o4 1 c4]), (2, .pointer (some ⟨g2, 0, none⟩)), (3, .pointer (some ⟨g4, 0, none⟩)), (4, .slice none 0 0), (5, .int .i64 0), (6, .int .i64 (((ln : Nat) : Int))), (7, .int .i64 0), (8, .pointer (some ⟨g20, 0, none⟩)), (9, .int .i64 0), (10, .slice (some ⟨gx, 0, none⟩) n n), (12, .tuple #[.int .i64 (((ln : Nat) : Int)), .int .i64 0]), (13, .agg #[.bool false, .slice o1 ((words x).length) c1, .slice o2 1 c2, .bool false, .slice o3 0 c3, .slice o4 1 c4]), (14, .tuple #[.int .i64 (((ln : Nat) : Int)), .int .i64 0]), (15, .int .i64 (((ln : Nat) : Int))), (16, .int .i64 0), (17, .int .i64 0), (18, .bool false), (20, .pointer (some ⟨g4, 0, none⟩)), (21, .pointer (some ⟨g4, 0, none⟩)), (22, .bool false), (23, .bool false), (27, .bool false), (28, .bool false), (29, .int .i64 (((ln : Nat) : Int))), (30, .agg #[.int .i64 (((n : Nat) : Int)), .bool bg, .bool false]), (31, .int .i64 (((n * 8 : Nat) : Int))), (32, .bool false), (33, .bool false), (34, .tuple #[.agg #[.bool false, .slice o18_1 ((words F).length) o18_c1, .slice o18_2 1 o18_c2, .bool false, .slice o18_3 0 o18_c3, .slice o18_4 1 o18_c4], .int .i64 0]), (35, .agg #[.bool false, .slice o1 ((words x).length) c1, .slice o2 1 c2, .bool false, .slice o3 0 c3, .slice o4 1 c4]), (36, .pointer (some ⟨g2, 0, none⟩)), (37, .int .i64 (((n : Nat) : Int))), (38, .int .i64 (((n * 8 : Nat) : Int))), (39, .tuple #[.agg #[.bool false, .slice o18_1 ((words F).length) o18_c1, .slice o18_2 1 o18_c2, .bool false, .slice o18_3 0 o18_c3, .slice o18_4 1 o18_c4], .int .i64 0]), (40, .agg #[.bool false, .slice o18_1 ((words F).length) o18_c1, .slice o18_2 1 o18_c2, .bool false, .slice o18_3 0 o18_c3, .slice o18_4 1 o18_c4]), (41, .int .i64 0), (42, .pointer (some ⟨g2, 0, none⟩)), (43, .int .i64 (((n : Nat) : Int))), (44, .slice (some ⟨gx, 0, none⟩) n n), (45, .pointer (some ⟨g2, 0, none⟩)), (46, .int .i64 (((n : Nat) : Int))), (47, .pointer (some ⟨g20, 0, none⟩)), (48, .pointer (some ⟨g20, 1, none⟩)), (49, .slice o18_1 ((words F).length) o18_c1), (50, .int .i64 ((((words F).length : Nat) : Int))), (51, .int .i64 ((((words F).length * 4 : Nat) : Int))), (52, .int .i64 (((min n ((words F).length * 4) : Nat) : Int))), (53, .int .i64 (((i : Nat) : Int)))] ∧ Mg w w1 (.row BY 1 (.slice (some ⟨gx, 0, none⟩) n n) n ((Lib.byteCells (lbI n F i))) :: .obj g20 (.cells #[.bool false, .slice o18_1 ((words F).length) o18_c1, .slice o18_2 1 o18_c2, .bool false, .slice o18_3 0 o18_c3, .slice o18_4 1 o18_c4] 36) :: .obj g4 (.cells #[.bool false, .slice o1 ((words x).length) c1, .slice o2 1 c2, .bool false, .slice o3 0 c3, .slice o4 1 c4] 36) :: .obj g2 (.cells #[.int .i64 (((n : Nat) : Int)), .bool bg, .bool false] 39) :: [])) _ ⟨0, rfl, ⟨Nat.zero_le _, hn16.s1.rd⟩, hA.keep _ ⟨rfl, rfl, rfl, rfl, rfl, rfl, rfl, rfl, rfl, rfl, rfl, rfl, rfl, rfl, rfl, rfl, rfl, rfl, rfl, rfl, rfl, rfl, rfl, rfl, rfl, rfl, rfl, rfl, rfl, rfl, rfl, rfl, rfl, rfl, rfl, rfl, rfl, rfl, rfl, rfl, rfl, rfl, rfl, rfl, rfl, rfl, rfl, rfl, rfl, trivial⟩, hM⟩ ?_)))
 clear hM hA
 rintro m_ a w30 ⟨i, rfl, hinv32, hA, hM⟩ K31 hK31
 obtain ⟨hi9, hrdF⟩ := hinv32
 refine wsk fun K33 hK33 => wrl ?_
 rcases tf (decide (((i : Nat) : Int) < ((min n ((words F).length * 4) : Nat) : Int))) with hb34 | hb34
 ·
  have hb34' := of_decide_eq_true hb34
  refine sdo (v := .bool true) hA (qg rfl rfl (fun w => (zi w).trans (by rw [hb34]))) fun a hA => ?_
  refine qe (hK33 _ _ (wsk fun K35 hK35 => wp_cond_true (hA.ev rfl) ?_))
  refine wp_skip (hK35 _ _ (wsk fun K36 hK36 => wp_block (wsk fun K37 hK37 => wrl (sdo hA (qa rfl) fun a hA => ?_))))
  refine sdo hA (qb rfl) fun a hA => ?_
  refine qe (hK37 _ _ (wrl ?_))
  iterate 2 refine sdo hA (qa rfl) fun a hA => ?_
  refine sdo (v := .pointer (some ⟨g20, 0, none⟩)) hA (qh ByP_fld_36_0 rfl rfl) fun a hA => ?_
  refine sdo (v := .pointer (some ⟨g20, 1, none⟩)) hA (qh ByP_fld_34_1 rfl rfl) fun a hA => ?_
  refine sdo hA (zx hM ByP_is1_32 rfl 1 rfl rfl) fun a hA => ?_
  refine sdo hA (qa rfl) fun a hA => ?_
  refine sdo (v := .int .i64 (((i / 4 : Nat) : Int))) hA (qg rfl rfl (ar_quo (by decide) ((congrArg IntKind.i64.wrap (Int.tdiv_eq_ediv_of_nonneg (by omega))).trans ((in_i64 (by omega) (by omega)).trans (by omega))))) fun a hA => ?_
  have hj9 : i / 4 < (words F).length := by omega
  obtain ⟨bx38, ox39, hx40⟩ := hrdF.addr hj9
  refine sdo (v := .pointer (some ⟨bx38, ox39 + i / 4, none⟩)) hA (zk (k := i / 4) Tryz.underlying32 (by kernel_rfl) rfl rfl rfl hx40 hj9) fun a hA => ?_
  refine sdo (v := .int .u32 ((((words F).getD (i / 4) 0 : Nat) : Int))) hA (qoc (hrdF.at_ hx40 hj9) ByP_is1_51 rfl) fun a hA => ?_
  refine sdo hA (qa rfl) fun a hA => ?_
  refine sdo (v := .int .i64 (((i % 4 : Nat) : Int))) hA (qg rfl rfl (ar_rem (by decide) ((Int.tmod_eq_emod_of_nonneg (by omega)).trans (by omega)))) fun a hA => ?_
  refine sdo (v := .int .i64 (((i % 4 * 8 : Nat) : Int))) hA (qg rfl rfl (ar_mul ((in_i64 (by omega) (by omega)).trans (by omega)))) fun a hA => ?_
  refine sdo (v := .int .u32 ((((words F).getD (i / 4) 0 / 2 ^ (i % 4 * 8) : Nat) : Int))) hA (qg rfl rfl (ar_shr (n := i % 4 * 8) rfl (Nat.ble_eq_true_of_le (show i % 4 * 8 ≤ 32 by omega)) (by rw [Int.natCast_ediv, Int.natCast_pow]; rfl))) fun a hA => ?_
  refine sdo (v := .int .u8 (((F / 256 ^ i % 256 : Nat) : Int))) hA (zy rfl (ar_conv Tryz.underlying51 Tryz.underlying5 (by rw [← qoe]; exact qwh _))) fun a hA => ?_
  refine sdo (v := .pointer (some ⟨gx, (i) * 1, none⟩)) hA (jd Tryz.underlying22 (by kernel_rfl) rfl rfl rfl (show i < n by omega)) fun a hA => ?_
  refine xg (c := .int .u8 (((F / 256 ^ i % 256 : Nat) : Int))) (L' := (.row BY 1 (.slice (some ⟨gx, 0, none⟩) n n) n ((over (Lib.byteCells (lbI n F i)) ((i) * 1) [.int .u8 (((F / 256 ^ i % 256 : Nat) : Int))])) :: .obj g20 (.cells #[.bool false, .slice o18_1 ((words F).length) o18_c1, .slice o18_2 1 o18_c2, .bool false, .slice o18_3 0 o18_c3, .slice o18_4 1 o18_c4] 36) :: .obj g4 (.cells #[.bool false, .slice o1 ((words x).length) c1, .slice o2 1 c2, .bool false, .slice o3 0 c3, .slice o4 1 c4] 36) :: .obj g2 (.cells #[.int .i64 (((n : Nat) : Int)), .bool bg, .bool false] 39) :: [])) hA hM rfl rfl (jo rfl rfl rfl (by kernel_rfl) hM 0 rfl (show (i) * 1 + 1 ≤ n * 1 by omega) rfl) 0 rfl (jk (l := lbI n F i) (i := i) (by rw [xi]; omega)) rfl rfl ?_
  intro w41 hM hc42
  replace hrdF := hc42 _ _ hrdF
  replace hM : Mg w w41 (.row BY 1 (.slice (some ⟨gx, 0, none⟩) n n) n ((Lib.byteCells (lbI n F (i + 1)))) :: .obj g20 (.cells #[.bool false, .slice o18_1 ((words F).length) o18_c1, .slice o18_2 1 o18_c2, .bool false, .slice o18_3 0 o18_c3, .slice o18_4 1 o18_c4] 36) :: .obj g4 (.cells #[.bool false, .slice o1 ((words x).length) c1, .slice o2 1 c2, .bool false, .slice o3 0 c3, .slice o4 1 c4] 36) :: .obj g2 (.cells #[.int .i64 (((n : Nat) : Int)), .bool bg, .bool false] 39) :: []) := by
   have h9 := hM
   rw [qdc (by omega)] at h9
   exact h9
  refine qe (hK36 _ _ (wrl (sdo (v := .int .i64 (((i + 1 : Nat) : Int))) hA (qg rfl rfl (ar_add ((in_i64 (by omega) (by omega)).trans (by omega)))) fun a hA => ?_)))
  refine sdo hA (qa rfl) fun a hA => ?_
  refine qe ?_
  refine hK31 _ _ _ (by omega) ⟨i + 1, rfl, ⟨by omega, hrdF⟩, hA.keep _ ⟨rfl, rfl, rfl, rfl, rfl, rfl, rfl, rfl, rfl, rfl, rfl, rfl, rfl, rfl, rfl, rfl, rfl, rfl, rfl, rfl, rfl, rfl, rfl, rfl, rfl, rfl, rfl, rfl, rfl, rfl, rfl, rfl, rfl, rfl, rfl, rfl, rfl, rfl, rfl, rfl, rfl, rfl, rfl, rfl, rfl, rfl, rfl, rfl, rfl, trivial⟩, hM⟩
 ·
  have hb34' := of_decide_eq_false hb34
  refine sdo (v := .bool false) hA (qg rfl rfl (fun w => (zi w).trans (by rw [hb34]))) fun a hA => ?_
  refine qe (hK33 _ _ (wsk fun K43 hK43 => wp_cond_false (hA.ev rfl) ?_))
  refine wp_exit (hK28 _ _ (wsk fun K44 hK44 => wrl (sdo hA (jc hM ByP_isS_39 rfl 3 rfl (cs := [.int .i64 (((n : Nat) : Int)), .bool bg, .bool false]) rfl rfl) fun a hA => ?_)))
  refine sdo hA (qa rfl) fun a hA => ?_
  have hi8 : i = min n ((words F).length * 4) := by omega
  have hd8 := qjc hi8
  replace hM : Mg w w30 (.row BY 1 (.slice (some ⟨gx, 0, none⟩) n n) n ((Lib.byteCells (leB n F))) :: .obj g20 (.cells #[.bool false, .slice o18_1 ((words F).length) o18_c1, .slice o18_2 1 o18_c2, .bool false, .slice o18_3 0 o18_c3, .slice o18_4 1 o18_c4] 36) :: .obj g4 (.cells #[.bool false, .slice o1 ((words x).length) c1, .slice o2 1 c2, .bool false, .slice o3 0 c3, .slice o4 1 c4] 36) :: .obj g2 (.cells #[.int .i64 (((n : Nat) : Int)), .bool bg, .bool false] 39) :: []) := by
   have h9 := hM
   rw [hd8] at h9
   exact h9
  refine qi hA rfl rfl rfl (qf rfl rfl (fun w => by kernel_rfl)) ((by have h9 := yr bg (w := w30) (sg := false) (cp := n) (vl (bs := leB n F) hM 0 rfl).1 (by rw [yb]; omega); rw [yb] at h9; exact h9)) ?_
  rintro _ w47 ⟨g45, rfl, hM46⟩
  replace hM : Mg w w47 (.row BY 1 (.slice (some ⟨g45, 0, none⟩) n n) n ((Lib.byteCells (zw bg (leB n F)))) :: .row BY 1 (.slice (some ⟨gx, 0, none⟩) n n) n ((Lib.byteCells (leB n F))) :: .obj g20 (.cells #[.bool false, .slice o18_1 ((words F).length) o18_c1, .slice o18_2 1 o18_c2, .bool false, .slice o18_3 0 o18_c3, .slice o18_4 1 o18_c4] 36) :: .obj g4 (.cells #[.bool false, .slice o1 ((words x).length) c1, .slice o2 1 c2, .bool false, .slice o3 0 c3, .slice o4 1 c4] 36) :: .obj g2 (.cells #[.int .i64 (((n : Nat) : Int)), .bool bg, .bool false] 39) :: []) := (hM.both hM46 (qn (by simp) (qn (by simp) (qn (by simp) (qn (by simp) (qy zd))))) (qn (by simp) (qy zd)))
  refine ⟨_, rfl, ?_⟩
  intro a hA
  iterate 2 refine sdo hA (qb rfl) fun a hA => ?_
  refine qe (hK44 _ _ (wp_ret (hret _ _ (en2 hA rfl (ql rfl) (ql rfl) ?_))))
  exact ⟨g45, rfl, hM.sub (.cons_cons _ (.cons _ (.cons _ (.cons _ (.cons _ (.refl _))))))⟩
end Go.Proofs.YtbhdnpbbmpemnaaGreatDoor.G
namespace Go.Proofs.YtbhdnpbbmpemnaaGreatDoor.G
open Go.RowKit
set_option linter.unusedVariables false
set_option linter.unusedSimpArgs false
set_option maxRecDepth 100000
theorem ByQ_is1_4 : Is1 Tryz.prog 4 := ⟨⟨_, Tryz.underlying4, rfl⟩, by kernel_rfl⟩
theorem ByQ_fld_34_0 : FieldAt Tryz.prog 34 0 0 := ⟨_, _, Tryz.underlying34, rfl, rfl, by kernel_rfl⟩
theorem ByQ_fld_36_0 : FieldAt Tryz.prog 36 0 0 := ⟨_, _, Tryz.underlying36, rfl, rfl, by kernel_rfl⟩
theorem ByQ_fld_39_2 : FieldAt Tryz.prog 39 2 2 := ⟨_, _, Tryz.underlying39, rfl, rfl, by kernel_rfl⟩
theorem ByQ_isS_36 : IsS Tryz.prog 36 6 := ⟨⟨_, Tryz.underlying36⟩, by kernel_rfl⟩
theorem ByQ_isS_39 : IsS Tryz.prog 39 3 := ⟨⟨_, Tryz.underlying39⟩, by kernel_rfl⟩
def zlh (n : Nat) (sg : Bool) : Nat := if sg = true then n * 8 - 1 else n * 8
theorem qje {w : World} {b : Bool} {x n : Nat} {o1 o2 o3 o4 : Option Addr} {c1 c2 c3 c4 : Nat} (ha : Nm w (Q6.whole b x) o1 c1 o2 c2 o3 c3 o4 c4) (hx : (words x).length ≤ 512) (hbx : b.toNat ≤ x) (h1 : 1 ≤ n) (h64 : n ≤ 64) (bg sg : Bool) {F ln : Nat} (hF : fld b (x - b.toNat) 0 (n * 8) = F) (hln : bl (x - b.toNat) = ln) (hroom : ln ≤ zlh n sg) (hneg : b = true → sg = true) : Calls Tryz.prog 14 #[.agg #[.int .i64 ((n : Nat) : Int), .bool bg, .bool sg], xy (Q6.whole b x) o1 c1 o2 c2 o3 c3 o4 c4] w fun e w' => ∃ g, e = .returned (.tuple #[.slice (some ⟨g, 0, none⟩) n n, .int .i64 0]) ∧ Mg w w' [.row BY 1 (.slice (some ⟨g, 0, none⟩) n n) n (Lib.byteCells (zw bg (leB n F)))] := by
 cases sg
 ·
  have hb0 : b = false := by cases b; rfl; exact absurd (hneg rfl) (by decide)
  exact qkj ha hx hbx h1 h64 bg hF hln hroom hb0
 ·
  exact qof ha hx hbx h1 h64 bg hF hln hroom
theorem zeg {w : World} {q : Q6} {n : Nat} {bg sg : Bool} {o1 o2 o3 o4 : Option Addr} {c1 c2 c3 c4 : Nat} (ha : Nm w q o1 c1 o2 c2 o3 c3 o4 c4) (hl : LenQ q) (hw : (xm q != 0) = true) : Calls Tryz.prog 14 #[.agg #[.int .i64 ((n : Nat) : Int), .bool bg, .bool sg], xy q o1 c1 o2 c2 o3 c3 o4 c4] w fun e w' => e = .returned (.tuple #[.slice none 0 0, .int .i64 (xm q)]) ∧ Below w.heap.size w w' := by
 have e9 : (kf q).2 = xm q := by unfold kf; rw [if_neg (bne_iff_ne.1 hw)]
 have hM : Mg w w ([]) := Mg.start w
 refine za (l := [(0, .agg #[.int .i64 (((n : Nat) : Int)), .bool bg, .bool sg]), (1, .agg #[.bool q.b1, .slice o1 q.t1.length c1, .slice o2 q.q1.length c2, .bool q.b2, .slice o3 q.t2.length c3, .slice o4 q.q2.length c4])]) Tryz.func14 rfl Tryz.ntmps14 rfl rfl ?_
 intro Q hret hnorm hP a hA
 refine wsk fun K1 hK1 => wrl (xr (vs := [.int .i64 (((n : Nat) : Int)), .bool bg, .bool sg]) (t := 39) hA hM rfl rfl rfl (fun g => .pointer (some ⟨g, 0, none⟩)) (zf rfl rfl) (by decide) ?_)
 intro g2 w3 hM a hA
 refine xr (vs := [.bool q.b1, .slice o1 q.t1.length c1, .slice o2 q.q1.length c2, .bool q.b2, .slice o3 q.t2.length c3, .slice o4 q.q2.length c4]) (t := 36) hA hM rfl rfl rfl (fun g => .pointer (some ⟨g, 0, none⟩)) (zf rfl rfl) (by decide) ?_
 intro g4 w5 hM a hA
 iterate 2 refine sdo hA (qb rfl) fun a hA => ?_
 refine qe (hK1 _ _ (wsk fun K6 hK6 => wrl (sdo hA (jc hM ByQ_isS_36 rfl 0 rfl (cs := [.bool q.b1, .slice o1 q.t1.length c1, .slice o2 q.q1.length c2, .bool q.b2, .slice o3 q.t2.length c3, .slice o4 q.q2.length c4]) rfl rfl) fun a hA => ?_)))
 refine qi hA rfl rfl rfl (qf rfl rfl (fun w => by kernel_rfl)) (qnj (xa ha hM.bel) hl hw) ?_
 rintro _ w8 ⟨rfl, hb7⟩
 replace hM := hM.call hb7
 refine ⟨_, rfl, ?_⟩
 intro a hA
 refine sdo hA (qa rfl) fun a hA => ?_
 iterate 2 refine sdo hA (qz (vs := [.int .i64 ((kf q).1), .int .i64 ((kf q).2)]) rfl rfl) fun a hA => ?_
 iterate 2 refine sdo hA (qb rfl) fun a hA => ?_
 refine qe (hK6 _ _ (wsk fun K9 hK9 => wsk fun K10 hK10 => wrl (sdo hA (qa rfl) fun a hA => ?_)))
 refine sdo (v := .bool true) hA (qg rfl rfl (fun w => (jm w).trans (by rw [show (((kf q).2 != 0)) = true from (by rw [e9]; exact hw)]))) fun a hA => ?_
 refine qe (hK10 _ _ (wp_cond_true (hA.ev rfl) ?_))
 refine wsk fun K11 hK11 => wrl (sdo hA (qa rfl) fun a hA => ?_)
 iterate 2 refine sdo hA (qb rfl) fun a hA => ?_
 refine qe (hK11 _ _ (wp_ret (hret _ _ (en2 hA rfl (ql rfl) (ql rfl) ?_))))
 rw [← e9]
 exact ⟨rfl, hM.bel⟩
theorem qgb {w : World} {b : Bool} {x n : Nat} {o1 o2 o3 o4 : Option Addr} {c1 c2 c3 c4 : Nat} (ha : Nm w (Q6.whole b x) o1 c1 o2 c2 o3 c3 o4 c4) (hx : (words x).length ≤ 512) (hbx : b.toNat ≤ x) (h1 : 1 ≤ n) (h64 : n ≤ 64) {bg : Bool} {ln : Nat} (hln : bl (x - b.toNat) = ln) (hroom : n * 8 - 1 < ln) : Calls Tryz.prog 14 #[.agg #[.int .i64 ((n : Nat) : Int), .bool bg, .bool true], xy (Q6.whole b x) o1 c1 o2 c2 o3 c3 o4 c4] w fun e w' => e = .returned (.tuple #[.slice none 0 0, .int .i64 4]) ∧ Below w.heap.size w w' := by
 have hw := qhg hx hbx
 have hM : Mg w w ([]) := Mg.start w
 refine za (l := [(0, .agg #[.int .i64 (((n : Nat) : Int)), .bool bg, .bool true]), (1, .agg #[.bool b, .slice o1 ((words x).length) c1, .slice o2 1 c2, .bool false, .slice o3 0 c3, .slice o4 1 c4])]) Tryz.func14 rfl Tryz.ntmps14 rfl rfl ?_
 intro Q hret hnorm hP a hA
 refine wsk fun K1 hK1 => wrl (xr (vs := [.int .i64 (((n : Nat) : Int)), .bool bg, .bool true]) (t := 39) hA hM rfl rfl rfl (fun g => .pointer (some ⟨g, 0, none⟩)) (zf rfl rfl) (by decide) ?_)
 intro g2 w3 hM a hA
 refine xr (vs := [.bool b, .slice o1 ((words x).length) c1, .slice o2 1 c2, .bool false, .slice o3 0 c3, .slice o4 1 c4]) (t := 36) hA hM rfl rfl rfl (fun g => .pointer (some ⟨g, 0, none⟩)) (zf rfl rfl) (by decide) ?_
 intro g4 w5 hM a hA
 iterate 2 refine sdo hA (qb rfl) fun a hA => ?_
 refine qe (hK1 _ _ (wsk fun K6 hK6 => wrl (sdo hA (jc hM ByQ_isS_36 rfl 0 rfl (cs := [.bool b, .slice o1 ((words x).length) c1, .slice o2 1 c2, .bool false, .slice o3 0 c3, .slice o4 1 c4]) rfl rfl) fun a hA => ?_)))
 refine qi hA rfl rfl rfl (qf rfl rfl (fun w => by kernel_rfl)) ((by have h9 := ya (w := w5) (xa ha hM.bel) (jl hx) hw hx hbx; rw [vr hw, hln] at h9; exact h9)) ?_
 rintro _ w8 ⟨rfl, hb7⟩
 replace hM := hM.call hb7
 refine ⟨_, rfl, ?_⟩
 intro a hA
 refine sdo hA (qa rfl) fun a hA => ?_
 iterate 2 refine sdo hA (qz (vs := [.int .i64 (((ln : Nat) : Int)), .int .i64 0]) rfl rfl) fun a hA => ?_
 iterate 2 refine sdo hA (qb rfl) fun a hA => ?_
 refine qe (hK6 _ _ (wsk fun K9 hK9 => wsk fun K10 hK10 => wrl (sdo hA (qa rfl) fun a hA => ?_)))
 refine sdo (v := .bool false) hA (qg rfl rfl (fun w => by kernel_rfl)) fun a hA => ?_
 refine qe (hK10 _ _ (wp_cond_false (hA.ev rfl) ?_))
 refine wp_skip (hK9 _ _ (wsk fun K11 hK11 => wsk fun K12 hK12 => wrl (sdo (v := .pointer (some ⟨g4, 0, none⟩)) hA (qh ByQ_fld_36_0 rfl rfl) fun a hA => ?_)))
 refine sdo (v := .pointer (some ⟨g4, 0, none⟩)) hA (qh ByQ_fld_34_0 rfl rfl) fun a hA => ?_
 refine sdo hA (zx hM ByQ_is1_4 rfl 0 rfl rfl) fun a hA => ?_
 refine sdo hA (qa rfl) fun a hA => ?_
 rcases b with _ | _
 ·
  iterate 3 refine zg hA rfl rfl rfl fun a hA => ?_
  refine sdo (v := .bool false) hA (qj rfl rfl rfl rfl) fun a hA => ?_
  iterate 2 refine sdo hA (qa rfl) fun a hA => ?_
  refine sdo hA (jc hM ByQ_isS_39 rfl 1 rfl (cs := [.int .i64 (((n : Nat) : Int)), .bool bg, .bool true]) rfl rfl) fun a hA => ?_
  refine qi hA rfl rfl rfl (qf rfl rfl (fun w => by kernel_rfl)) (qba h1 h64) ?_
  rintro _ w14 ⟨rfl, hb13⟩
  replace hM := hM.call hb13
  refine ⟨_, rfl, ?_⟩
  intro a hA
  refine sdo (v := .bool true) hA (qg rfl rfl (fun w => (ja w).trans (by rw [show (decide (((n * 8 - 1 : Nat) : Int) < ((ln : Nat) : Int))) = true from (decide_eq_true (by first | omega | (rcases hroom with h9 | h9; omega; cases h9)))]))) fun a hA => ?_
  refine sdo (v := .bool true) hA (qj rfl rfl rfl rfl) fun a hA => ?_
  refine qe (hK12 _ _ (wp_cond_true (hA.ev rfl) ?_))
  refine wsk fun K15 hK15 => wrl ?_
  iterate 2 refine sdo hA (qb rfl) fun a hA => ?_
  refine qe (hK15 _ _ (wp_ret (hret _ _ (en2 hA rfl (ql rfl) (ql rfl) ?_))))
  exact ⟨rfl, hM.bel⟩
 ·
  refine sdo (v := .pointer (some ⟨g2, 2, none⟩)) hA (qh ByQ_fld_39_2 rfl rfl) fun a hA => ?_
  refine sdo hA (zx hM ByQ_is1_4 rfl 1 rfl rfl) fun a hA => ?_
  refine sdo (v := .bool false) hA (zp rfl zu) fun a hA => ?_
  refine sdo (v := .bool false) hA (qj rfl rfl rfl rfl) fun a hA => ?_
  iterate 2 refine sdo hA (qa rfl) fun a hA => ?_
  refine sdo hA (jc hM ByQ_isS_39 rfl 1 rfl (cs := [.int .i64 (((n : Nat) : Int)), .bool bg, .bool true]) rfl rfl) fun a hA => ?_
  refine qi hA rfl rfl rfl (qf rfl rfl (fun w => by kernel_rfl)) (qba h1 h64) ?_
  rintro _ w17 ⟨rfl, hb16⟩
  replace hM := hM.call hb16
  refine ⟨_, rfl, ?_⟩
  intro a hA
  refine sdo (v := .bool true) hA (qg rfl rfl (fun w => (ja w).trans (by rw [show (decide (((n * 8 - 1 : Nat) : Int) < ((ln : Nat) : Int))) = true from (decide_eq_true (by first | omega | (rcases hroom with h9 | h9; omega; cases h9)))]))) fun a hA => ?_
  refine sdo (v := .bool true) hA (qj rfl rfl rfl rfl) fun a hA => ?_
  refine qe (hK12 _ _ (wp_cond_true (hA.ev rfl) ?_))
  refine wsk fun K18 hK18 => wrl ?_
  iterate 2 refine sdo hA (qb rfl) fun a hA => ?_
  refine qe (hK18 _ _ (wp_ret (hret _ _ (en2 hA rfl (ql rfl) (ql rfl) ?_))))
  exact ⟨rfl, hM.bel⟩
theorem qeg {w : World} {b : Bool} {x n : Nat} {o1 o2 o3 o4 : Option Addr} {c1 c2 c3 c4 : Nat} (ha : Nm w (Q6.whole b x) o1 c1 o2 c2 o3 c3 o4 c4) (hx : (words x).length ≤ 512) (hbx : b.toNat ≤ x) (h1 : 1 ≤ n) (h64 : n ≤ 64) {bg : Bool} {ln : Nat} (hln : bl (x - b.toNat) = ln) (hroom : n * 8 < ln ∨ b = true) : Calls Tryz.prog 14 #[.agg #[.int .i64 ((n : Nat) : Int), .bool bg, .bool false], xy (Q6.whole b x) o1 c1 o2 c2 o3 c3 o4 c4] w fun e w' => e = .returned (.tuple #[.slice none 0 0, .int .i64 4]) ∧ Below w.heap.size w w' := by
 have hw := qhg hx hbx
 have hM : Mg w w ([]) := Mg.start w
 refine za (l := [(0, .agg #[.int .i64 (((n : Nat) : Int)), .bool bg, .bool false]), (1, .agg #[.bool b, .slice o1 ((words x).length) c1, .slice o2 1 c2, .bool false, .slice o3 0 c3, .slice o4 1 c4])]) Tryz.func14 rfl Tryz.ntmps14 rfl rfl ?_
 intro Q hret hnorm hP a hA
 refine wsk fun K1 hK1 => wrl (xr (vs := [.int .i64 (((n : Nat) : Int)), .bool bg, .bool false]) (t := 39) hA hM rfl rfl rfl (fun g => .pointer (some ⟨g, 0, none⟩)) (zf rfl rfl) (by decide) ?_)
 intro g2 w3 hM a hA
 refine xr (vs := [.bool b, .slice o1 ((words x).length) c1, .slice o2 1 c2, .bool false, .slice o3 0 c3, .slice o4 1 c4]) (t := 36) hA hM rfl rfl rfl (fun g => .pointer (some ⟨g, 0, none⟩)) (zf rfl rfl) (by decide) ?_
 intro g4 w5 hM a hA
 iterate 2 refine sdo hA (qb rfl) fun a hA => ?_
 refine qe (hK1 _ _ (wsk fun K6 hK6 => wrl (sdo hA (jc hM ByQ_isS_36 rfl 0 rfl (cs := [.bool b, .slice o1 ((words x).length) c1, .slice o2 1 c2, .bool false, .slice o3 0 c3, .slice o4 1 c4]) rfl rfl) fun a hA => ?_)))
 refine qi hA rfl rfl rfl (qf rfl rfl (fun w => by kernel_rfl)) ((by have h9 := ya (w := w5) (xa ha hM.bel) (jl hx) hw hx hbx; rw [vr hw, hln] at h9; exact h9)) ?_
 rintro _ w8 ⟨rfl, hb7⟩
 replace hM := hM.call hb7
 refine ⟨_, rfl, ?_⟩
 intro a hA
 refine sdo hA (qa rfl) fun a hA => ?_
 iterate 2 refine sdo hA (qz (vs := [.int .i64 (((ln : Nat) : Int)), .int .i64 0]) rfl rfl) fun a hA => ?_
 iterate 2 refine sdo hA (qb rfl) fun a hA => ?_
 refine qe (hK6 _ _ (wsk fun K9 hK9 => wsk fun K10 hK10 => wrl (sdo hA (qa rfl) fun a hA => ?_)))
 refine sdo (v := .bool false) hA (qg rfl rfl (fun w => by kernel_rfl)) fun a hA => ?_
 refine qe (hK10 _ _ (wp_cond_false (hA.ev rfl) ?_))
 refine wp_skip (hK9 _ _ (wsk fun K11 hK11 => wsk fun K12 hK12 => wrl (sdo (v := .pointer (some ⟨g4, 0, none⟩)) hA (qh ByQ_fld_36_0 rfl rfl) fun a hA => ?_)))
 refine sdo (v := .pointer (some ⟨g4, 0, none⟩)) hA (qh ByQ_fld_34_0 rfl rfl) fun a hA => ?_
 refine sdo hA (zx hM ByQ_is1_4 rfl 0 rfl rfl) fun a hA => ?_
 refine sdo hA (qa rfl) fun a hA => ?_
 rcases b with _ | _
 ·
  iterate 3 refine zg hA rfl rfl rfl fun a hA => ?_
  refine sdo (v := .bool false) hA (qj rfl rfl rfl rfl) fun a hA => ?_
  iterate 2 refine sdo hA (qa rfl) fun a hA => ?_
  refine sdo hA (jc hM ByQ_isS_39 rfl 1 rfl (cs := [.int .i64 (((n : Nat) : Int)), .bool bg, .bool false]) rfl rfl) fun a hA => ?_
  refine qi hA rfl rfl rfl (qf rfl rfl (fun w => by kernel_rfl)) (qjd h1 h64) ?_
  rintro _ w14 ⟨rfl, hb13⟩
  replace hM := hM.call hb13
  refine ⟨_, rfl, ?_⟩
  intro a hA
  refine sdo (v := .bool true) hA (qg rfl rfl (fun w => (ja w).trans (by rw [show (decide (((n * 8 : Nat) : Int) < ((ln : Nat) : Int))) = true from (decide_eq_true (by first | omega | (rcases hroom with h9 | h9; omega; cases h9)))]))) fun a hA => ?_
  refine sdo (v := .bool true) hA (qj rfl rfl rfl rfl) fun a hA => ?_
  refine qe (hK12 _ _ (wp_cond_true (hA.ev rfl) ?_))
  refine wsk fun K15 hK15 => wrl ?_
  iterate 2 refine sdo hA (qb rfl) fun a hA => ?_
  refine qe (hK15 _ _ (wp_ret (hret _ _ (en2 hA rfl (ql rfl) (ql rfl) ?_))))
  exact ⟨rfl, hM.bel⟩
 ·
  refine sdo (v := .pointer (some ⟨g2, 2, none⟩)) hA (qh ByQ_fld_39_2 rfl rfl) fun a hA => ?_
  refine sdo hA (zx hM ByQ_is1_4 rfl 1 rfl rfl) fun a hA => ?_
  refine sdo (v := .bool true) hA (zp rfl zu) fun a hA => ?_
  refine sdo (v := .bool true) hA (qj rfl rfl rfl rfl) fun a hA => ?_
  refine sdo hA (qa rfl) fun a hA => ?_
  iterate 4 refine zg hA rfl rfl rfl fun a hA => ?_
  refine sdo (v := .bool true) hA (qj rfl rfl rfl rfl) fun a hA => ?_
  refine qe (hK12 _ _ (wp_cond_true (hA.ev rfl) ?_))
  refine wsk fun K16 hK16 => wrl ?_
  iterate 2 refine sdo hA (qb rfl) fun a hA => ?_
  refine qe (hK16 _ _ (wp_ret (hret _ _ (en2 hA rfl (ql rfl) (ql rfl) ?_))))
  exact ⟨rfl, hM.bel⟩
theorem uf {w : World} {b : Bool} {x n : Nat} {o1 o2 o3 o4 : Option Addr} {c1 c2 c3 c4 : Nat} (ha : Nm w (Q6.whole b x) o1 c1 o2 c2 o3 c3 o4 c4) (hx : (words x).length ≤ 512) (hbx : b.toNat ≤ x) (h1 : 1 ≤ n) (h64 : n ≤ 64) (bg sg : Bool) (hlarge : zlh n sg < bl (x - b.toNat) ∨ (b = true ∧ sg = false)) : Calls Tryz.prog 14 #[.agg #[.int .i64 ((n : Nat) : Int), .bool bg, .bool sg], xy (Q6.whole b x) o1 c1 o2 c2 o3 c3 o4 c4] w fun e w' => e = .returned (.tuple #[.slice none 0 0, .int .i64 4]) ∧ Below w.heap.size w w' := by
 cases sg
 ·
  exact qeg ha hx hbx h1 h64 rfl (hlarge.imp id And.left)
 ·
  exact qgb ha hx hbx h1 h64 rfl (hlarge.resolve_right (fun k => by cases k.2))
theorem kl {w : World} {size : Int} {bg sg : Bool} {c : Bool} (h : js size = c) : Calls Tryz.prog 11 #[.agg #[.int .i64 size, .bool bg, .bool sg]] w fun e w' => e = .returned (.bool c) ∧ Below w.heap.size w w' := h ▸ qfd
end Go.Proofs.YtbhdnpbbmpemnaaGreatDoor.G
namespace Go.Proofs.YtbhdnpbbmpemnaaGreatDoor
open Go.RowKit
set_option linter.unusedVariables false
set_option linter.unusedSimpArgs false

theorem qeh {b : Bool} {x n : Nat} (h1 : 1 ≤ n) (hb : b.toNat ≤ x) (hroom : bl (x - b.toNat) ≤ n * 8 - 1) : (b = false ∧ fld b (x - b.toNat) 0 (n * 8) = x ∧ x < 2 ^ (n * 8 - 1)) ∨ (b = true ∧ fld b (x - b.toNat) 0 (n * 8) = 256 ^ n - x ∧ 1 ≤ x ∧ x ≤ 2 ^ (n * 8 - 1)) := by
  have hz := qsc b (x - b.toNat) (n * 8)
  have hlt := bl_le.1 hroom
  have hp : 2 ^ (n * 8) = 2 * 2 ^ (n * 8 - 1) := by rw [← Nat.pow_succ']; congr 1; omega
  have h256 : 256 ^ n = 2 ^ (n * 8) := by rw [Nat.mul_comm, kw]
  cases b with
  | false =>
    left
    refine ⟨rfl, ?_, by simpa using hlt⟩
    simp only [Bool.toNat_false, Nat.sub_zero] at hz hlt ⊢
    unfold qzh at hz
    rw [if_neg (by decide)] at hz
    have e : ((x : Nat) : Int) % ((2 ^ (n * 8) : Nat) : Int) = ((x % 2 ^ (n * 8) : Nat) : Int) := rfl
    rw [e, Nat.mod_eq_of_lt (by omega)] at hz
    exact (Int.ofNat.inj hz).symm
  | true =>
    right
    simp only [Bool.toNat_true] at hz hlt hb
    refine ⟨rfl, ?_, hb, by omega⟩
    show fld true (x - 1) 0 (n * 8) = _
    unfold qzh at hz
    rw [if_pos rfl] at hz
    have e : -((((x - 1 : Nat) : Int)) + 1) = (((2 ^ (n * 8) - x : Nat)) : Int) + ((2 ^ (n * 8) : Nat) : Int) * (-1) := by omega
    rw [e, Int.add_mul_emod_self_left] at hz
    have e2 : (((2 ^ (n * 8) - x : Nat)) : Int) % ((2 ^ (n * 8) : Nat) : Int) = (((2 ^ (n * 8) - x) % 2 ^ (n * 8) : Nat) : Int) := rfl
    have hpos : 0 < 2 ^ (n * 8 - 1) := Nat.two_pow_pos _
    rw [e2, Nat.mod_eq_of_lt (by omega)] at hz
    rw [h256]
    exact (Int.ofNat.inj hz).symm
theorem qjg {b : Bool} {x n : Nat} (bg : Bool) (h1 : 1 ≤ n) (hb : b.toNat ≤ x) (hroom : bl (x - b.toNat) ≤ n * 8 - 1) : G.jt bg true (G.zw bg (G.leB n (fld b (x - b.toNat) 0 (n * 8)))) = Q6.whole b x := by
  have h256 : 256 ^ n = 2 ^ (n * 8) := by rw [Nat.mul_comm, kw]
  have hp : 2 ^ (n * 8) = 2 * 2 ^ (n * 8 - 1) := by rw [← Nat.pow_succ']; congr 1; omega
  have hpos : 0 < 2 ^ (n * 8 - 1) := Nat.two_pow_pos _
  have hlen : (G.zw bg (G.leB n (fld b (x - b.toNat) 0 (n * 8)))).length = n := by rw [G.xh, G.yb]
  unfold G.jt
  rw [hlen, G.qhf]
  have htop := qhd (l := G.leB n (fld b (x - b.toNat) 0 (n * 8))) (G.yb _ _) h1
  rcases qeh h1 hb hroom with ⟨rfl, hF, hx⟩ | ⟨rfl, hF, hx1, hx2⟩
  · rw [hF] at htop ⊢
    have hN : G.leN (G.leB n x) = x := G.qhe n x (by omega)
    rw [hN] at htop ⊢
    have hbl : bl x ≤ n * 8 - 1 := bl_le.2 hx
    rw [if_neg (fun k => by have := htop.2 k.2; omega)]
  · rw [hF] at htop ⊢
    have hN : G.leN (G.leB n (256 ^ n - x)) = 256 ^ n - x := G.qhe n _ (by omega)
    rw [hN] at htop ⊢
    have hbl : bl (256 ^ n - x) = 8 * n := by
      have h4 := bl_eq (x := 256 ^ n - x) (n := n * 8 - 1) (by omega) (by rw [show n * 8 - 1 + 1 = n * 8 from by omega]; omega)
      omega
    rw [if_pos ⟨rfl, htop.1 hbl⟩, show 256 ^ n - (256 ^ n - x) = x from by omega]
end Go.Proofs.YtbhdnpbbmpemnaaGreatDoor
namespace Go.Proofs.YtbhdnpbbmpemnaaGreatDoor.G
open Go.RowKit
set_option linter.unusedVariables false
set_option linter.unusedSimpArgs false
set_option maxRecDepth 100000


end Go.Proofs.YtbhdnpbbmpemnaaGreatDoor.G
namespace Go.Proofs.YtbhdnpbbmpemnaaGreatDoor
open Go.RowKit
set_option linter.unusedVariables false
set_option linter.unusedSimpArgs false

section
variable {P : Program} {w0 w : World} {l : List (Nat × Value)} {L : List (Nat × List Value)} {R : List (Option Addr × List Nat)} {O : List (Option Addr × Nat × List Nat)} {ops : List Oper} {Q : Exit → Act → World → Prop} {a : Act} {n : Nat} {o : Oper} {rest : List Oper} {d : Nat}
theorem qjh (hA : Sl a n l) (hS : St w0 w L R O) (hg : zt l ops o = true) (hdst : o.dst = some d) (hd : Nat.blt d n = true) {us : List Nat} {t : TypeId} {m : Nat} (he : Does P l o w (.slice (some ⟨w.heap.size, 0, none⟩) m m) (w.alloc (.cells (U us).toArray t))) (hu : Dig us)
    (hk : ∀ g w', St w0 w' L ((some ⟨g, 0, none⟩, us) :: R) O → Below w.heap.size w w' → ∀ a', Sl a' n ((d, .slice (some ⟨g, 0, none⟩) m m) :: l) → wpList P ops.toArray Q rest a' w') : wpList P ops.toArray Q (o :: rest) a w :=
  vf hA hg hdst hd he (hk _ _ (hS.newU us t hu) ((Below.refl _ w).alloc (Nat.le_refl _) _))
theorem vi {dst : Option Tmp} {ty : TypeId} {pos : String} {after : Array Edge} {guard : Option (Nat × Bool)} {t e : TypeId} (hu : P.underlying t = some (.slice e)) (he : (P.info? e).map (·.size) = some 1) {x i : Operand} {g n c k : Nat} {z : Int} (hx : ev l x = some (.slice (some ⟨g, 0, none⟩) n c)) (hi : ev l i = some (.int .i64 z)) (hz : z = (k : Nat)) (hk : k < n) : Does P l ⟨dst, .indexAddr t x i, ty, pos, after, guard⟩ w (.pointer (some ⟨g, k * 1, none⟩)) w := by
  have h := zk (w := w) (dst := dst) (ty := ty) (pos := pos) (after := after) (guard := guard) (off := 0) hu he hx hi hz rfl hk
  rw [Nat.zero_add] at h
  rw [Nat.mul_one]
  exact h
end
def oI (z : Int) : Int := if z = 0 then 0 else if z < 0 then -1 else 1
theorem qji {z : Int} : oI z < 0 ↔ z < 0 := by
  unfold oI
  split
  · omega
  · split <;> omega
theorem qsd {z : Int} : 0 ≤ oI z ↔ 0 ≤ z := by
  unfold oI
  split
  · omega
  · split <;> omega
theorem qwi {w : World} {b1 b2 : Bool} {x y : Nat} {xl yl : List Nat} {a1 a2 : Option Addr} {ac1 ac2 : Nat} (hx : xl = words x) (hy : yl = words y) (ha1 : Sc w a1 ac1 xl) (ha2 : Sc w a2 ac2 [1]) {u1 u2 : Option Addr} {uc1 uc2 : Nat} (hu1 : Sc w u1 uc1 yl) (hu2 : Sc w u2 uc2 [1]) (lx : (words x).length ≤ 512) (ly : (words y).length ≤ 512) {z : Int} (hz : sgn b1 x + sgn b2 y = z) :
    Calls Tryz.prog 30 #[.agg #[.bool b1, .slice a1 xl.length ac1, .slice a2 1 ac2], .agg #[.bool b2, .slice u1 yl.length uc1, .slice u2 1 uc2]] w (AnsF w (rb z) (words z.natAbs) [1]) := by
  subst hx hy
  have h1 : (words 1).length = 1 := by rw [xe]; rfl
  rw [← xe] at hu2 ha2
  have h := qqg (b1 := b1) (b2 := b2) ha1 ha2 hu1 hu2 (by omega) (by omega) (by omega) (by omega) (by omega) (by omega)
  have e : sgn b1 x * ((1 : Nat) : Int) + sgn b2 y * ((1 : Nat) : Int) = z := by rw [← hz]; simp
  rw [e] at h
  have e2 : rt z (1 * 1) = z.natAbs := by unfold rt; simp
  have e3 : rq z (1 * 1) = 1 := by unfold rq; simp
  rw [e2, e3, h1, xe] at h
  exact h
theorem zob {w : World} {x y : Nat} {a1 a2 : Option Addr} {ac1 ac2 : Nat} (ha1 : Sc w a1 ac1 (words x)) (ha2 : Sc w a2 ac2 [1]) {u1 u2 : Option Addr} {uc1 uc2 : Nat} (hu1 : Sc w u1 uc1 (words y)) (hu2 : Sc w u2 uc2 [1]) (lx : (words x).length ≤ 512) (ly : (words y).length ≤ 512) (hxy : x ≤ y) :
    Calls Tryz.prog 30 #[.agg #[.bool true, .slice a1 (words x).length ac1, .slice a2 1 ac2], .agg #[.bool false, .slice u1 (words y).length uc1, .slice u2 1 uc2]] w (AnsF w false (words (y - x)) [1]) := by
  have h := qwi (b1 := true) (b2 := false) rfl rfl ha1 ha2 hu1 hu2 lx ly (z := ((y - x : Nat) : Int)) (by show -((x : Nat) : Int) + ((y : Nat) : Int) = _; omega)
  rw [Int.natAbs_natCast, show rb ((y - x : Nat) : Int) = false from decide_eq_false (by omega)] at h
  exact h
theorem qjj {w : World} {ao bo : Option Addr} {x : Nat} (ca cb : Nat) (ha : Rd w ao (words x)) (hb : Rd w bo [256]) (hx : (words x).length ≤ 512) :
    Calls Tryz.prog 38 #[.slice ao (words x).length ca, .slice bo 1 cb] w (Row2 w (words (x / 256)) (words (x % 256))) := by
  have h := uy (y := 256) ca cb ha (vj.symm ▸ hb) (by omega) (by rw [vj]; decide) (by decide)
  rw [show (words 256).length = 1 from by rw [vj]; rfl] at h
  exact h
theorem zej (V : Nat) : IntKind.u8.wrap (((words (V % 256)).getD 0 0 : Nat) : Int) = ((V % 256 : Nat) : Int) := by
  rw [words_getD, G.qwh]
  show ((V % 256 / 1 % 4294967296 % 256 : Nat) : Int) = _
  omega
theorem qse (n F : Nat) : G.lbI n F 0 = List.replicate n 0 := by
  unfold G.lbI
  refine List.ext_getElem? fun i => ?_
  rw [List.getElem?_map, List.getElem?_replicate]
  by_cases h : i < n
  · rw [List.getElem?_range h, if_pos h]; rfl
  · rw [List.getElem?_eq_none (by simp; omega), if_neg h]; rfl
theorem qei (bg : Bool) (n F : Nat) : (madeCells (Value.int .u8 0).cells (n * 1)).toList = Lib.byteCells (G.zw bg (G.lbI n F 0)) := by
  rw [G.qaa n F, qse]
  unfold G.zw
  cases bg <;> simp
theorem qej (n F : Nat) : G.lbI n F n = G.leB n F := by
  unfold G.lbI G.leB
  refine List.map_congr_left fun j hj => ?_
  rw [if_pos (List.mem_range.1 hj)]
theorem zkb {α : Type} (l : List α) {i : Nat} (v : α) (h : i < l.length) : l.reverse.set (l.length - 1 - i) v = (l.set i v).reverse := by
  refine List.ext_getElem? fun k => ?_
  by_cases hk : k < l.length
  · rw [List.getElem?_reverse (by rw [List.length_set]; exact hk), List.length_set]
    by_cases e : k = l.length - 1 - i
    · subst e
      rw [List.getElem?_set_self (by rw [List.length_reverse]; omega), show l.length - 1 - (l.length - 1 - i) = i from by omega, List.getElem?_set_self h]
    · rw [List.getElem?_set_ne (fun q => e q.symm), List.getElem?_reverse hk, List.getElem?_set_ne (by omega)]
  · rw [List.getElem?_eq_none (by simp; omega), List.getElem?_eq_none (by simp; omega)]
theorem xx {bg : Bool} {n F k V i : Nat} {c : Int} (h : k < n) (hV : V = F / 256 ^ k) (hi : i = if bg = true then n - 1 - k else k) (hc : c = ((V % 256 : Nat) : Int)) : G.over (Lib.byteCells (G.zw bg (G.lbI n F k))) (i * 1) [.int .u8 c] = Lib.byteCells (G.zw bg (G.lbI n F (k + 1))) := by
  have h1 := G.qdc (n := n) (F := F) (i := k) h
  rw [Nat.mul_one] at h1
  have h2 : (Lib.byteCells (G.lbI n F k)).set k (.int .u8 ((F / 256 ^ k % 256 : Nat) : Int)) = Lib.byteCells (G.lbI n F (k + 1)) := h1
  subst hc hV
  rw [Nat.mul_one]
  show (Lib.byteCells (G.zw bg (G.lbI n F k))).set i _ = _
  cases bg with
  | false => subst hi; exact h2
  | true =>
    have e : ∀ p : List UInt8, Lib.byteCells (G.zw true p) = (Lib.byteCells p).reverse := fun p => by unfold Lib.byteCells G.zw; rw [if_pos rfl, List.map_reverse]
    have hl : (Lib.byteCells (G.lbI n F k)).length = n := by rw [Lib.byteCells_length, G.xi]
    have hi' : i = (Lib.byteCells (G.lbI n F k)).length - 1 - k := by rw [hi, hl]; rfl
    rw [e, e, hi', zkb _ _ (by omega), h2]
theorem zkc {x n : Nat} (h : x < 2 ^ (n * 8)) : fld false x 0 (n * 8) = x := by
  have hz := qsc false x (n * 8)
  unfold qzh at hz
  rw [if_neg (by decide)] at hz
  have e : ((x : Nat) : Int) % ((2 ^ (n * 8) : Nat) : Int) = ((x % 2 ^ (n * 8) : Nat) : Int) := rfl
  rw [e, Nat.mod_eq_of_lt h] at hz
  exact (Int.ofNat.inj hz).symm
theorem zfa {x n : Nat} (bg : Bool) (h : x < 2 ^ (n * 8)) : G.jt bg false (G.zw bg (G.leB n x)) = Q6.whole false x := by
  unfold G.jt
  rw [if_neg (by rintro ⟨k, _⟩; cases k), G.qhf, G.qhe n x (by rw [show (256 : Nat) = 2 ^ 8 from rfl, ← Nat.pow_mul, Nat.mul_comm]; exact h)]
end Go.Proofs.YtbhdnpbbmpemnaaGreatDoor
