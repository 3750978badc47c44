/- The walk of the fixed fact of the laws of bytevec. Numbers out of bytes, the lowest first: their words. The walk of the number of any bytes. Numbers that are read stay so where blocks without words are made or written. The walk of the number of any bytes, with a sign or without. A number at a place of bytes: what is answered, and helpers for the walks. Walks of the number at a place of bytes. The walk of the document's number at a place of bytes. Steps that go from the one stack to the other. Bytes that are made of a number's words; steps that keep what is read as words. Walks of the bytes of a whole number. Walks of Put. What was put is got again. -/
import Derived.Test.YtbajcflbimmnhaaGreatDoorPbyteve11f
import Derived.Test.YtbajcflbimmnhaaGreatDoorPbyteve11c
import Derived.Test.YtbajcflbimmnhaaGreatDoorWords
import Derived.Test.YtbajcflbimmnhaaGreatDoorPbyteve11d
import Derived.Test.YtbajcflbimmnhaaGreatDoorArith
namespace Go.Proofs.YtbajcflbimmnhaaGreatDoor.G
open Go.RowKit
set_option linter.unusedVariables false
set_option linter.unusedSimpArgs false
set_option maxRecDepth 100000
theorem ByW_is1_57 : Is1 Tryz.prog 57 := ⟨⟨_, Tryz.underlying57, rfl⟩, by kernel_rfl⟩
theorem ByW_isS_27 : IsS Tryz.prog 27 6 := ⟨⟨_, Tryz.underlying27⟩, by kernel_rfl⟩
/-- A word of a row of the call's own. -/
theorem rd_row {w0 w : World} {L : List Ck} (hM : Mg w0 w L) (k : Nat) {g cap x : Nat} (hk : L[k]? = some (.row 57 1 (.slice (some ⟨g, 0, none⟩) 1 cap) 1 [.int .u32 ((x : Nat) : Int)])) (hx : x < 4294967296) : Sc w (some ⟨g, 0, none⟩) cap [x] := by
 have hr : w.ownsRow w0.heap.size 57 1 (.slice (some ⟨g, 0, none⟩) 1 cap) 1 [.int .u32 ((x : Nat) : Int)] := hM.has k hk
 refine ⟨⟨fun y hy => by rw [List.mem_singleton] at hy; omega, fun _ => ⟨g, 0, rfl, ?_, fun j hj => ?_⟩⟩, (fun h => (by cases h)), ?_⟩
 ·
  rcases hr.2 with ⟨he, _⟩ | ⟨g', c', cur, he, h1, h2, _⟩
  ·
   cases he
  ·
   cases he; exact (Array.getElem?_eq_some_iff.1 h2).1
 ·
  have e : j = 0 := by simp at hj; omega
  subst e
  rw [World.ownsRow.cellAt hr 0 (by decide)]
  rfl
 ·
  rcases hr.2 with ⟨he, _⟩ | ⟨g', c', cur, he, _, _, h3, _⟩
  ·
   cases he
  ·
   cases he; exact h3
theorem row_cellsZ {w0 w : World} {L : List Ck} (hM : Mg w0 w L) (k : Nat) {e : TypeId} {sz g n cap : Nat} {xs : List Value} (hk : L[k]? = some (.row e sz (.slice (some ⟨g, 0, none⟩) n cap) n xs)) : ∀ j u, xs[j]? = some u → w.cell? ⟨g, j, none⟩ = some u := by
 intro j u hj
 have hr : w.ownsRow w0.heap.size e sz (.slice (some ⟨g, 0, none⟩) n cap) n xs := hM.has k hk
 have hlt := (List.getElem?_eq_some_iff.1 hj).1
 rw [World.ownsRow.cellAt hr j (by rw [← hr.1]; exact hlt)]
 exact hj
theorem row_ltZ {w0 w : World} {L : List Ck} (hM : Mg w0 w L) (k : Nat) {e : TypeId} {sz g n cap : Nat} {xs : List Value} (hk : L[k]? = some (.row e sz (.slice (some ⟨g, 0, none⟩) n cap) n xs)) : g < w.heap.size := by
 have hr : w.ownsRow w0.heap.size e sz (.slice (some ⟨g, 0, none⟩) n cap) n xs := hM.has k hk
 rcases hr.2 with ⟨he, _⟩ | ⟨g', c', cur, he, h1, h2, _⟩
 ·
  cases he
 ·
  cases he; exact (Array.getElem?_eq_some_iff.1 h2).1
theorem trim_fix0 {w : World} {so : Option Addr} {bq oq : Nat} (hq1 : so = some ⟨bq, oq, none⟩) (hq2 : bq < w.heap.size) (hq3 : w.cell? ⟨bq, oq + 0, none⟩ = some (.int .u32 0)) (hq4 : w.cell? ⟨bq, oq + 1, none⟩ = some (.int .u32 0)) : Calls Tryz.prog 82 #[.slice so 2 2] w fun e w' => e = .returned (.slice so 0 2) ∧ Below w.heap.size w w' := by
 have hM : Mg w w ([]) := Mg.start w
 refine walk_of (l := [(0, .slice so 2 2)]) Tryz.func82 rfl Tryz.ntmps82 rfl rfl ?_
 intro Q hret hnorm hP a hA
 refine wp_seq_k (fun K1 hK1 => ?_)
 refine wp_region_lit ?_
 refine seq_do hA rfl rfl rfl (does_assign rfl) fun a hA => ?_
 refine seq_end ?_
 refine hK1 _ _ ?_
 refine wp_seq_k (fun K2 hK2 => ?_)
 refine wp_block ?_
 refine wp_loop_rounds 3 ?_
 refine rounds_k ?_
 intro K3 hK3
 refine wp_seq_k (fun K4 hK4 => ?_)
 refine wp_seq_k (fun K5 hK5 => ?_)
 refine wp_region_lit ?_
 refine seq_do hA rfl rfl rfl (does_move rfl) fun a hA => ?_
 refine seq_do (v := .int .i64 2) hA rfl rfl rfl (does_len Tryz.underlying23 rfl) fun a hA => ?_
 refine seq_do (v := .bool true) hA rfl rfl rfl (does_bin rfl rfl (fun w => by kernel_rfl)) fun a hA => ?_
 refine seq_do hA rfl rfl rfl (does_move rfl) fun a hA => ?_
 refine seq_do hA rfl rfl rfl (does_move rfl) fun a hA => ?_
 refine seq_do hA rfl rfl rfl (does_move rfl) fun a hA => ?_
 refine seq_do (v := .int .i64 2) hA rfl rfl rfl (does_len Tryz.underlying23 rfl) fun a hA => ?_
 refine seq_do (v := .int .i64 1) hA rfl rfl rfl (does_bin rfl rfl (fun w => by kernel_rfl)) fun a hA => ?_
 refine seq_do (v := .pointer (some ⟨bq, oq + 1, none⟩)) hA rfl rfl rfl (does_indexRow (k := 1) Tryz.underlying23 (by kernel_rfl) rfl rfl rfl hq1 (by decide)) fun a hA => ?_
 refine seq_do (v := .int .u32 0) hA rfl rfl rfl (m_loadR hM hq2 hq4 ByW_is1_57 rfl) fun a hA => ?_
 refine seq_do (v := .bool true) hA rfl rfl rfl (does_bin rfl rfl (fun w => by kernel_rfl)) fun a hA => ?_
 refine seq_do (v := .bool true) hA rfl rfl rfl (does_pick rfl rfl rfl rfl) fun a hA => ?_
 refine seq_end ?_
 refine hK5 _ _ ?_
 refine wp_cond_true (hA.ev rfl) ?_
 refine wp_skip ?_
 refine hK4 _ _ ?_
 refine wp_block ?_
 refine wp_region_lit ?_
 refine seq_do hA rfl rfl rfl (does_move rfl) fun a hA => ?_
 refine seq_do hA rfl rfl rfl (does_move rfl) fun a hA => ?_
 refine seq_do (v := .int .i64 2) hA rfl rfl rfl (does_len Tryz.underlying23 rfl) fun a hA => ?_
 refine seq_do (v := .int .i64 1) hA rfl rfl rfl (does_bin rfl rfl (fun w => by kernel_rfl)) fun a hA => ?_
 refine seq_do (v := .slice so 1 2) hA rfl rfl rfl (does_upto (sz := 1) (hi := 1) Tryz.underlying23 (by kernel_rfl) rfl rfl rfl (by decide)) fun a hA => ?_
 refine seq_do hA rfl rfl rfl (does_assign rfl) fun a hA => ?_
 refine seq_end ?_
 refine hK3 _ _ ?_
 refine rounds_k ?_
 intro K6 hK6
 refine wp_seq_k (fun K7 hK7 => ?_)
 refine wp_seq_k (fun K8 hK8 => ?_)
 refine wp_region_lit ?_
 refine seq_do hA rfl rfl rfl (does_move rfl) fun a hA => ?_
 refine seq_do (v := .int .i64 1) hA rfl rfl rfl (does_len Tryz.underlying23 rfl) fun a hA => ?_
 refine seq_do (v := .bool true) hA rfl rfl rfl (does_bin rfl rfl (fun w => by kernel_rfl)) fun a hA => ?_
 refine seq_do hA rfl rfl rfl (does_move rfl) fun a hA => ?_
 refine seq_do hA rfl rfl rfl (does_move rfl) fun a hA => ?_
 refine seq_do hA rfl rfl rfl (does_move rfl) fun a hA => ?_
 refine seq_do (v := .int .i64 1) hA rfl rfl rfl (does_len Tryz.underlying23 rfl) fun a hA => ?_
 refine seq_do (v := .int .i64 0) hA rfl rfl rfl (does_bin rfl rfl (fun w => by kernel_rfl)) fun a hA => ?_
 refine seq_do (v := .pointer (some ⟨bq, oq + 0, none⟩)) hA rfl rfl rfl (does_indexRow (k := 0) Tryz.underlying23 (by kernel_rfl) rfl rfl rfl hq1 (by decide)) fun a hA => ?_
 refine seq_do (v := .int .u32 0) hA rfl rfl rfl (m_loadR hM hq2 hq3 ByW_is1_57 rfl) fun a hA => ?_
 refine seq_do (v := .bool true) hA rfl rfl rfl (does_bin rfl rfl (fun w => by kernel_rfl)) fun a hA => ?_
 refine seq_do (v := .bool true) hA rfl rfl rfl (does_pick rfl rfl rfl rfl) fun a hA => ?_
 refine seq_end ?_
 refine hK8 _ _ ?_
 refine wp_cond_true (hA.ev rfl) ?_
 refine wp_skip ?_
 refine hK7 _ _ ?_
 refine wp_block ?_
 refine wp_region_lit ?_
 refine seq_do hA rfl rfl rfl (does_move rfl) fun a hA => ?_
 refine seq_do hA rfl rfl rfl (does_move rfl) fun a hA => ?_
 refine seq_do (v := .int .i64 1) hA rfl rfl rfl (does_len Tryz.underlying23 rfl) fun a hA => ?_
 refine seq_do (v := .int .i64 0) hA rfl rfl rfl (does_bin rfl rfl (fun w => by kernel_rfl)) fun a hA => ?_
 refine seq_do (v := .slice so 0 2) hA rfl rfl rfl (does_upto (sz := 1) (hi := 0) Tryz.underlying23 (by kernel_rfl) rfl rfl rfl (by decide)) fun a hA => ?_
 refine seq_do hA rfl rfl rfl (does_assign rfl) fun a hA => ?_
 refine seq_end ?_
 refine hK6 _ _ ?_
 refine rounds_k ?_
 intro K9 hK9
 refine wp_seq_k (fun K10 hK10 => ?_)
 refine wp_seq_k (fun K11 hK11 => ?_)
 refine wp_region_lit ?_
 refine seq_do hA rfl rfl rfl (does_move rfl) fun a hA => ?_
 refine seq_do (v := .int .i64 0) hA rfl rfl rfl (does_len Tryz.underlying23 rfl) fun a hA => ?_
 refine seq_do (v := .bool false) hA rfl rfl rfl (does_bin rfl rfl (fun w => by kernel_rfl)) fun a hA => ?_
 refine seq_do hA rfl rfl rfl (does_move rfl) fun a hA => ?_
 refine seq_skip hA rfl rfl rfl fun a hA => ?_
 refine seq_skip hA rfl rfl rfl fun a hA => ?_
 refine seq_skip hA rfl rfl rfl fun a hA => ?_
 refine seq_skip hA rfl rfl rfl fun a hA => ?_
 refine seq_skip hA rfl rfl rfl fun a hA => ?_
 refine seq_skip hA rfl rfl rfl fun a hA => ?_
 refine seq_skip hA rfl rfl rfl fun a hA => ?_
 refine seq_do (v := .bool false) hA rfl rfl rfl (does_pick rfl rfl rfl rfl) fun a hA => ?_
 refine seq_end ?_
 refine hK11 _ _ ?_
 refine wp_cond_false (hA.ev rfl) ?_
 refine wp_exit ?_
 refine hK2 _ _ ?_
 refine wp_seq_k (fun K12 hK12 => ?_)
 refine wp_region_lit ?_
 refine seq_do hA rfl rfl rfl (does_move rfl) fun a hA => ?_
 refine seq_do hA rfl rfl rfl (does_assign rfl) fun a hA => ?_
 refine seq_end ?_
 refine hK12 _ _ ?_
 refine wp_ret ?_
 refine hret _ _ ?_
 refine ends (v := .slice so 0 2) hA rfl (.cons (res_tmp rfl) .nil) rfl ?_
 exact ⟨rfl, hM.bel⟩
theorem wof_fix0 {w : World} : Calls Tryz.prog 66 #[.int .u64 0] w fun e w' => ∃ g, e = .returned (.slice (some ⟨g, 0, none⟩) 0 2) ∧ Mg w w' [.row 57 1 (.slice (some ⟨g, 0, none⟩) 0 2) 0 []] := by
 have hM : Mg w w ([]) := Mg.start w
 refine walk_of (l := [(0, .int .u64 0)]) Tryz.func66 rfl Tryz.ntmps66 rfl rfl ?_
 intro Q hret hnorm hP a hA
 refine wp_seq_k (fun K1 hK1 => ?_)
 refine wp_region_lit ?_
 refine seq_do hA rfl rfl rfl (does_assign rfl) fun a hA => ?_
 refine seq_end ?_
 refine hK1 _ _ ?_
 refine wp_seq_k (fun K2 hK2 => ?_)
 refine wp_region_lit ?_
 refine seq_do hA rfl rfl rfl (does_move rfl) fun a hA => ?_
 refine seq_do (v := .int .u32 0) hA rfl rfl rfl (does_convert rfl (fun w => by kernel_rfl)) fun a hA => ?_
 refine seq_do hA rfl rfl rfl (does_move rfl) fun a hA => ?_
 refine seq_do (v := .int .u64 0) hA rfl rfl rfl (does_bin rfl rfl (fun w => by kernel_rfl)) fun a hA => ?_
 refine seq_do (v := .int .u32 0) hA rfl rfl rfl (does_convert rfl (fun w => by kernel_rfl)) fun a hA => ?_
 refine s_litE (e := 57) (sz := 1) (m := 2) (vs := [.int .u32 0, .int .u32 0]) hA hM rfl rfl rfl (does_buildSlice rfl (by kernel_rfl)) rfl rfl (.inl (by decide)) ?_
 intro g3 w4 hM a hA
 have hr9 : _ := hM.has 0 rfl
 have hc9 : ∀ j u, ([.int .u32 0, .int .u32 0] : List Value)[j]? = some u → World.cell? _ ⟨g3, j, none⟩ = some u := row_cellsZ hM 0 rfl
 refine seq_call hA rfl rfl rfl (enters_func rfl rfl (fun w => by kernel_rfl)) (trim_fix0 (so := some ⟨g3, 0, none⟩) rfl (row_ltZ hM 0 rfl) (hc9 0 _ rfl) (hc9 1 _ rfl)) ?_
 rintro _ w6 ⟨rfl, hb5⟩
 replace hM := hM.call hb5
 refine ⟨_, rfl, ?_⟩
 intro a hA
 refine seq_do hA rfl rfl rfl (does_assign rfl) fun a hA => ?_
 refine seq_end ?_
 refine hK2 _ _ ?_
 refine wp_ret ?_
 refine hret _ _ ?_
 refine ends (v := .slice (some ⟨g3, 0, none⟩) 0 2) hA rfl (.cons (res_tmp rfl) .nil) rfl ?_
 have h9 := hM.rowCut 0 rfl (m := 0) (by decide)
 exact ⟨g3, rfl, h9⟩
theorem nof_fix0 {w : World} : Calls Tryz.prog 40 #[.int .u64 0] w fun e w' => ∃ g, e = .returned (.slice (some ⟨g, 0, none⟩) 0 2) ∧ Mg w w' [.row 57 1 (.slice (some ⟨g, 0, none⟩) 0 2) 0 []] := by
 have hM : Mg w w ([]) := Mg.start w
 refine walk_of (l := [(0, .int .u64 0)]) Tryz.func40 rfl Tryz.ntmps40 rfl rfl ?_
 intro Q hret hnorm hP a hA
 refine wp_seq_k (fun K1 hK1 => ?_)
 refine wp_region_lit ?_
 refine seq_do hA rfl rfl rfl (does_assign rfl) fun a hA => ?_
 refine seq_end ?_
 refine hK1 _ _ ?_
 refine wp_seq_k (fun K2 hK2 => ?_)
 refine wp_region_lit ?_
 refine seq_do hA rfl rfl rfl (does_move rfl) fun a hA => ?_
 refine seq_call hA rfl rfl rfl (enters_func rfl rfl (fun w => by kernel_rfl)) (wof_fix0) ?_
 rintro _ w5 ⟨g3, rfl, hM4⟩
 replace hM : Mg w w5 (.row 57 1 (.slice (some ⟨g3, 0, none⟩) 0 2) 0 ([]) :: []) := (hM.both hM4 (noBld_quiet quietL_nil) (noBld_cons (by simp) (noBld_quiet quietL_nil)))
 refine ⟨_, rfl, ?_⟩
 intro a hA
 refine seq_do hA rfl rfl rfl (does_assign rfl) fun a hA => ?_
 refine seq_end ?_
 refine hK2 _ _ ?_
 refine wp_ret ?_
 refine hret _ _ ?_
 refine ends (v := .slice (some ⟨g3, 0, none⟩) 0 2) hA rfl (.cons (res_tmp rfl) .nil) rfl ?_
 exact ⟨_, rfl, hM⟩
theorem trim_fix1 {w : World} {so : Option Addr} {bq oq : Nat} (hq1 : so = some ⟨bq, oq, none⟩) (hq2 : bq < w.heap.size) (hq3 : w.cell? ⟨bq, oq + 0, none⟩ = some (.int .u32 1)) (hq4 : w.cell? ⟨bq, oq + 1, none⟩ = some (.int .u32 0)) : Calls Tryz.prog 82 #[.slice so 2 2] w fun e w' => e = .returned (.slice so 1 2) ∧ Below w.heap.size w w' := by
 have hM : Mg w w ([]) := Mg.start w
 refine walk_of (l := [(0, .slice so 2 2)]) Tryz.func82 rfl Tryz.ntmps82 rfl rfl ?_
 intro Q hret hnorm hP a hA
 refine wp_seq_k (fun K1 hK1 => ?_)
 refine wp_region_lit ?_
 refine seq_do hA rfl rfl rfl (does_assign rfl) fun a hA => ?_
 refine seq_end ?_
 refine hK1 _ _ ?_
 refine wp_seq_k (fun K2 hK2 => ?_)
 refine wp_block ?_
 refine wp_loop_rounds 3 ?_
 refine rounds_k ?_
 intro K3 hK3
 refine wp_seq_k (fun K4 hK4 => ?_)
 refine wp_seq_k (fun K5 hK5 => ?_)
 refine wp_region_lit ?_
 refine seq_do hA rfl rfl rfl (does_move rfl) fun a hA => ?_
 refine seq_do (v := .int .i64 2) hA rfl rfl rfl (does_len Tryz.underlying23 rfl) fun a hA => ?_
 refine seq_do (v := .bool true) hA rfl rfl rfl (does_bin rfl rfl (fun w => by kernel_rfl)) fun a hA => ?_
 refine seq_do hA rfl rfl rfl (does_move rfl) fun a hA => ?_
 refine seq_do hA rfl rfl rfl (does_move rfl) fun a hA => ?_
 refine seq_do hA rfl rfl rfl (does_move rfl) fun a hA => ?_
 refine seq_do (v := .int .i64 2) hA rfl rfl rfl (does_len Tryz.underlying23 rfl) fun a hA => ?_
 refine seq_do (v := .int .i64 1) hA rfl rfl rfl (does_bin rfl rfl (fun w => by kernel_rfl)) fun a hA => ?_
 refine seq_do (v := .pointer (some ⟨bq, oq + 1, none⟩)) hA rfl rfl rfl (does_indexRow (k := 1) Tryz.underlying23 (by kernel_rfl) rfl rfl rfl hq1 (by decide)) fun a hA => ?_
 refine seq_do (v := .int .u32 0) hA rfl rfl rfl (m_loadR hM hq2 hq4 ByW_is1_57 rfl) fun a hA => ?_
 refine seq_do (v := .bool true) hA rfl rfl rfl (does_bin rfl rfl (fun w => by kernel_rfl)) fun a hA => ?_
 refine seq_do (v := .bool true) hA rfl rfl rfl (does_pick rfl rfl rfl rfl) fun a hA => ?_
 refine seq_end ?_
 refine hK5 _ _ ?_
 refine wp_cond_true (hA.ev rfl) ?_
 refine wp_skip ?_
 refine hK4 _ _ ?_
 refine wp_block ?_
 refine wp_region_lit ?_
 refine seq_do hA rfl rfl rfl (does_move rfl) fun a hA => ?_
 refine seq_do hA rfl rfl rfl (does_move rfl) fun a hA => ?_
 refine seq_do (v := .int .i64 2) hA rfl rfl rfl (does_len Tryz.underlying23 rfl) fun a hA => ?_
 refine seq_do (v := .int .i64 1) hA rfl rfl rfl (does_bin rfl rfl (fun w => by kernel_rfl)) fun a hA => ?_
 refine seq_do (v := .slice so 1 2) hA rfl rfl rfl (does_upto (sz := 1) (hi := 1) Tryz.underlying23 (by kernel_rfl) rfl rfl rfl (by decide)) fun a hA => ?_
 refine seq_do hA rfl rfl rfl (does_assign rfl) fun a hA => ?_
 refine seq_end ?_
 refine hK3 _ _ ?_
 refine rounds_k ?_
 intro K6 hK6
 refine wp_seq_k (fun K7 hK7 => ?_)
 refine wp_seq_k (fun K8 hK8 => ?_)
 refine wp_region_lit ?_
 refine seq_do hA rfl rfl rfl (does_move rfl) fun a hA => ?_
 refine seq_do (v := .int .i64 1) hA rfl rfl rfl (does_len Tryz.underlying23 rfl) fun a hA => ?_
 refine seq_do (v := .bool true) hA rfl rfl rfl (does_bin rfl rfl (fun w => by kernel_rfl)) fun a hA => ?_
 refine seq_do hA rfl rfl rfl (does_move rfl) fun a hA => ?_
 refine seq_do hA rfl rfl rfl (does_move rfl) fun a hA => ?_
 refine seq_do hA rfl rfl rfl (does_move rfl) fun a hA => ?_
 refine seq_do (v := .int .i64 1) hA rfl rfl rfl (does_len Tryz.underlying23 rfl) fun a hA => ?_
 refine seq_do (v := .int .i64 0) hA rfl rfl rfl (does_bin rfl rfl (fun w => by kernel_rfl)) fun a hA => ?_
 refine seq_do (v := .pointer (some ⟨bq, oq + 0, none⟩)) hA rfl rfl rfl (does_indexRow (k := 0) Tryz.underlying23 (by kernel_rfl) rfl rfl rfl hq1 (by decide)) fun a hA => ?_
 refine seq_do (v := .int .u32 1) hA rfl rfl rfl (m_loadR hM hq2 hq3 ByW_is1_57 rfl) fun a hA => ?_
 refine seq_do (v := .bool false) hA rfl rfl rfl (does_bin rfl rfl (fun w => by kernel_rfl)) fun a hA => ?_
 refine seq_do (v := .bool false) hA rfl rfl rfl (does_pick rfl rfl rfl rfl) fun a hA => ?_
 refine seq_end ?_
 refine hK8 _ _ ?_
 refine wp_cond_false (hA.ev rfl) ?_
 refine wp_exit ?_
 refine hK2 _ _ ?_
 refine wp_seq_k (fun K9 hK9 => ?_)
 refine wp_region_lit ?_
 refine seq_do hA rfl rfl rfl (does_move rfl) fun a hA => ?_
 refine seq_do hA rfl rfl rfl (does_assign rfl) fun a hA => ?_
 refine seq_end ?_
 refine hK9 _ _ ?_
 refine wp_ret ?_
 refine hret _ _ ?_
 refine ends (v := .slice so 1 2) hA rfl (.cons (res_tmp rfl) .nil) rfl ?_
 exact ⟨rfl, hM.bel⟩
theorem wof_fix1 {w : World} : Calls Tryz.prog 66 #[.int .u64 1] w fun e w' => ∃ g, e = .returned (.slice (some ⟨g, 0, none⟩) 1 2) ∧ Mg w w' [.row 57 1 (.slice (some ⟨g, 0, none⟩) 1 2) 1 [.int .u32 1]] := by
 have hM : Mg w w ([]) := Mg.start w
 refine walk_of (l := [(0, .int .u64 1)]) Tryz.func66 rfl Tryz.ntmps66 rfl rfl ?_
 intro Q hret hnorm hP a hA
 refine wp_seq_k (fun K1 hK1 => ?_)
 refine wp_region_lit ?_
 refine seq_do hA rfl rfl rfl (does_assign rfl) fun a hA => ?_
 refine seq_end ?_
 refine hK1 _ _ ?_
 refine wp_seq_k (fun K2 hK2 => ?_)
 refine wp_region_lit ?_
 refine seq_do hA rfl rfl rfl (does_move rfl) fun a hA => ?_
 refine seq_do (v := .int .u32 1) hA rfl rfl rfl (does_convert rfl (fun w => by kernel_rfl)) fun a hA => ?_
 refine seq_do hA rfl rfl rfl (does_move rfl) fun a hA => ?_
 refine seq_do (v := .int .u64 0) hA rfl rfl rfl (does_bin rfl rfl (fun w => by kernel_rfl)) fun a hA => ?_
 refine seq_do (v := .int .u32 0) hA rfl rfl rfl (does_convert rfl (fun w => by kernel_rfl)) fun a hA => ?_
 refine s_litE (e := 57) (sz := 1) (m := 2) (vs := [.int .u32 1, .int .u32 0]) hA hM rfl rfl rfl (does_buildSlice rfl (by kernel_rfl)) rfl rfl (.inl (by decide)) ?_
 intro g3 w4 hM a hA
 have hr9 : _ := hM.has 0 rfl
 have hc9 : ∀ j u, ([.int .u32 1, .int .u32 0] : List Value)[j]? = some u → World.cell? _ ⟨g3, j, none⟩ = some u := row_cellsZ hM 0 rfl
 refine seq_call hA rfl rfl rfl (enters_func rfl rfl (fun w => by kernel_rfl)) (trim_fix1 (so := some ⟨g3, 0, none⟩) rfl (row_ltZ hM 0 rfl) (hc9 0 _ rfl) (hc9 1 _ rfl)) ?_
 rintro _ w6 ⟨rfl, hb5⟩
 replace hM := hM.call hb5
 refine ⟨_, rfl, ?_⟩
 intro a hA
 refine seq_do hA rfl rfl rfl (does_assign rfl) fun a hA => ?_
 refine seq_end ?_
 refine hK2 _ _ ?_
 refine wp_ret ?_
 refine hret _ _ ?_
 refine ends (v := .slice (some ⟨g3, 0, none⟩) 1 2) hA rfl (.cons (res_tmp rfl) .nil) rfl ?_
 have h9 := hM.rowCut 0 rfl (m := 1) (by decide)
 exact ⟨g3, rfl, h9⟩
theorem nof_fix1 {w : World} : Calls Tryz.prog 40 #[.int .u64 1] w fun e w' => ∃ g, e = .returned (.slice (some ⟨g, 0, none⟩) 1 2) ∧ Mg w w' [.row 57 1 (.slice (some ⟨g, 0, none⟩) 1 2) 1 [.int .u32 1]] := by
 have hM : Mg w w ([]) := Mg.start w
 refine walk_of (l := [(0, .int .u64 1)]) Tryz.func40 rfl Tryz.ntmps40 rfl rfl ?_
 intro Q hret hnorm hP a hA
 refine wp_seq_k (fun K1 hK1 => ?_)
 refine wp_region_lit ?_
 refine seq_do hA rfl rfl rfl (does_assign rfl) fun a hA => ?_
 refine seq_end ?_
 refine hK1 _ _ ?_
 refine wp_seq_k (fun K2 hK2 => ?_)
 refine wp_region_lit ?_
 refine seq_do hA rfl rfl rfl (does_move rfl) fun a hA => ?_
 refine seq_call hA rfl rfl rfl (enters_func rfl rfl (fun w => by kernel_rfl)) (wof_fix1) ?_
 rintro _ w5 ⟨g3, rfl, hM4⟩
 replace hM : Mg w w5 (.row 57 1 (.slice (some ⟨g3, 0, none⟩) 1 2) 1 ([.int .u32 1]) :: []) := (hM.both hM4 (noBld_quiet quietL_nil) (noBld_cons (by simp) (noBld_quiet quietL_nil)))
 refine ⟨_, rfl, ?_⟩
 intro a hA
 refine seq_do hA rfl rfl rfl (does_assign rfl) fun a hA => ?_
 refine seq_end ?_
 refine hK2 _ _ ?_
 refine wp_ret ?_
 refine hret _ _ ?_
 refine ends (v := .slice (some ⟨g3, 0, none⟩) 1 2) hA rfl (.cons (res_tmp rfl) .nil) rfl ?_
 exact ⟨_, rfl, hM⟩
theorem int_fix0 {w : World} : Calls Tryz.prog 22 #[.int .i64 0] w fun e w' => ∃ g1 g2 g3, e = .returned (.agg #[.bool false, .slice (some ⟨g1, 0, none⟩) 0 2, .slice (some ⟨g2, 0, none⟩) 1 2, .bool false, .slice none 0 0, .slice (some ⟨g3, 0, none⟩) 1 2]) ∧ Mg w w' [.row 57 1 (.slice (some ⟨g1, 0, none⟩) 0 2) 0 [], .row 57 1 (.slice (some ⟨g2, 0, none⟩) 1 2) 1 [.int .u32 1], .row 57 1 (.slice (some ⟨g3, 0, none⟩) 1 2) 1 [.int .u32 1]] := by
 have hM : Mg w w ([]) := Mg.start w
 refine walk_of (l := [(0, .int .i64 0)]) Tryz.func22 rfl Tryz.ntmps22 rfl rfl ?_
 intro Q hret hnorm hP a hA
 refine wp_seq_k (fun K1 hK1 => ?_)
 refine wp_region_lit ?_
 refine s_new (vs := [.bool false, .slice none 0 0, .slice none 0 0, .bool false, .slice none 0 0, .slice none 0 0]) (t := 27) hA hM rfl rfl rfl (fun g => .pointer (some ⟨g, 0, none⟩)) (does_alloc (z := .agg #[.bool false, .slice none 0 0, .slice none 0 0, .bool false, .slice none 0 0, .slice none 0 0]) (by kernel_rfl) rfl) (by decide) ?_
 intro g2 w3 hM a hA
 refine seq_end ?_
 refine hK1 _ _ ?_
 refine wp_seq_k (fun K4 hK4 => ?_)
 refine wp_region_lit ?_
 refine seq_do hA rfl rfl rfl (does_move rfl) fun a hA => ?_
 refine seq_do (v := .int .u64 0) hA rfl rfl rfl (does_convert rfl (fun w => by kernel_rfl)) fun a hA => ?_
 refine seq_do hA rfl rfl rfl (does_assign rfl) fun a hA => ?_
 refine seq_end ?_
 refine hK4 _ _ ?_
 refine wp_seq_k (fun K5 hK5 => ?_)
 refine wp_seq_k (fun K6 hK6 => ?_)
 refine wp_region_lit ?_
 refine seq_do hA rfl rfl rfl (does_move rfl) fun a hA => ?_
 refine seq_do (v := .bool false) hA rfl rfl rfl (does_bin rfl rfl (fun w => by kernel_rfl)) fun a hA => ?_
 refine seq_end ?_
 refine hK6 _ _ ?_
 refine wp_cond_false (hA.ev rfl) ?_
 refine wp_skip ?_
 refine hK5 _ _ ?_
 refine wp_seq_k (fun K7 hK7 => ?_)
 refine wp_region_lit ?_
 refine seq_do hA rfl rfl rfl (does_move rfl) fun a hA => ?_
 refine seq_do (v := .bool false) hA rfl rfl rfl (does_bin rfl rfl (fun w => by kernel_rfl)) fun a hA => ?_
 refine seq_do hA rfl rfl rfl (does_move rfl) fun a hA => ?_
 refine seq_call hA rfl rfl rfl (enters_func rfl rfl (fun w => by kernel_rfl)) (nof_fix0) ?_
 rintro _ w10 ⟨g8, rfl, hM9⟩
 replace hM : Mg w w10 (.row 57 1 (.slice (some ⟨g8, 0, none⟩) 0 2) 0 ([]) :: .obj g2 (.cells #[.bool false, .slice none 0 0, .slice none 0 0, .bool false, .slice none 0 0, .slice none 0 0] 27) :: []) := (hM.both hM9 (noBld_cons (by simp) (noBld_quiet quietL_nil)) (noBld_cons (by simp) (noBld_quiet quietL_nil)))
 refine ⟨_, rfl, ?_⟩
 intro a hA
 refine seq_call hA rfl rfl rfl (enters_func rfl rfl (fun w => by kernel_rfl)) (nof_fix1) ?_
 rintro _ w13 ⟨g11, rfl, hM12⟩
 replace hM : Mg w w13 (.row 57 1 (.slice (some ⟨g11, 0, none⟩) 1 2) 1 ([.int .u32 1]) :: .row 57 1 (.slice (some ⟨g8, 0, none⟩) 0 2) 0 ([]) :: .obj g2 (.cells #[.bool false, .slice none 0 0, .slice none 0 0, .bool false, .slice none 0 0, .slice none 0 0] 27) :: []) := (hM.both hM12 (noBld_cons (by simp) (noBld_cons (by simp) (noBld_quiet quietL_nil))) (noBld_cons (by simp) (noBld_quiet quietL_nil)))
 refine ⟨_, rfl, ?_⟩
 intro a hA
 refine seq_do (v := .agg #[.bool false, .slice (some ⟨g8, 0, none⟩) 0 2, .slice (some ⟨g11, 0, none⟩) 1 2]) hA rfl rfl rfl (does_build rfl (fun w => by kernel_rfl)) fun a hA => ?_
 refine seq_call hA rfl rfl rfl (enters_func rfl rfl (fun w => by kernel_rfl)) (nof_fix1) ?_
 rintro _ w16 ⟨g14, rfl, hM15⟩
 replace hM : Mg w w16 (.row 57 1 (.slice (some ⟨g14, 0, none⟩) 1 2) 1 ([.int .u32 1]) :: .row 57 1 (.slice (some ⟨g11, 0, none⟩) 1 2) 1 ([.int .u32 1]) :: .row 57 1 (.slice (some ⟨g8, 0, none⟩) 0 2) 0 ([]) :: .obj g2 (.cells #[.bool false, .slice none 0 0, .slice none 0 0, .bool false, .slice none 0 0, .slice none 0 0] 27) :: []) := (hM.both hM15 (noBld_cons (by simp) (noBld_cons (by simp) (noBld_cons (by simp) (noBld_quiet quietL_nil)))) (noBld_cons (by simp) (noBld_quiet quietL_nil)))
 refine ⟨_, rfl, ?_⟩
 intro a hA
 refine seq_do (v := .agg #[.bool false, .slice none 0 0, .slice (some ⟨g14, 0, none⟩) 1 2]) hA rfl rfl rfl (does_build rfl (fun w => by kernel_rfl)) fun a hA => ?_
 refine seq_do (v := .agg #[.bool false, .slice (some ⟨g8, 0, none⟩) 0 2, .slice (some ⟨g11, 0, none⟩) 1 2, .bool false, .slice none 0 0, .slice (some ⟨g14, 0, none⟩) 1 2]) hA rfl rfl rfl (does_build rfl (fun w => by kernel_rfl)) fun a hA => ?_
 refine s_store (us := [.bool false, .slice (some ⟨g8, 0, none⟩) 0 2, .slice (some ⟨g11, 0, none⟩) 1 2, .bool false, .slice none 0 0, .slice (some ⟨g14, 0, none⟩) 1 2]) (L' := (.row 57 1 (.slice (some ⟨g14, 0, none⟩) 1 2) 1 ([.int .u32 1]) :: .row 57 1 (.slice (some ⟨g11, 0, none⟩) 1 2) 1 ([.int .u32 1]) :: .row 57 1 (.slice (some ⟨g8, 0, none⟩) 0 2) 0 ([]) :: .obj g2 (.cells #[.bool false, .slice (some ⟨g8, 0, none⟩) 0 2, .slice (some ⟨g11, 0, none⟩) 1 2, .bool false, .slice none 0 0, .slice (some ⟨g14, 0, none⟩) 1 2] 27) :: [])) hA hM rfl rfl (m_store rfl rfl rfl (by kernel_rfl) hM 3 rfl rfl rfl) 3 rfl rfl rfl ?_
 intro w17 hM
 refine seq_end ?_
 refine hK7 _ _ ?_
 refine wp_ret ?_
 refine hret _ _ ?_
 refine ends (v := .agg #[.bool false, .slice (some ⟨g8, 0, none⟩) 0 2, .slice (some ⟨g11, 0, none⟩) 1 2, .bool false, .slice none 0 0, .slice (some ⟨g14, 0, none⟩) 1 2]) hA rfl (.cons (res_cellS hM ByW_isS_27 rfl 3 rfl (cs := [.bool false, .slice (some ⟨g8, 0, none⟩) 0 2, .slice (some ⟨g11, 0, none⟩) 1 2, .bool false, .slice none 0 0, .slice (some ⟨g14, 0, none⟩) 1 2]) rfl rfl) .nil) rfl ?_
 replace hM : Mg w w17 (.row 57 1 (.slice (some ⟨g14, 0, none⟩) 1 2) 1 ([.int .u32 1]) :: .row 57 1 (.slice (some ⟨g11, 0, none⟩) 1 2) 1 ([.int .u32 1]) :: .row 57 1 (.slice (some ⟨g8, 0, none⟩) 0 2) 0 ([]) :: []) := by
  have h9 := hM.sub (.cons_cons _ (.cons_cons _ (.cons_cons _ (.cons _ (.refl _)))))
  exact h9
 replace hM : Mg w w17 (.row 57 1 (.slice (some ⟨g11, 0, none⟩) 1 2) 1 ([.int .u32 1]) :: .row 57 1 (.slice (some ⟨g14, 0, none⟩) 1 2) 1 ([.int .u32 1]) :: .row 57 1 (.slice (some ⟨g8, 0, none⟩) 0 2) 0 ([]) :: []) := hM.perm (List.perm_middle (l₁ := [_]))
 replace hM : Mg w w17 (.row 57 1 (.slice (some ⟨g8, 0, none⟩) 0 2) 0 ([]) :: .row 57 1 (.slice (some ⟨g11, 0, none⟩) 1 2) 1 ([.int .u32 1]) :: .row 57 1 (.slice (some ⟨g14, 0, none⟩) 1 2) 1 ([.int .u32 1]) :: []) := hM.perm (List.perm_middle (l₁ := [_, _]))
 exact ⟨g8, g11, g14, rfl, hM⟩
theorem sc_nil {w : World} : Sc w none 0 [] := ⟨⟨fun x hx => (by cases hx), fun h => absurd rfl h⟩, fun _ => rfl, Nat.le_refl _⟩
end Go.Proofs.YtbajcflbimmnhaaGreatDoor.G
namespace Go.Proofs.YtbajcflbimmnhaaGreatDoor.G
set_option linter.unusedVariables false
set_option linter.unusedSimpArgs false
/-- The number of bytes, the lowest first. -/
def leN : List UInt8 → Nat
  | [] => 0
  | b :: t => b.toNat + 256 * leN t
/-- Four bytes a word. -/
def pkW : List UInt8 → List Nat
  | [] => []
  | [a] => [a.toNat]
  | [a, b] => [a.toNat + 256 * b.toNat]
  | [a, b, c] => [a.toNat + 256 * b.toNat + 65536 * c.toNat]
  | a :: b :: c :: d :: t => (a.toNat + 256 * b.toNat + 65536 * c.toNat + 16777216 * d.toNat) :: pkW t
theorem leN_append (s t : List UInt8) : leN (s ++ t) = leN s + 256 ^ s.length * leN t := by
  induction s with
  | nil => simp [leN]
  | cons b s ih =>
    rw [List.cons_append, leN, ih, leN, List.length_cons, Nat.pow_succ, Nat.mul_add, Nat.mul_comm (256 ^ s.length) 256, Nat.mul_assoc, Nat.add_assoc]
theorem leN_zeros : ∀ n : Nat, leN (List.replicate n 0) = 0
  | 0 => rfl
  | n + 1 => by rw [List.replicate_succ, leN, leN_zeros n]; rfl
theorem trimZ_split (l : List UInt8) : ∃ n, l = trimZ l ++ List.replicate n 0 := by
  have h : ∀ r : List UInt8, ∃ n, r = List.replicate n 0 ++ r.dropWhile (· == 0) := by
    intro r
    induction r with
    | nil => exact ⟨0, rfl⟩
    | cons b r ih =>
      by_cases hb : b = 0
      · subst hb
        obtain ⟨n, hn⟩ := ih
        refine ⟨n + 1, ?_⟩
        rw [List.dropWhile_cons_of_pos (by simp), List.replicate_succ, List.cons_append, ← hn]
      · exact ⟨0, by rw [List.dropWhile_cons_of_neg (by simpa using hb)]; rfl⟩
  obtain ⟨n, hn⟩ := h l.reverse
  refine ⟨n, ?_⟩
  have := congrArg List.reverse hn
  rw [List.reverse_reverse, List.reverse_append, List.reverse_replicate] at this
  exact this
theorem leN_trim (l : List UInt8) : leN (trimZ l) = leN l := by
  obtain ⟨n, hn⟩ := trimZ_split l
  rw [show leN l = leN (trimZ l ++ List.replicate n 0) from congrArg leN hn, leN_append, leN_zeros, Nat.mul_zero, Nat.add_zero]
theorem trimZ_last {l : List UInt8} (h : trimZ l ≠ []) : (trimZ l).getLast h ≠ 0 := by
  unfold trimZ at h ⊢
  rw [List.getLast_reverse]
  have h2 : l.reverse.dropWhile (· == 0) ≠ [] := fun k => h (by rw [k]; rfl)
  have := List.head_dropWhile_not (p := (· == 0)) (l := l.reverse) h2
  simpa using this
theorem u8_lt9 (b : UInt8) : b.toNat < 256 := UInt8.toNat_lt b
/-- Bytes whose last is not 0 are the words of their number. -/
theorem pkW_words : ∀ (l : List UInt8), (∀ h : l ≠ [], l.getLast h ≠ 0) → pkW l = words (leN l)
  | [], _ => by rw [leN, words_zero]; rfl
  | [a], h => by
    have h1 := u8_lt9 a
    have h2 : a.toNat ≠ 0 := fun k => h (by simp) (UInt8.toNat_inj.1 k)
    rw [show leN [a] = a.toNat from by simp [leN], words_pos h2, Nat.mod_eq_of_lt (by omega), Nat.div_eq_of_lt (by omega), words_zero]
    rfl
  | [a, b], h => by
    have h1 := u8_lt9 a
    have h3 := u8_lt9 b
    have h2 : b.toNat ≠ 0 := fun k => h (by simp) (UInt8.toNat_inj.1 k)
    rw [show leN [a, b] = a.toNat + 256 * b.toNat from by simp [leN], words_pos (by omega), Nat.mod_eq_of_lt (by omega), Nat.div_eq_of_lt (by omega), words_zero]
    rfl
  | [a, b, c], h => by
    have h1 := u8_lt9 a
    have h3 := u8_lt9 b
    have h4 := u8_lt9 c
    have h2 : c.toNat ≠ 0 := fun k => h (by simp) (UInt8.toNat_inj.1 k)
    rw [show leN [a, b, c] = a.toNat + 256 * b.toNat + 65536 * c.toNat from by simp [leN]; omega, words_pos (by omega), Nat.mod_eq_of_lt (by omega), Nat.div_eq_of_lt (by omega), words_zero]
    rfl
  | a :: b :: c :: d :: t, h => by
    have h1 := u8_lt9 a
    have h3 := u8_lt9 b
    have h4 := u8_lt9 c
    have h5 := u8_lt9 d
    have e : leN (a :: b :: c :: d :: t) = (a.toNat + 256 * b.toNat + 65536 * c.toNat + 16777216 * d.toNat) + 4294967296 * leN t := by simp only [leN]; omega
    have hne : leN (a :: b :: c :: d :: t) ≠ 0 := by
      rw [e]
      cases t with
      | nil =>
        have h2 : d.toNat ≠ 0 := fun k => h (by simp) (UInt8.toNat_inj.1 k)
        omega
      | cons x t =>
        have ih := pkW_words (x :: t) (fun hx => by have := h (by simp); simpa using this)
        intro k9
        have h0 : leN (x :: t) = 0 := by omega
        rw [h0, words_zero] at ih
        have : ∀ s : List UInt8, s ≠ [] → pkW s ≠ [] := by
          intro s hs
          match s, hs with
          | [_], _ => simp [pkW]
          | [_, _], _ => simp [pkW]
          | [_, _, _], _ => simp [pkW]
          | _ :: _ :: _ :: _ :: _, _ => simp [pkW]
        exact this _ (by simp) ih
    have ih := pkW_words t (fun hx => by
      have := h (by simp)
      rw [List.getLast_cons (by simp), List.getLast_cons (by simp), List.getLast_cons (by simp), List.getLast_cons hx] at this
      exact this)
    rw [words_pos hne, e, Nat.add_mul_mod_self_left, Nat.mod_eq_of_lt (by omega), Nat.add_mul_div_left _ _ (by omega), Nat.div_eq_of_lt (by omega), Nat.zero_add, ← ih]
    rfl
/-- The k-th word of the first i bytes. -/
def wdK (t : List UInt8) (i k : Nat) : Nat := leN (((t.take i).drop (4 * k)).take 4)
theorem pkW_range : ∀ t : List UInt8, pkW t = (List.range ((t.length + 3) / 4)).map fun k => leN ((t.drop (4 * k)).take 4)
  | [] => rfl
  | [a] => by simp [pkW, leN, List.range_succ]
  | [a, b] => by simp [pkW, leN, List.range_succ]
  | [a, b, c] => by
    have e : ([a, b, c].length + 3) / 4 = 1 := by simp
    rw [e]
    simp only [pkW, List.range_one, List.map_cons, List.map_nil, List.cons.injEq, and_true, Nat.mul_zero, List.drop_zero]
    simp only [List.take_succ_cons, List.take_nil, leN]
    omega
  | a :: b :: c :: d :: t => by
    have e : ((a :: b :: c :: d :: t).length + 3) / 4 = (t.length + 3) / 4 + 1 := by simp only [List.length_cons]; omega
    rw [e, List.range_succ_eq_map, List.map_cons, List.map_map, pkW, pkW_range t]
    congr 1
    · simp only [Nat.mul_zero, List.drop_zero, List.take_succ_cons, List.take_zero, leN]
      omega
theorem wdK_all {t : List UInt8} {k : Nat} : wdK t t.length k = leN ((t.drop (4 * k)).take 4) := by
  unfold wdK; rw [List.take_of_length_le (Nat.le_refl _)]
theorem leN_lt : ∀ l : List UInt8, leN l < 256 ^ l.length
  | [] => by simp [leN]
  | b :: t => by
    have h1 := leN_lt t
    have h2 := u8_lt9 b
    rw [leN, List.length_cons, Nat.pow_succ]
    omega
theorem wdK_other {t : List UInt8} {i k : Nat} (hi : i < t.length) (hk : k ≠ i / 4) : wdK t (i + 1) k = wdK t i k := by
  unfold wdK
  rw [show t.take (i + 1) = t.take i ++ [t[i]] from by rw [List.take_add_one, List.getElem?_eq_getElem hi]; rfl]
  by_cases h : i < 4 * k
  · rw [List.drop_eq_nil_of_le (by rw [List.length_append, List.length_take]; simp only [List.length_cons, List.length_nil]; omega), List.drop_eq_nil_of_le (by rw [List.length_take]; omega)]
  · rw [List.drop_append_of_le_length (by rw [List.length_take]; omega), List.take_append_of_le_length (by rw [List.length_drop, List.length_take]; omega)]
theorem wdK_this {t : List UInt8} {i : Nat} (hi : i < t.length) : wdK t (i + 1) (i / 4) = wdK t i (i / 4) + 256 ^ (i % 4) * t[i].toNat ∧ wdK t i (i / 4) < 256 ^ (i % 4) := by
  have e1 : ((t.take i).drop (4 * (i / 4))).length = i % 4 := by rw [List.length_drop, List.length_take]; omega
  have e2 : ((t.take i).drop (4 * (i / 4))).take 4 = (t.take i).drop (4 * (i / 4)) := List.take_of_length_le (by omega)
  unfold wdK
  rw [show t.take (i + 1) = t.take i ++ [t[i]] from by rw [List.take_add_one, List.getElem?_eq_getElem hi]; rfl]
  rw [List.drop_append_of_le_length (by rw [List.length_take]; omega), List.take_of_length_le (by rw [List.length_append, e1]; simp only [List.length_cons, List.length_nil]; omega), e2, leN_append, e1]
  refine ⟨by simp [leN], ?_⟩
  have := leN_lt ((t.take i).drop (4 * (i / 4)))
  rw [e1] at this
  exact this
theorem or_add {a x s : Nat} (h : a < 2 ^ s) : a ||| (x <<< s) = a + 2 ^ s * x := by
  rw [Nat.or_comm, ← Nat.shiftLeft_add_eq_or_of_lt h, Nat.shiftLeft_eq, Nat.add_comm, Nat.mul_comm]
end Go.Proofs.YtbajcflbimmnhaaGreatDoor.G
namespace Go.Proofs.YtbajcflbimmnhaaGreatDoor.G
open Go.RowKit
set_option linter.unusedVariables false
set_option linter.unusedSimpArgs false
set_option maxRecDepth 100000
theorem ByN_is1_5 : Is1 Tryz.prog 5 := ⟨⟨_, Tryz.underlying5, rfl⟩, by kernel_rfl⟩
theorem ByN_is1_57 : Is1 Tryz.prog 57 := ⟨⟨_, Tryz.underlying57, rfl⟩, by kernel_rfl⟩
theorem ByN_fld_25_1 : FieldAt Tryz.prog 25 1 1 := ⟨_, _, Tryz.underlying25, rfl, rfl, by kernel_rfl⟩
theorem ByN_fld_27_0 : FieldAt Tryz.prog 27 0 0 := ⟨_, _, Tryz.underlying27, rfl, rfl, by kernel_rfl⟩
theorem ByN_isS_27 : IsS Tryz.prog 27 6 := ⟨⟨_, Tryz.underlying27⟩, by kernel_rfl⟩
def uC (ws : List Nat) : List Value := ws.map fun x => .int .u32 ((x : Nat) : Int)
def wsI (t : List UInt8) (m i : Nat) : List Nat := (List.range m).map (wdK t i)
theorem made_zeros (n : Nat) : (madeCells (Value.int .u32 0).cells (n * 1)).toList = uC (wsI [] n 0) := by
 unfold madeCells uC wsI
 rw [Array.toList_map, Array.toList_range, Nat.mul_one, List.map_map]
 refine List.map_congr_left fun k _ => ?_
 show (Value.int .u32 0).cells[k % 1]! = _
 rw [Nat.mod_one]
 simp [wdK, leN]
 rfl
theorem wsI_zero (t : List UInt8) (m : Nat) : wsI [] m 0 = wsI t m 0 := by
 unfold wsI
 refine List.map_congr_left fun k _ => ?_
 simp [wdK]
theorem rb_trim {w : World} {so : Option Addr} {l : List UInt8} (h : Rb w so l) : Rb w so (trimZ l) := by
 obtain ⟨n, hn⟩ := trimZ_split l
 have e : l.take (trimZ l).length = trimZ l := by
  rw [show l.take (trimZ l).length = (trimZ l ++ List.replicate n 0).take (trimZ l).length from congrArg (List.take _) hn, List.take_left]
 exact e ▸ h.takeZ _
theorem wsI_get {t : List UInt8} {m i k : Nat} (h : k < m) : (uC (wsI t m i))[k * 1]? = some (.int .u32 ((wdK t i k : Nat) : Int)) := by
 rw [Nat.mul_one]
 unfold uC wsI
 rw [List.map_map, List.getElem?_map, List.getElem?_range h]
 rfl
theorem wsI_step {t : List UInt8} {m i : Nat} (hi : i < t.length) (hm : i / 4 < m) : over (uC (wsI t m i)) (i / 4 * 1) [.int .u32 ((wdK t (i + 1) (i / 4) : Nat) : Int)] = uC (wsI t m (i + 1)) := by
 rw [Nat.mul_one]
 show (uC (wsI t m i)).set (i / 4) _ = _
 refine List.ext_getElem? fun k => ?_
 have hl : (uC (wsI t m i)).length = m := by simp [uC, wsI]
 by_cases e : k = i / 4
 ·
  subst e
  rw [List.getElem?_set_self (by omega)]
  have := wsI_get (t := t) (i := i + 1) hm
  rw [Nat.mul_one] at this
  exact this.symm
 ·
  rw [List.getElem?_set_ne (fun k9 => e k9.symm)]
  by_cases hk : k < m
  ·
   have h1 := wsI_get (t := t) (i := i) hk
   have h2 := wsI_get (t := t) (i := i + 1) hk
   rw [Nat.mul_one] at h1 h2
   rw [h1, h2, wdK_other hi e]
  ·
   rw [List.getElem?_eq_none (by omega), List.getElem?_eq_none (by simp [uC, wsI]; omega)]
theorem wsI_done {l : List UInt8} : wsI (trimZ l) (((trimZ l).length + 3) / 4) (trimZ l).length = words (leN l) := by
 unfold wsI
 rw [← leN_trim l, ← pkW_words (trimZ l) (fun h => trimZ_last h), pkW_range]
 exact List.map_congr_left fun k _ => wdK_all
theorem pow256 {r : Nat} : 256 ^ r = 2 ^ (r * 8) := by
 rw [Nat.mul_comm, Nat.pow_mul]
theorem wd_or {t : List UInt8} {i : Nat} (hi : i < t.length) : bits .or .u32 ((wdK t i (i / 4) : Nat) : Int) (((t.getD i 0).toNat * 2 ^ (i % 4 * 8) : Nat) : Int) = ((wdK t (i + 1) (i / 4) : Nat) : Int) ∧ (t.getD i 0).toNat * 2 ^ (i % 4 * 8) < 4294967296 := by
 obtain ⟨h1, h2⟩ := wdK_this hi
 have hx : t[i].toNat < 256 := UInt8.toNat_lt _
 have e : t.getD i 0 = t[i] := by rw [List.getD_eq_getElem?_getD, List.getElem?_eq_getElem hi]; rfl
 rw [e]
 have hp : 2 ^ (i % 4 * 8) ≤ 16777216 := by
  have : i % 4 = 0 ∨ i % 4 = 1 ∨ i % 4 = 2 ∨ i % 4 = 3 := by omega
  rcases this with h | h | h | h <;> rw [h] <;> decide
 have hb : t[i].toNat * 2 ^ (i % 4 * 8) < 4294967296 := by
  have := Nat.mul_le_mul (show t[i].toNat ≤ 255 by omega) hp
  omega
 rw [pow256] at h1 h2
 refine ⟨?_, hb⟩
 rw [or_u32 _ _ (by omega) hb, h1, ← Nat.shiftLeft_eq, or_add h2]
theorem nat_shl (x s : Nat) : ((x * 2 ^ s : Nat) : Int) = ((x : Nat) : Int) * 2 ^ s := by rw [Int.natCast_mul, Int.natCast_pow]; rfl
theorem natural_any {w : World} {so : Option Addr} {ca : Nat} {l : List UInt8} (hb : Rb w so l) (hca : l.length ≤ ca) (hl : l.length ≤ 64) : Calls Tryz.prog 41 #[.slice so l.length ca] w fun e w' => ∃ g1 g2 g3, e = .returned (.agg #[.bool false, .slice (some ⟨g1, 0, none⟩) (words (leN l)).length (words (leN l)).length, .slice (some ⟨g2, 0, none⟩) 1 2, .bool false, .slice none 0 0, .slice (some ⟨g3, 0, none⟩) 1 2]) ∧ Mg w w' [.row 57 1 (.slice (some ⟨g1, 0, none⟩) (words (leN l)).length (words (leN l)).length) (words (leN l)).length (uC (words (leN l))), .row 57 1 (.slice (some ⟨g2, 0, none⟩) 1 2) 1 [.int .u32 1], .row 57 1 (.slice (some ⟨g3, 0, none⟩) 1 2) 1 [.int .u32 1]] := by
 obtain ⟨t, ht⟩ : ∃ t, t = trimZ l := ⟨_, rfl⟩
 have hbt : Rb w so t := ht ▸ rb_trim hb
 have htl : t.length ≤ 64 := by
  obtain ⟨n, hn⟩ := trimZ_split l
  have h9 := congrArg List.length hn
  rw [List.length_append, ← ht] at h9
  omega
 have hM : Mg w w ([]) := Mg.start w
 refine walk_of (l := [(0, .slice so l.length ca)]) Tryz.func41 rfl Tryz.ntmps41 rfl rfl ?_
 intro Q hret hnorm hP a hA
 refine wp_seq_k (fun K1 hK1 => ?_)
 refine wp_region_lit ?_
 refine s_new (vs := [.bool false, .slice none 0 0, .slice none 0 0, .bool false, .slice none 0 0, .slice none 0 0]) (t := 27) hA hM rfl rfl rfl (fun g => .pointer (some ⟨g, 0, none⟩)) (does_alloc (z := .agg #[.bool false, .slice none 0 0, .slice none 0 0, .bool false, .slice none 0 0, .slice none 0 0]) (by kernel_rfl) rfl) (by decide) ?_
 intro g2 w3 hM a hA
 refine seq_end ?_
 refine hK1 _ _ ?_
 refine wp_seq_k (fun K4 hK4 => ?_)
 refine wp_region_lit ?_
 refine seq_do hA rfl rfl rfl (does_move rfl) fun a hA => ?_
 refine seq_call hA rfl rfl rfl (enters_func rfl rfl (fun w => by kernel_rfl)) ((show Calls Tryz.prog 67 _ _ (fun e w' => e = .returned (.slice so t.length ca) ∧ Below _ _ w') from ht ▸ trimRight_any (hb.below hM.bel) (by omega) hca)) ?_
 rintro _ w6 ⟨rfl, hb5⟩
 replace hM := hM.call hb5
 refine ⟨_, rfl, ?_⟩
 intro a hA
 refine seq_do hA rfl rfl rfl (does_assign rfl) fun a hA => ?_
 refine seq_end ?_
 refine hK4 _ _ ?_
 refine wp_seq_k (fun K7 hK7 => ?_)
 refine wp_region_lit ?_
 refine seq_do hA rfl rfl rfl (does_move rfl) fun a hA => ?_
 refine seq_do (v := .int .i64 (((t.length : Nat) : Int))) hA rfl rfl rfl (does_len Tryz.underlying22 rfl) fun a hA => ?_
 refine seq_do (v := .int .i64 (((t.length + 4 : Nat) : Int))) hA rfl rfl rfl (does_bin rfl rfl (ar_add ((in_i64 (by omega) (by omega)).trans (by omega)))) fun a hA => ?_
 refine seq_do (v := .int .i64 (((t.length + 3 : Nat) : Int))) hA rfl rfl rfl (does_bin rfl rfl (ar_sub ((in_i64 (by omega) (by omega)).trans (by omega)))) fun a hA => ?_
 refine seq_do (v := .int .i64 ((((t.length + 3) / 4 : Nat) : Int))) hA rfl rfl rfl (does_bin rfl rfl (ar_quo (by decide) ((congrArg IntKind.i64.wrap (Int.tdiv_eq_ediv_of_nonneg (by omega))).trans ((in_i64 (by omega) (by omega)).trans (by omega))))) fun a hA => ?_
 refine s_makeE (z := .int .u32 0) (sz := 1) (by_ := 4) (m := (t.length + 3) / 4) hA hM Tryz.underlying23 (by kernel_rfl) rfl rfl rfl rfl rfl rfl (by omega) (by omega) (.inl (by decide)) ?_
 intro gw w8 hM a hA
 rw [made_zeros, wsI_zero t] at hM
 refine seq_do hA rfl rfl rfl (does_assign rfl) fun a hA => ?_
 refine seq_end ?_
 refine hK7 _ _ ?_
 refine wp_seq_k (fun K9 hK9 => ?_)
 refine wp_seq_k (fun K10 hK10 => ?_)
 refine wp_region_lit ?_
 refine seq_do hA rfl rfl rfl (does_move rfl) fun a hA => ?_
 refine seq_do (v := .int .i64 (((t.length : Nat) : Int))) hA rfl rfl rfl (does_len Tryz.underlying22 rfl) fun a hA => ?_
 refine seq_do hA rfl rfl rfl (does_move rfl) fun a hA => ?_
 refine seq_end ?_
 refine hK10 _ _ ?_
 refine wp_block ?_
 refine wp_loop_n (fun m_ a w1 => ∃ (i : Nat), m_ = t.length - i ∧ (i ≤ t.length) ∧ Sl a 41 [(0, .slice so t.length ca), (2, .pointer (some ⟨g2, 0, none⟩)), (3, .slice (some ⟨gw, 0, none⟩) (((t.length + 3) / 4)) (((t.length + 3) / 4))), (7, .slice so l.length ca), (8, .slice so t.length ca), (9, .slice so t.length ca), (10, .int .i64 (((t.length : Nat) : Int))), (11, .int .i64 (((t.length + 4 : Nat) : Int))), (12, .int .i64 (((t.length + 3 : Nat) : Int))), (13, .int .i64 ((((t.length + 3) / 4 : Nat) : Int))), (14, .slice (some ⟨gw, 0, none⟩) (((t.length + 3) / 4)) (((t.length + 3) / 4))), (15, .slice so t.length ca), (16, .int .i64 (((t.length : Nat) : Int))), (17, .int .i64 (((i : Nat) : Int)))] ∧ Mg w w1 (.row 57 1 (.slice (some ⟨gw, 0, none⟩) (((t.length + 3) / 4)) (((t.length + 3) / 4))) (((t.length + 3) / 4)) ((uC (wsI t ((t.length + 3) / 4) i))) :: .obj g2 (.cells #[.bool false, .slice none 0 0, .slice none 0 0, .bool false, .slice none 0 0, .slice none 0 0] 27) :: [])) _ ⟨0, rfl, Nat.zero_le _, hA.keep _ ⟨rfl, rfl, rfl, rfl, rfl, rfl, rfl, rfl, rfl, rfl, rfl, rfl, rfl, rfl, trivial⟩, hM⟩ ?_
 clear hM hA
 rintro m_ a w11 ⟨i, rfl, hinv13, hA, hM⟩ K12 hK12
 have hi9 := hinv13
 refine wp_seq_k (fun K14 hK14 => ?_)
 refine wp_region_lit ?_
 rcases Bool.eq_false_or_eq_true (decide (((i : Nat) : Int) < ((t.length : Nat) : Int))) with hb15 | hb15
 ·
  have hb15' := of_decide_eq_true hb15
  refine seq_do (v := .bool true) hA rfl rfl rfl (does_bin rfl rfl (fun w => (bin_lss w).trans (by rw [hb15]))) fun a hA => ?_
  refine seq_end ?_
  refine hK14 _ _ ?_
  refine wp_seq_k (fun K16 hK16 => ?_)
  refine wp_cond_true (hA.ev rfl) ?_
  refine wp_skip ?_
  refine hK16 _ _ ?_
  refine wp_seq_k (fun K17 hK17 => ?_)
  refine wp_block ?_
  refine wp_seq_k (fun K18 hK18 => ?_)
  refine wp_region_lit ?_
  refine seq_do hA rfl rfl rfl (does_move rfl) fun a hA => ?_
  obtain ⟨bx, ox, hx1, hx2, hx3⟩ := rb_open (i := i) hbt (by omega)
  have hX8 : (t.getD i 0).toNat < 256 := UInt8.toNat_lt _
  obtain ⟨hwo, hwb⟩ := wd_or (t := t) (i := i) (by omega)
  refine seq_do (v := .pointer (some ⟨bx, ox + i, none⟩)) hA rfl rfl rfl (does_indexRow Tryz.underlying22 (by kernel_rfl) rfl rfl rfl hx1 (show i < t.length by omega)) fun a hA => ?_
  refine seq_do (v := .int .u8 ((((t.getD i 0).toNat : Nat) : Int))) hA rfl rfl rfl (m_loadR hM hx2 (hx3 i (by omega)) ByN_is1_5 rfl) fun a hA => ?_
  refine seq_do hA rfl rfl rfl (does_assign rfl) fun a hA => ?_
  refine seq_do hA rfl rfl rfl (does_assign rfl) fun a hA => ?_
  refine seq_end ?_
  refine hK18 _ _ ?_
  refine wp_draw (S := fun w1 => Mg w w1 ([])) (by kernel_rfl) ?_
  replace hM := hM.drew
  refine any_tk hA 0 rfl rfl rfl rfl hP (hM.sub (.cons _ (.cons _ (List.nil_sublist _)))) (fun w1 hM => does_move rfl) fun a hA => ?_
  refine any_tk hA 1 rfl rfl rfl rfl hP (hM.sub (.cons _ (.cons _ (List.nil_sublist _)))) (fun w1 hM => does_move rfl) fun a hA => ?_
  refine any_tk (v := .int .i64 ((((i) / 4 : Nat) : Int))) hA 2 rfl rfl rfl rfl hP (hM.sub (.cons _ (.cons _ (List.nil_sublist _)))) (fun w1 hM => does_bin rfl rfl (ar_quo (by decide) ((congrArg IntKind.i64.wrap (Int.tdiv_eq_ediv_of_nonneg (by omega))).trans ((in_i64 (by omega) (by omega)).trans (by omega))))) fun a hA => ?_
  refine any_tk (v := .pointer (some ⟨gw, (i / 4) * 1, none⟩)) hA 3 rfl rfl rfl rfl hP (hM.sub (.cons _ (.cons _ (List.nil_sublist _)))) (fun w1 hM => does_indexE Tryz.underlying23 (by kernel_rfl) rfl rfl rfl (show i / 4 < (t.length + 3) / 4 by omega)) fun a hA => ?_
  refine any_tk hA 5 rfl rfl rfl rfl hP (hM.sub (.cons _ (.cons _ (List.nil_sublist _)))) (fun w1 hM => does_move rfl) fun a hA => ?_
  refine any_tk (v := .int .u32 ((((t.getD i 0).toNat : Nat) : Int))) hA 6 rfl rfl rfl rfl hP (hM.sub (.cons _ (.cons _ (List.nil_sublist _)))) (fun w1 hM => does_convert rfl (ar_conv Tryz.underlying5 Tryz.underlying57 (in_u32 (by omega) (by omega)))) fun a hA => ?_
  refine any_tk hA 7 rfl rfl rfl rfl hP (hM.sub (.cons _ (.cons _ (List.nil_sublist _)))) (fun w1 hM => does_move rfl) fun a hA => ?_
  refine any_tk (v := .int .i64 (((i % 4 : Nat) : Int))) hA 8 rfl rfl rfl rfl hP (hM.sub (.cons _ (.cons _ (List.nil_sublist _)))) (fun w1 hM => does_bin rfl rfl (ar_rem (by decide) ((Int.tmod_eq_emod_of_nonneg (by omega)).trans (by omega)))) fun a hA => ?_
  refine any_tk (v := .int .i64 (((i % 4 * 8 : Nat) : Int))) hA 9 rfl rfl rfl rfl hP (hM.sub (.cons _ (.cons _ (List.nil_sublist _)))) (fun w1 hM => does_bin rfl rfl (ar_mul ((in_i64 (by omega) (by omega)).trans (by omega)))) fun a hA => ?_
  refine any_tk (v := .int .u32 ((((t.getD i 0).toNat * 2 ^ (i % 4 * 8) : Nat) : Int))) hA 10 rfl rfl rfl rfl hP (hM.sub (.cons _ (.cons _ (List.nil_sublist _)))) (fun w1 hM => does_bin rfl rfl (ar_shl (n := i % 4 * 8) rfl (Nat.ble_eq_true_of_le (show i % 4 * 8 ≤ 32 by omega)) ((in_u32 (by rw [← nat_shl]; omega) (by rw [← nat_shl]; omega)).trans (nat_shl _ _).symm))) fun a hA => ?_
  refine any_one (by kernel_rfl) (op_do (v := .int .u32 (((wdK t i (i / 4) : Nat) : Int))) hA 4 rfl rfl rfl rfl (m_loadX hM 0 rfl (wsI_get (by omega)) ByN_is1_57 rfl) (hM.sub (.cons _ (.cons _ (List.nil_sublist _)))) ?_)
  intro a hA
  refine any_tk (v := .int .u32 (((wdK t (i + 1) (i / 4) : Nat) : Int))) hA 11 rfl rfl rfl rfl hP (hM.sub (.cons _ (.cons _ (List.nil_sublist _)))) (fun w1 hM => does_bin rfl rfl (ar_or hwo)) fun a hA => ?_
  refine any_tk (v := .pointer (some ⟨gw, (i / 4) * 1, none⟩)) hA 12 rfl rfl rfl rfl hP (hM.sub (.cons _ (.cons _ (List.nil_sublist _)))) (fun w1 hM => does_indexE Tryz.underlying23 (by kernel_rfl) rfl rfl rfl (show i / 4 < (t.length + 3) / 4 by omega)) fun a hA => ?_
  refine any_one (by kernel_rfl) (g_storeE (cs := [.int .u32 (((wdK t (i + 1) (i / 4) : Nat) : Int))]) (L' := (.row 57 1 (.slice (some ⟨gw, 0, none⟩) (((t.length + 3) / 4)) (((t.length + 3) / 4))) (((t.length + 3) / 4)) ((over (uC (wsI t ((t.length + 3) / 4) i)) ((i / 4) * 1) [.int .u32 (((wdK t (i + 1) (i / 4) : Nat) : Int))])) :: .obj g2 (.cells #[.bool false, .slice none 0 0, .slice none 0 0, .bool false, .slice none 0 0, .slice none 0 0] 27) :: [])) (us := []) hA hM 13 rfl rfl rfl (m_storeE rfl rfl rfl (by kernel_rfl) hM 0 rfl (show (i / 4) * 1 + 1 ≤ (t.length + 3) / 4 * 1 by omega) rfl) 0 rfl rfl ?_)
  intro w19 hM
  replace hM : Mg w w19 (.row 57 1 (.slice (some ⟨gw, 0, none⟩) (((t.length + 3) / 4)) (((t.length + 3) / 4))) (((t.length + 3) / 4)) ((uC (wsI t ((t.length + 3) / 4) (i + 1)))) :: .obj g2 (.cells #[.bool false, .slice none 0 0, .slice none 0 0, .bool false, .slice none 0 0, .slice none 0 0] 27) :: []) := by
   have h9 := hM
   rw [wsI_step (by omega) (by omega)] at h9
   exact h9
  refine ⟨(hM.sub (.cons _ (.cons _ (List.nil_sublist _)))), ?_⟩
  refine any_end (by kernel_rfl) ?_
  refine hK17 _ _ ?_
  refine wp_region_lit ?_
  refine seq_do (v := .int .i64 (((i + 1 : Nat) : Int))) hA rfl rfl rfl (does_bin rfl rfl (ar_add ((in_i64 (by omega) (by omega)).trans (by omega)))) fun a hA => ?_
  refine seq_do hA rfl rfl rfl (does_move rfl) fun a hA => ?_
  refine seq_end ?_
  refine hK12 _ _ _ (by omega) ⟨i + 1, rfl, (by omega), hA.keep _ ⟨rfl, rfl, rfl, rfl, rfl, rfl, rfl, rfl, rfl, rfl, rfl, rfl, rfl, rfl, trivial⟩, hM⟩
 ·
  have hb15' := of_decide_eq_false hb15
  refine seq_do (v := .bool false) hA rfl rfl rfl (does_bin rfl rfl (fun w => (bin_lss w).trans (by rw [hb15]))) fun a hA => ?_
  refine seq_end ?_
  refine hK14 _ _ ?_
  refine wp_seq_k (fun K20 hK20 => ?_)
  refine wp_cond_false (hA.ev rfl) ?_
  refine wp_exit ?_
  refine hK9 _ _ ?_
  refine wp_seq_k (fun K21 hK21 => ?_)
  refine wp_region_lit ?_
  refine seq_call hA rfl rfl rfl (enters_func rfl rfl (fun w => by kernel_rfl)) (int_fix0) ?_
  rintro _ w26 ⟨g22, g23, g24, rfl, hM25⟩
  replace hM : Mg w w26 (.row 57 1 (.slice (some ⟨g22, 0, none⟩) 0 2) 0 ([]) :: .row 57 1 (.slice (some ⟨g23, 0, none⟩) 1 2) 1 ([.int .u32 1]) :: .row 57 1 (.slice (some ⟨g24, 0, none⟩) 1 2) 1 ([.int .u32 1]) :: .row 57 1 (.slice (some ⟨gw, 0, none⟩) (((t.length + 3) / 4)) (((t.length + 3) / 4))) (((t.length + 3) / 4)) ((uC (wsI t ((t.length + 3) / 4) i))) :: .obj g2 (.cells #[.bool false, .slice none 0 0, .slice none 0 0, .bool false, .slice none 0 0, .slice none 0 0] 27) :: []) := (hM.both hM25 (noBld_cons (by simp) (noBld_cons (by simp) (noBld_quiet quietL_nil))) (noBld_cons (by simp) (noBld_cons (by simp) (noBld_cons (by simp) (noBld_quiet quietL_nil)))))
  refine ⟨_, rfl, ?_⟩
  intro a hA
  refine s_new (vs := [.bool false, .slice none 0 0, .slice none 0 0, .bool false, .slice none 0 0, .slice none 0 0]) (t := 27) hA hM rfl rfl rfl (fun g => .pointer (some ⟨g, 0, none⟩)) (does_alloc (z := .agg #[.bool false, .slice none 0 0, .slice none 0 0, .bool false, .slice none 0 0, .slice none 0 0]) (by kernel_rfl) rfl) (by decide) ?_
  intro g27 w28 hM a hA
  refine s_store (us := [.bool false, .slice (some ⟨g22, 0, none⟩) 0 2, .slice (some ⟨g23, 0, none⟩) 1 2, .bool false, .slice none 0 0, .slice (some ⟨g24, 0, none⟩) 1 2]) (L' := (.obj g27 (.cells #[.bool false, .slice (some ⟨g22, 0, none⟩) 0 2, .slice (some ⟨g23, 0, none⟩) 1 2, .bool false, .slice none 0 0, .slice (some ⟨g24, 0, none⟩) 1 2] 27) :: .row 57 1 (.slice (some ⟨g22, 0, none⟩) 0 2) 0 ([]) :: .row 57 1 (.slice (some ⟨g23, 0, none⟩) 1 2) 1 ([.int .u32 1]) :: .row 57 1 (.slice (some ⟨g24, 0, none⟩) 1 2) 1 ([.int .u32 1]) :: .row 57 1 (.slice (some ⟨gw, 0, none⟩) (((t.length + 3) / 4)) (((t.length + 3) / 4))) (((t.length + 3) / 4)) ((uC (wsI t ((t.length + 3) / 4) i))) :: .obj g2 (.cells #[.bool false, .slice none 0 0, .slice none 0 0, .bool false, .slice none 0 0, .slice none 0 0] 27) :: [])) hA hM rfl rfl (m_store rfl rfl rfl (by kernel_rfl) hM 0 rfl rfl rfl) 0 rfl rfl rfl ?_
  intro w29 hM
  refine seq_end ?_
  refine hK21 _ _ ?_
  refine wp_seq_k (fun K30 hK30 => ?_)
  refine wp_region_lit ?_
  refine seq_do hA rfl rfl rfl (does_move rfl) fun a hA => ?_
  refine seq_do (v := .pointer (some ⟨g27, 0, none⟩)) hA rfl rfl rfl (does_field ByN_fld_27_0 rfl rfl) fun a hA => ?_
  refine seq_do (v := .pointer (some ⟨g27, 1, none⟩)) hA rfl rfl rfl (does_field ByN_fld_25_1 rfl rfl) fun a hA => ?_
  refine s_store (us := [.bool false, .slice (some ⟨gw, 0, none⟩) (((t.length + 3) / 4)) (((t.length + 3) / 4)), .slice (some ⟨g23, 0, none⟩) 1 2, .bool false, .slice none 0 0, .slice (some ⟨g24, 0, none⟩) 1 2]) (L' := (.obj g27 (.cells #[.bool false, .slice (some ⟨gw, 0, none⟩) (((t.length + 3) / 4)) (((t.length + 3) / 4)), .slice (some ⟨g23, 0, none⟩) 1 2, .bool false, .slice none 0 0, .slice (some ⟨g24, 0, none⟩) 1 2] 27) :: .row 57 1 (.slice (some ⟨g22, 0, none⟩) 0 2) 0 ([]) :: .row 57 1 (.slice (some ⟨g23, 0, none⟩) 1 2) 1 ([.int .u32 1]) :: .row 57 1 (.slice (some ⟨g24, 0, none⟩) 1 2) 1 ([.int .u32 1]) :: .row 57 1 (.slice (some ⟨gw, 0, none⟩) (((t.length + 3) / 4)) (((t.length + 3) / 4))) (((t.length + 3) / 4)) ((uC (wsI t ((t.length + 3) / 4) i))) :: .obj g2 (.cells #[.bool false, .slice none 0 0, .slice none 0 0, .bool false, .slice none 0 0, .slice none 0 0] 27) :: [])) hA hM rfl rfl (m_store rfl rfl rfl (by kernel_rfl) hM 0 rfl rfl rfl) 0 rfl rfl rfl ?_
  intro w31 hM
  refine seq_end ?_
  refine hK30 _ _ ?_
  refine wp_seq_k (fun K32 hK32 => ?_)
  refine wp_region_lit ?_
  refine seq_do hA rfl rfl rfl (m_loadS hM ByN_isS_27 rfl 0 rfl (cs := [.bool false, .slice (some ⟨gw, 0, none⟩) (((t.length + 3) / 4)) (((t.length + 3) / 4)), .slice (some ⟨g23, 0, none⟩) 1 2, .bool false, .slice none 0 0, .slice (some ⟨g24, 0, none⟩) 1 2]) rfl rfl) fun a hA => ?_
  refine s_store (us := [.bool false, .slice (some ⟨gw, 0, none⟩) (((t.length + 3) / 4)) (((t.length + 3) / 4)), .slice (some ⟨g23, 0, none⟩) 1 2, .bool false, .slice none 0 0, .slice (some ⟨g24, 0, none⟩) 1 2]) (L' := (.obj g27 (.cells #[.bool false, .slice (some ⟨gw, 0, none⟩) (((t.length + 3) / 4)) (((t.length + 3) / 4)), .slice (some ⟨g23, 0, none⟩) 1 2, .bool false, .slice none 0 0, .slice (some ⟨g24, 0, none⟩) 1 2] 27) :: .row 57 1 (.slice (some ⟨g22, 0, none⟩) 0 2) 0 ([]) :: .row 57 1 (.slice (some ⟨g23, 0, none⟩) 1 2) 1 ([.int .u32 1]) :: .row 57 1 (.slice (some ⟨g24, 0, none⟩) 1 2) 1 ([.int .u32 1]) :: .row 57 1 (.slice (some ⟨gw, 0, none⟩) (((t.length + 3) / 4)) (((t.length + 3) / 4))) (((t.length + 3) / 4)) ((uC (wsI t ((t.length + 3) / 4) i))) :: .obj g2 (.cells #[.bool false, .slice (some ⟨gw, 0, none⟩) (((t.length + 3) / 4)) (((t.length + 3) / 4)), .slice (some ⟨g23, 0, none⟩) 1 2, .bool false, .slice none 0 0, .slice (some ⟨g24, 0, none⟩) 1 2] 27) :: [])) hA hM rfl rfl (m_store rfl rfl rfl (by kernel_rfl) hM 5 rfl rfl rfl) 5 rfl rfl rfl ?_
  intro w33 hM
  refine seq_end ?_
  refine hK32 _ _ ?_
  refine wp_ret ?_
  refine hret _ _ ?_
  refine ends (v := .agg #[.bool false, .slice (some ⟨gw, 0, none⟩) (((t.length + 3) / 4)) (((t.length + 3) / 4)), .slice (some ⟨g23, 0, none⟩) 1 2, .bool false, .slice none 0 0, .slice (some ⟨g24, 0, none⟩) 1 2]) hA rfl (.cons (res_cellS hM ByN_isS_27 rfl 5 rfl (cs := [.bool false, .slice (some ⟨gw, 0, none⟩) (((t.length + 3) / 4)) (((t.length + 3) / 4)), .slice (some ⟨g23, 0, none⟩) 1 2, .bool false, .slice none 0 0, .slice (some ⟨g24, 0, none⟩) 1 2]) rfl rfl) .nil) rfl ?_
  replace hM : Mg w w33 (.row 57 1 (.slice (some ⟨g23, 0, none⟩) 1 2) 1 ([.int .u32 1]) :: .row 57 1 (.slice (some ⟨g24, 0, none⟩) 1 2) 1 ([.int .u32 1]) :: .row 57 1 (.slice (some ⟨gw, 0, none⟩) (((t.length + 3) / 4)) (((t.length + 3) / 4))) (((t.length + 3) / 4)) ((uC (wsI t ((t.length + 3) / 4) i))) :: []) := by
   have h9 := hM.sub (.cons _ (.cons _ (.cons_cons _ (.cons_cons _ (.cons_cons _ (.cons _ (.refl _)))))))
   exact h9
  replace hM : Mg w w33 (.row 57 1 (.slice (some ⟨g24, 0, none⟩) 1 2) 1 ([.int .u32 1]) :: .row 57 1 (.slice (some ⟨g23, 0, none⟩) 1 2) 1 ([.int .u32 1]) :: .row 57 1 (.slice (some ⟨gw, 0, none⟩) (((t.length + 3) / 4)) (((t.length + 3) / 4))) (((t.length + 3) / 4)) ((uC (wsI t ((t.length + 3) / 4) i))) :: []) := hM.perm (List.perm_middle (l₁ := [_]))
  replace hM : Mg w w33 (.row 57 1 (.slice (some ⟨g23, 0, none⟩) 1 2) 1 ([.int .u32 1]) :: .row 57 1 (.slice (some ⟨g24, 0, none⟩) 1 2) 1 ([.int .u32 1]) :: .row 57 1 (.slice (some ⟨gw, 0, none⟩) (((t.length + 3) / 4)) (((t.length + 3) / 4))) (((t.length + 3) / 4)) ((uC (wsI t ((t.length + 3) / 4) i))) :: []) := hM.perm (List.perm_middle (l₁ := [_]))
  replace hM : Mg w w33 (.row 57 1 (.slice (some ⟨gw, 0, none⟩) (((t.length + 3) / 4)) (((t.length + 3) / 4))) (((t.length + 3) / 4)) ((uC (wsI t ((t.length + 3) / 4) i))) :: .row 57 1 (.slice (some ⟨g23, 0, none⟩) 1 2) 1 ([.int .u32 1]) :: .row 57 1 (.slice (some ⟨g24, 0, none⟩) 1 2) 1 ([.int .u32 1]) :: []) := hM.perm (List.perm_middle (l₁ := [_, _]))
  obtain rfl : i = t.length := by omega
  have e9 : wsI t ((t.length + 3) / 4) t.length = words (leN l) := by subst ht; exact wsI_done
  have e8 : (t.length + 3) / 4 = (words (leN l)).length := by rw [← e9]; simp [wsI]
  rw [e9] at hM
  rw [e8] at hM ⊢
  exact ⟨gw, g23, g24, rfl, hM⟩
end Go.Proofs.YtbajcflbimmnhaaGreatDoor.G
namespace Go.Proofs.YtbajcflbimmnhaaGreatDoor.G
open Go.RowKit
set_option linter.unusedVariables false
set_option linter.unusedSimpArgs false

def noWd (v : Value) : Bool := match v with | .int .u32 _ => false | _ => true
theorem noWd_ne {v : Value} (h : noWd v = true) : ∀ n, v ≠ .int .u32 n := by
  rintro n rfl
  cases h
/-- What is read as words in the one world is so in the other. -/
def Carry (w w' : World) : Prop := ∀ o l, Rd w o l → Rd w' o l
theorem Carry.trans {w w' w'' : World} (h : Carry w w') (k : Carry w' w'') : Carry w w'' := fun o l r => k o l (h o l r)
theorem sc_carry {w w' : World} {o : Option Addr} {c : Nat} {l : List Nat} (h : Sc w o c l) (hc : Carry w w') : Sc w' o c l := ⟨hc _ _ h.rd, h.nil, h.cap⟩
theorem nm_carry {w w' : World} {q : Q6} {o1 o2 o3 o4 : Option Addr} {c1 c2 c3 c4 : Nat} (h : Nm w q o1 c1 o2 c2 o3 c3 o4 c4) (hc : Carry w w') : Nm w' q o1 c1 o2 c2 o3 c3 o4 c4 := ⟨sc_carry h.s1 hc, sc_carry h.s2 hc, sc_carry h.s3 hc, sc_carry h.s4 hc⟩
section
variable {P : Program} {w0 w : World} {L : List Ck} {l : List (Nat × Value)} {dst : Option Tmp} {ty : TypeId} {pos : String} {after : Array Edge} {guard : Option (Nat × Bool)} {v : Value}
theorem carry_puts {g : Nat} {t : TypeId} : ∀ (cs : List Value) (w : World) (L : List Ck) (vs : List Value) (o : Nat), Mg w0 w L → ∀ k : Nat, L[k]? = some (Ck.obj g (.cells vs.toArray t)) → o + cs.length ≤ vs.length → vs.all noWd = true → cs.all noWd = true → Carry w (w.setCells g o cs)
  | [], w, L, vs, o, h, k, hk, hl, h1, h2 => fun _ _ r => r
  | c :: cs, w, L, vs, o, h, k, hk, hl, h1, h2 => by
    have hp := h.put k hk o c
    have hk1 : (L.set k (.obj g (.cells (vs.set o c).toArray t)))[k]? = some (.obj g (.cells (vs.set o c).toArray t)) := List.getElem?_set_self (List.getElem?_eq_some_iff.1 hk).1
    simp only [List.length_cons] at hl
    simp only [List.all_cons, Bool.and_eq_true] at h2
    have hlt : o < vs.length := by omega
    have hv : (vs.set o c).all noWd = true := by
      rw [List.all_eq_true] at h1 ⊢
      intro x hx
      rcases List.mem_or_eq_of_mem_set hx with k | k
      · exact h1 x k
      · rw [k]; exact h2.1
    have hrec := carry_puts cs _ _ _ (o + 1) hp k hk1 (by rw [List.length_set]; omega) hv h2.2
    refine Carry.trans ?_ hrec
    intro so ls r
    exact Rd.setNo r (h.cell k hk o (List.getElem?_eq_getElem hlt)) (noWd_ne (List.all_eq_true.1 h1 _ (List.getElem_mem hlt))) c
theorem carry_alloc (w : World) (o : Obj) : Carry w (w.alloc o) := fun _ _ r => r.below ((Below.refl _ _).alloc (Nat.le_refl _) _)
variable {ops : List Oper} {Q : Exit → Act → World → Prop} {a : Act} {n : Nat} {o : Oper} {rest : List Oper} {d : Nat}
theorem s_storeN (hA : Sl a n l) (hM : Mg w0 w L) (hg : passes l ops o = true) (hdst : o.dst = none) {g q : Nat} {cs vs us : List Value} {e : TypeId} (he : Sets P l o w (w.setCells g q cs)) (k : Nat) (hk0 : L[k]? = some (.obj g (.cells vs.toArray e))) (hus : over vs q cs = us) {L' : List Ck} (hL : L.set k (.obj g (.cells us.toArray e)) = L') (hl : Nat.ble (q + cs.length) vs.length = true) (h1 : vs.all noWd = true) (h2 : cs.all noWd = true)
    (hk : ∀ w', Mg w0 w' L' → Carry w w' → wpList P ops.toArray Q rest a w') : wpList P ops.toArray Q (o :: rest) a w :=
  seq_set hA hg hdst he (hk _ (by subst hus hL; exact Mg.puts cs w L vs q hM k hk0) (carry_puts cs w L vs q hM k hk0 (Nat.le_of_ble_eq_true hl) h1 h2))
theorem s_newN (hA : Sl a n l) (hM : Mg w0 w L) (hg : passes l ops o = true) (hdst : o.dst = some d) (hd : Nat.blt d n = true) {vs : List Value} {t : TypeId} (val : Nat → Value) (he : Does P l o w (val w.heap.size) (w.alloc (.cells vs.toArray t))) (ht : t ≠ BY)
    (hk : ∀ g w', Mg w0 w' (.obj g (.cells vs.toArray t) :: L) → Carry w w' → ∀ a', Sl a' n ((d, val g) :: l) → wpList P ops.toArray Q rest a' w') : wpList P ops.toArray Q (o :: rest) a w :=
  seq_do hA hg hdst hd he (hk _ _ (hM.addObj _ (quiet_cells ht)) (carry_alloc _ _))
end
end Go.Proofs.YtbajcflbimmnhaaGreatDoor.G
namespace Go.Proofs.YtbajcflbimmnhaaGreatDoor.G
open Go.RowKit
set_option linter.unusedVariables false
set_option linter.unusedSimpArgs false
set_option maxRecDepth 100000
theorem ByO_is1_3 : Is1 Tryz.prog 3 := ⟨⟨_, Tryz.underlying3, rfl⟩, by kernel_rfl⟩
theorem ByO_is1_4 : Is1 Tryz.prog 4 := ⟨⟨_, Tryz.underlying4, rfl⟩, by kernel_rfl⟩
theorem ByO_is1_5 : Is1 Tryz.prog 5 := ⟨⟨_, Tryz.underlying5, rfl⟩, by kernel_rfl⟩
theorem ByO_fld_43_0 : FieldAt Tryz.prog 43 0 0 := ⟨_, _, Tryz.underlying43, rfl, rfl, by kernel_rfl⟩
theorem ByO_fld_43_2 : FieldAt Tryz.prog 43 2 2 := ⟨_, _, Tryz.underlying43, rfl, rfl, by kernel_rfl⟩
theorem ByO_isS_27 : IsS Tryz.prog 27 6 := ⟨⟨_, Tryz.underlying27⟩, by kernel_rfl⟩
theorem ByO_isS_43 : IsS Tryz.prog 43 3 := ⟨⟨_, Tryz.underlying43⟩, by kernel_rfl⟩
def flipI (l : List UInt8) (i : Nat) : List UInt8 := (l.take i).map (fun b => 255 - b) ++ l.drop i
theorem flip_len (l : List UInt8) (i : Nat) : (flipI l i).length = l.length := by unfold flipI; simp; omega
theorem flip_all (l : List UInt8) : flipI l l.length = l.map (fun b => 255 - b) := by simp [flipI]
theorem u8_flip (b : UInt8) : (255 - b).toNat = 255 - b.toNat := by
 have h := UInt8.toNat_lt b
 rw [UInt8.toNat_sub_of_le]
 ·
  rfl
 ·
  rw [UInt8.le_iff_toNat_le]
  show b.toNat ≤ 255
  omega
theorem cells_get {l : List UInt8} {i : Nat} (h : i < l.length) : (Lib.byteCells l)[i * 1]? = some (.int .u8 (((l.getD i 0).toNat : Nat) : Int)) := by
 rw [Nat.mul_one]
 unfold Lib.byteCells
 rw [List.getElem?_map, List.getElem?_eq_getElem h, List.getD_eq_getElem?_getD, List.getElem?_eq_getElem h]
 rfl
theorem flip_get {l : List UInt8} {i : Nat} (h : i < l.length) : (Lib.byteCells (flipI l i))[i * 1]? = some (.int .u8 (((l.getD i 0).toNat : Nat) : Int)) := by
 have h1 := cells_get (l := flipI l i) (i := i) (by rw [flip_len]; exact h)
 have e : (flipI l i).getD i 0 = l.getD i 0 := by
  unfold flipI
  rw [List.getD_eq_getElem?_getD, List.getElem?_append_right (by simp; omega)]
  simp only [List.length_map, List.length_take]
  rw [List.getElem?_drop, List.getD_eq_getElem?_getD]
  congr 2
  omega
 rw [e] at h1
 exact h1
theorem flip_step {l : List UInt8} {i : Nat} (h : i < l.length) : over (Lib.byteCells (flipI l i)) (i * 1) [.int .u8 ((255 - (l.getD i 0).toNat : Nat) : Int)] = Lib.byteCells (flipI l (i + 1)) := by
 rw [Nat.mul_one]
 show (Lib.byteCells (flipI l i)).set i _ = _
 have e : l.getD i 0 = l[i] := by rw [List.getD_eq_getElem?_getD, List.getElem?_eq_getElem h]; rfl
 rw [e, ← u8_flip]
 unfold Lib.byteCells flipI
 rw [List.take_succ_eq_append_getElem h, List.drop_eq_getElem_cons h]
 simp only [List.map_append, List.map_cons, List.map_nil, List.append_assoc, List.cons_append, List.nil_append]
 rw [List.set_append_right _ _ (by simp; omega)]
 congr 1
 simp only [List.length_map, List.length_take, Nat.min_eq_left (Nat.le_of_lt h), Nat.sub_self, List.set_cons_zero]
theorem leN_flip (l : List UInt8) : leN (l.map fun b => 255 - b) + leN l + 1 = 256 ^ l.length := by
 induction l with
 | nil => simp [leN]
 | cons b t ih =>
  have h := UInt8.toNat_lt b
  simp only [List.map_cons, leN, List.length_cons, u8_flip]
  rw [Nat.pow_succ]
  omega
theorem xor8_all : ∀ x : Fin 256, bits .xor .u8 (if IntKind.u8.signed = true then -1 else IntKind.u8.max) ((x.val : Nat) : Int) = ((255 - x.val : Nat) : Int) := by decide +kernel
theorem un_xor8 {P : Program} {x : Nat} (h : x < 256) : ∀ w, (Op.unary .xor (.int .u8 ((x : Nat) : Int))).run P w = .ok (.int .u8 ((255 - x : Nat) : Int)) w := fun w => by
 have e := xor8_all ⟨x, h⟩
 simp [go_sem]
 exact e
def lowB (bg : Bool) (p : List UInt8) : List UInt8 := if bg = true then p.reverse else p
def numQ (bg sg : Bool) (p : List UInt8) : Q6 := if sg = true ∧ 128 ≤ ((lowB bg p).getD (p.length - 1) 0).toNat then Q6.whole true (256 ^ p.length - leN (lowB bg p)) else Q6.whole false (leN (lowB bg p))
theorem rdW_row {w0 w : World} {L : List Ck} (hM : Mg w0 w L) (k : Nat) {g x : Nat} (hk : L[k]? = some (.row 57 1 (.slice (some ⟨g, 0, none⟩) (words x).length (words x).length) (words x).length (uC (words x)))) : Sc w (some ⟨g, 0, none⟩) (words x).length (words x) := by
 have hr : w.ownsRow w0.heap.size 57 1 (.slice (some ⟨g, 0, none⟩) (words x).length (words x).length) (words x).length (uC (words x)) := hM.has k hk
 refine ⟨⟨words_dig x, fun hne => ⟨g, 0, rfl, row_ltZ hM k hk, fun j hj => ?_⟩⟩, (fun h => (by cases h)), Nat.le_refl _⟩
 rw [Nat.zero_add]
 refine row_cellsZ hM k hk j _ ?_
 unfold uC
 rw [List.getElem?_map, List.getElem?_eq_getElem hj, List.getD_eq_getElem?_getD, List.getElem?_eq_getElem hj]
 rfl
theorem low_len (bg : Bool) (p : List UInt8) : (lowB bg p).length = p.length := by unfold lowB; split <;> simp
theorem want0 {x : Nat} (hx : (words x).length ≤ 512) : want1 (Q6.whole false x) = 0 := by
 unfold want1 wholeQ
 rw [soundQ_whole hx (by simp)]
 simp [Q6.whole]
theorem small_words {x n : Nat} (hn : n ≤ 64) (h : x ≤ 256 ^ n) : (words x).length ≤ 512 := by
 have h1 : 256 ^ n ≤ 256 ^ 64 := Nat.pow_le_pow_right (by decide) hn
 have h2 : (256 : Nat) ^ 64 < pw 17 := by unfold pw; decide
 have h3 : (words x).length ≤ 17 := words_length_iff.2 (Nat.lt_of_le_of_lt (Nat.le_trans h h1) h2)
 omega
theorem not_small {w : World} {x n : Nat} (hn : n ≤ 64) (h : x < 256 ^ n) {o1 o2 o3 o4 : Option Addr} {c1 c2 c3 c4 : Nat} (ha : Nm w (Q6.whole false x) o1 c1 o2 c2 o3 c3 o4 c4) : Calls Tryz.prog 42 #[numV (Q6.whole false x) o1 c1 o2 c2 o3 c3 o4 c4] w (AnsN w (Q6.whole true (x + 1), 0)) := by
 have h1 := small_words hn (Nat.le_of_lt h)
 have h2 : (words (x + 1)).length ≤ 512 := small_words hn h
 have k := notW_any ha (lenQ_whole h1) (want0 h1) h1 (by simp)
 rw [notQ_whole (want0 h1), show turnN false x = x + 1 from rfl, bigS_pos h2] at k
 exact k
theorem number_true_false {w : World} {sp : Option Addr} {cp : Nat} {p : List UInt8} (hp : Rb w sp p) (hl1 : 1 ≤ p.length) (hl64 : p.length ≤ 64) : Calls Tryz.prog 23 #[.agg #[.int .i64 ((p.length : Nat) : Int), .bool true, .bool false], .slice sp p.length cp] w (AnsV w (numQ true false p)) := by
 have hM : Mg w w ([]) := Mg.start w
 refine walk_of (l := [(0, .agg #[.int .i64 (((p.length : Nat) : Int)), .bool true, .bool false]), (1, .slice sp p.length cp)]) Tryz.func23 rfl Tryz.ntmps23 rfl rfl ?_
 intro Q hret hnorm hP a hA
 refine wp_seq_k (fun K1 hK1 => ?_)
 refine wp_region_lit ?_
 refine s_new (vs := [.int .i64 (((p.length : Nat) : Int)), .bool true, .bool false]) (t := 43) hA hM rfl rfl rfl (fun g => .pointer (some ⟨g, 0, none⟩)) (does_box rfl rfl) (by decide) ?_
 intro g2 w3 hM a hA
 refine s_new (vs := [.bool false, .slice none 0 0, .slice none 0 0, .bool false, .slice none 0 0, .slice none 0 0]) (t := 27) hA hM rfl rfl rfl (fun g => .pointer (some ⟨g, 0, none⟩)) (does_alloc (z := .agg #[.bool false, .slice none 0 0, .slice none 0 0, .bool false, .slice none 0 0, .slice none 0 0]) (by kernel_rfl) rfl) (by decide) ?_
 intro g4 w5 hM a hA
 refine seq_end ?_
 refine hK1 _ _ ?_
 refine wp_seq_k (fun K6 hK6 => ?_)
 refine wp_region_lit ?_
 refine seq_do hA rfl rfl rfl (m_loadS hM ByO_isS_43 rfl 1 rfl (cs := [.int .i64 (((p.length : Nat) : Int)), .bool true, .bool false]) rfl rfl) fun a hA => ?_
 refine seq_do hA rfl rfl rfl (does_move rfl) fun a hA => ?_
 refine seq_call hA rfl rfl rfl (enters_func rfl rfl (fun w => by kernel_rfl)) (reordered_true (hp.below hM.bel) (by omega)) ?_
 rintro _ w9 ⟨g7, rfl, hM8⟩
 replace hM : Mg w w9 (.row BY 1 (.slice (some ⟨g7, 0, none⟩) p.length p.length) p.length ((Lib.byteCells p.reverse)) :: .obj g4 (.cells #[.bool false, .slice none 0 0, .slice none 0 0, .bool false, .slice none 0 0, .slice none 0 0] 27) :: .obj g2 (.cells #[.int .i64 (((p.length : Nat) : Int)), .bool true, .bool false] 43) :: []) := (hM.both hM8 (noBld_cons (by simp) (noBld_cons (by simp) (noBld_quiet quietL_nil))) (noBld_cons (by simp) (noBld_quiet quietL_nil)))
 refine ⟨_, rfl, ?_⟩
 intro a hA
 refine seq_do hA rfl rfl rfl (does_assign rfl) fun a hA => ?_
 refine seq_end ?_
 refine hK6 _ _ ?_
 refine wp_seq_k (fun K10 hK10 => ?_)
 refine wp_seq_k (fun K11 hK11 => ?_)
 refine wp_region_lit ?_
 refine seq_do (v := .pointer (some ⟨g2, 2, none⟩)) hA rfl rfl rfl (does_field ByO_fld_43_2 rfl rfl) fun a hA => ?_
 refine seq_do hA rfl rfl rfl (m_load1 hM ByO_is1_4 rfl 2 rfl rfl) fun a hA => ?_
 refine seq_do (v := .bool true) hA rfl rfl rfl (does_un rfl un_not) fun a hA => ?_
 refine seq_do hA rfl rfl rfl (does_move rfl) fun a hA => ?_
 refine seq_skip hA rfl rfl rfl fun a hA => ?_
 refine seq_skip hA rfl rfl rfl fun a hA => ?_
 refine seq_skip hA rfl rfl rfl fun a hA => ?_
 refine seq_skip hA rfl rfl rfl fun a hA => ?_
 refine seq_skip hA rfl rfl rfl fun a hA => ?_
 refine seq_skip hA rfl rfl rfl fun a hA => ?_
 refine seq_skip hA rfl rfl rfl fun a hA => ?_
 refine seq_do (v := .bool true) hA rfl rfl rfl (does_pick rfl rfl rfl rfl) fun a hA => ?_
 refine seq_end ?_
 refine hK11 _ _ ?_
 refine wp_cond_true (hA.ev rfl) ?_
 refine wp_seq_k (fun K12 hK12 => ?_)
 refine wp_region_lit ?_
 refine seq_do hA rfl rfl rfl (does_move rfl) fun a hA => ?_
 have hx17 : (p.reverse).length = p.length := by simp [flip_len]
 refine seq_call hA rfl rfl rfl (enters_func rfl rfl (fun w => by kernel_rfl)) ((by have h9 := natural_any (w := w9) (l := p.reverse) (rb_row (bs := p.reverse) hM 0 rfl).1 (ca := p.length) (by omega) (by omega); rw [hx17] at h9; exact h9)) ?_
 rintro _ w18 ⟨g13, g14, g15, rfl, hM16⟩
 replace hM : Mg w w18 (.row 57 1 (.slice (some ⟨g13, 0, none⟩) ((words (leN p.reverse)).length) ((words (leN p.reverse)).length)) ((words (leN p.reverse)).length) ((uC (words (leN p.reverse)))) :: .row 57 1 (.slice (some ⟨g14, 0, none⟩) 1 2) 1 ([.int .u32 1]) :: .row 57 1 (.slice (some ⟨g15, 0, none⟩) 1 2) 1 ([.int .u32 1]) :: .row BY 1 (.slice (some ⟨g7, 0, none⟩) p.length p.length) p.length ((Lib.byteCells p.reverse)) :: .obj g4 (.cells #[.bool false, .slice none 0 0, .slice none 0 0, .bool false, .slice none 0 0, .slice none 0 0] 27) :: .obj g2 (.cells #[.int .i64 (((p.length : Nat) : Int)), .bool true, .bool false] 43) :: []) := (hM.both hM16 (noBld_cons (by simp) (noBld_cons (by simp) (noBld_cons (by simp) (noBld_quiet quietL_nil)))) (noBld_cons (by simp) (noBld_cons (by simp) (noBld_cons (by simp) (noBld_quiet quietL_nil)))))
 refine ⟨_, rfl, ?_⟩
 intro a hA
 refine s_store (us := [.bool false, .slice (some ⟨g13, 0, none⟩) ((words (leN p.reverse)).length) ((words (leN p.reverse)).length), .slice (some ⟨g14, 0, none⟩) 1 2, .bool false, .slice none 0 0, .slice (some ⟨g15, 0, none⟩) 1 2]) (L' := (.row 57 1 (.slice (some ⟨g13, 0, none⟩) ((words (leN p.reverse)).length) ((words (leN p.reverse)).length)) ((words (leN p.reverse)).length) ((uC (words (leN p.reverse)))) :: .row 57 1 (.slice (some ⟨g14, 0, none⟩) 1 2) 1 ([.int .u32 1]) :: .row 57 1 (.slice (some ⟨g15, 0, none⟩) 1 2) 1 ([.int .u32 1]) :: .row BY 1 (.slice (some ⟨g7, 0, none⟩) p.length p.length) p.length ((Lib.byteCells p.reverse)) :: .obj g4 (.cells #[.bool false, .slice (some ⟨g13, 0, none⟩) ((words (leN p.reverse)).length) ((words (leN p.reverse)).length), .slice (some ⟨g14, 0, none⟩) 1 2, .bool false, .slice none 0 0, .slice (some ⟨g15, 0, none⟩) 1 2] 27) :: .obj g2 (.cells #[.int .i64 (((p.length : Nat) : Int)), .bool true, .bool false] 43) :: [])) hA hM rfl rfl (m_store rfl rfl rfl (by kernel_rfl) hM 4 rfl rfl rfl) 4 rfl rfl rfl ?_
 intro w19 hM
 refine seq_end ?_
 refine hK12 _ _ ?_
 refine wp_ret ?_
 refine hret _ _ ?_
 refine ends (v := .agg #[.bool false, .slice (some ⟨g13, 0, none⟩) ((words (leN p.reverse)).length) ((words (leN p.reverse)).length), .slice (some ⟨g14, 0, none⟩) 1 2, .bool false, .slice none 0 0, .slice (some ⟨g15, 0, none⟩) 1 2]) hA rfl (.cons (res_cellS hM ByO_isS_27 rfl 4 rfl (cs := [.bool false, .slice (some ⟨g13, 0, none⟩) ((words (leN p.reverse)).length) ((words (leN p.reverse)).length), .slice (some ⟨g14, 0, none⟩) 1 2, .bool false, .slice none 0 0, .slice (some ⟨g15, 0, none⟩) 1 2]) rfl rfl) .nil) rfl ?_
 have e9 : numQ true false p = Q6.whole false (leN p.reverse) := by unfold numQ; rw [if_neg (fun h => (by cases h.1))]; rfl
 rw [e9]
 exact ⟨_, _, _, _, _, _, _, _, rfl, ⟨rdW_row hM 0 rfl, rd_row (x := 1) hM 1 rfl (by decide), sc_nil, rd_row (x := 1) hM 2 rfl (by decide)⟩, hM.bel⟩
theorem number_true_true {w : World} {sp : Option Addr} {cp : Nat} {p : List UInt8} (hp : Rb w sp p) (hl1 : 1 ≤ p.length) (hl64 : p.length ≤ 64) : Calls Tryz.prog 23 #[.agg #[.int .i64 ((p.length : Nat) : Int), .bool true, .bool true], .slice sp p.length cp] w (AnsV w (numQ true true p)) := by
 have hM : Mg w w ([]) := Mg.start w
 refine walk_of (l := [(0, .agg #[.int .i64 (((p.length : Nat) : Int)), .bool true, .bool true]), (1, .slice sp p.length cp)]) Tryz.func23 rfl Tryz.ntmps23 rfl rfl ?_
 intro Q hret hnorm hP a hA
 refine wp_seq_k (fun K1 hK1 => ?_)
 refine wp_region_lit ?_
 refine s_new (vs := [.int .i64 (((p.length : Nat) : Int)), .bool true, .bool true]) (t := 43) hA hM rfl rfl rfl (fun g => .pointer (some ⟨g, 0, none⟩)) (does_box rfl rfl) (by decide) ?_
 intro g2 w3 hM a hA
 refine s_new (vs := [.bool false, .slice none 0 0, .slice none 0 0, .bool false, .slice none 0 0, .slice none 0 0]) (t := 27) hA hM rfl rfl rfl (fun g => .pointer (some ⟨g, 0, none⟩)) (does_alloc (z := .agg #[.bool false, .slice none 0 0, .slice none 0 0, .bool false, .slice none 0 0, .slice none 0 0]) (by kernel_rfl) rfl) (by decide) ?_
 intro g4 w5 hM a hA
 refine seq_end ?_
 refine hK1 _ _ ?_
 refine wp_seq_k (fun K6 hK6 => ?_)
 refine wp_region_lit ?_
 refine seq_do hA rfl rfl rfl (m_loadS hM ByO_isS_43 rfl 1 rfl (cs := [.int .i64 (((p.length : Nat) : Int)), .bool true, .bool true]) rfl rfl) fun a hA => ?_
 refine seq_do hA rfl rfl rfl (does_move rfl) fun a hA => ?_
 refine seq_call hA rfl rfl rfl (enters_func rfl rfl (fun w => by kernel_rfl)) (reordered_true (hp.below hM.bel) (by omega)) ?_
 rintro _ w9 ⟨g7, rfl, hM8⟩
 replace hM : Mg w w9 (.row BY 1 (.slice (some ⟨g7, 0, none⟩) p.length p.length) p.length ((Lib.byteCells p.reverse)) :: .obj g4 (.cells #[.bool false, .slice none 0 0, .slice none 0 0, .bool false, .slice none 0 0, .slice none 0 0] 27) :: .obj g2 (.cells #[.int .i64 (((p.length : Nat) : Int)), .bool true, .bool true] 43) :: []) := (hM.both hM8 (noBld_cons (by simp) (noBld_cons (by simp) (noBld_quiet quietL_nil))) (noBld_cons (by simp) (noBld_quiet quietL_nil)))
 refine ⟨_, rfl, ?_⟩
 intro a hA
 refine seq_do hA rfl rfl rfl (does_assign rfl) fun a hA => ?_
 refine seq_end ?_
 refine hK6 _ _ ?_
 refine wp_seq_k (fun K10 hK10 => ?_)
 refine wp_seq_k (fun K11 hK11 => ?_)
 refine wp_region_lit ?_
 refine seq_do (v := .pointer (some ⟨g2, 2, none⟩)) hA rfl rfl rfl (does_field ByO_fld_43_2 rfl rfl) fun a hA => ?_
 refine seq_do hA rfl rfl rfl (m_load1 hM ByO_is1_4 rfl 2 rfl rfl) fun a hA => ?_
 refine seq_do (v := .bool false) hA rfl rfl rfl (does_un rfl un_not) fun a hA => ?_
 refine seq_do hA rfl rfl rfl (does_move rfl) fun a hA => ?_
 refine seq_do hA rfl rfl rfl (does_move rfl) fun a hA => ?_
 refine seq_do (v := .pointer (some ⟨g2, 0, none⟩)) hA rfl rfl rfl (does_field ByO_fld_43_0 rfl rfl) fun a hA => ?_
 refine seq_do hA rfl rfl rfl (m_load1 hM ByO_is1_3 rfl 2 rfl rfl) fun a hA => ?_
 refine seq_do (v := .int .i64 (((p.length - 1 : Nat) : Int))) hA rfl rfl rfl (does_bin rfl rfl (ar_sub ((in_i64 (by omega) (by omega)).trans (by omega)))) fun a hA => ?_
 refine seq_do (v := .pointer (some ⟨g7, (p.length - 1) * 1, none⟩)) hA rfl rfl rfl (does_indexE Tryz.underlying22 (by kernel_rfl) rfl rfl rfl (show p.length - 1 < p.length by omega)) fun a hA => ?_
 refine seq_do (v := .int .u8 ((((p.reverse.getD (p.length - 1) 0).toNat : Nat) : Int))) hA rfl rfl rfl (m_loadX hM 0 rfl (cells_get (l := p.reverse) (i := p.length - 1) (by simp only [List.length_reverse]; omega)) ByO_is1_5 rfl) fun a hA => ?_
 rcases Bool.eq_false_or_eq_true (decide ((((p.reverse.getD (p.length - 1) 0).toNat : Nat) : Int) < 128)) with hb12 | hb12
 ·
  have hb12' := of_decide_eq_true hb12
  refine seq_do (v := .bool true) hA rfl rfl rfl (does_bin rfl rfl (fun w => (bin_lss w).trans (by rw [hb12]))) fun a hA => ?_
  refine seq_do (v := .bool true) hA rfl rfl rfl (does_pick rfl rfl rfl rfl) fun a hA => ?_
  refine seq_end ?_
  refine hK11 _ _ ?_
  refine wp_cond_true (hA.ev rfl) ?_
  refine wp_seq_k (fun K13 hK13 => ?_)
  refine wp_region_lit ?_
  refine seq_do hA rfl rfl rfl (does_move rfl) fun a hA => ?_
  have hx18 : (p.reverse).length = p.length := by simp [flip_len]
  refine seq_call hA rfl rfl rfl (enters_func rfl rfl (fun w => by kernel_rfl)) ((by have h9 := natural_any (w := w9) (l := p.reverse) (rb_row (bs := p.reverse) hM 0 rfl).1 (ca := p.length) (by omega) (by omega); rw [hx18] at h9; exact h9)) ?_
  rintro _ w19 ⟨g14, g15, g16, rfl, hM17⟩
  replace hM : Mg w w19 (.row 57 1 (.slice (some ⟨g14, 0, none⟩) ((words (leN p.reverse)).length) ((words (leN p.reverse)).length)) ((words (leN p.reverse)).length) ((uC (words (leN p.reverse)))) :: .row 57 1 (.slice (some ⟨g15, 0, none⟩) 1 2) 1 ([.int .u32 1]) :: .row 57 1 (.slice (some ⟨g16, 0, none⟩) 1 2) 1 ([.int .u32 1]) :: .row BY 1 (.slice (some ⟨g7, 0, none⟩) p.length p.length) p.length ((Lib.byteCells p.reverse)) :: .obj g4 (.cells #[.bool false, .slice none 0 0, .slice none 0 0, .bool false, .slice none 0 0, .slice none 0 0] 27) :: .obj g2 (.cells #[.int .i64 (((p.length : Nat) : Int)), .bool true, .bool true] 43) :: []) := (hM.both hM17 (noBld_cons (by simp) (noBld_cons (by simp) (noBld_cons (by simp) (noBld_quiet quietL_nil)))) (noBld_cons (by simp) (noBld_cons (by simp) (noBld_cons (by simp) (noBld_quiet quietL_nil)))))
  refine ⟨_, rfl, ?_⟩
  intro a hA
  refine s_store (us := [.bool false, .slice (some ⟨g14, 0, none⟩) ((words (leN p.reverse)).length) ((words (leN p.reverse)).length), .slice (some ⟨g15, 0, none⟩) 1 2, .bool false, .slice none 0 0, .slice (some ⟨g16, 0, none⟩) 1 2]) (L' := (.row 57 1 (.slice (some ⟨g14, 0, none⟩) ((words (leN p.reverse)).length) ((words (leN p.reverse)).length)) ((words (leN p.reverse)).length) ((uC (words (leN p.reverse)))) :: .row 57 1 (.slice (some ⟨g15, 0, none⟩) 1 2) 1 ([.int .u32 1]) :: .row 57 1 (.slice (some ⟨g16, 0, none⟩) 1 2) 1 ([.int .u32 1]) :: .row BY 1 (.slice (some ⟨g7, 0, none⟩) p.length p.length) p.length ((Lib.byteCells p.reverse)) :: .obj g4 (.cells #[.bool false, .slice (some ⟨g14, 0, none⟩) ((words (leN p.reverse)).length) ((words (leN p.reverse)).length), .slice (some ⟨g15, 0, none⟩) 1 2, .bool false, .slice none 0 0, .slice (some ⟨g16, 0, none⟩) 1 2] 27) :: .obj g2 (.cells #[.int .i64 (((p.length : Nat) : Int)), .bool true, .bool true] 43) :: [])) hA hM rfl rfl (m_store rfl rfl rfl (by kernel_rfl) hM 4 rfl rfl rfl) 4 rfl rfl rfl ?_
  intro w20 hM
  refine seq_end ?_
  refine hK13 _ _ ?_
  refine wp_ret ?_
  refine hret _ _ ?_
  refine ends (v := .agg #[.bool false, .slice (some ⟨g14, 0, none⟩) ((words (leN p.reverse)).length) ((words (leN p.reverse)).length), .slice (some ⟨g15, 0, none⟩) 1 2, .bool false, .slice none 0 0, .slice (some ⟨g16, 0, none⟩) 1 2]) hA rfl (.cons (res_cellS hM ByO_isS_27 rfl 4 rfl (cs := [.bool false, .slice (some ⟨g14, 0, none⟩) ((words (leN p.reverse)).length) ((words (leN p.reverse)).length), .slice (some ⟨g15, 0, none⟩) 1 2, .bool false, .slice none 0 0, .slice (some ⟨g16, 0, none⟩) 1 2]) rfl rfl) .nil) rfl ?_
  have e9 : numQ true true p = Q6.whole false (leN p.reverse) := by unfold numQ; rw [if_neg (fun h => (by have h9 : 128 ≤ ((p.reverse).getD (p.length - 1) 0).toNat := h.2; omega))]; rfl
  rw [e9]
  exact ⟨_, _, _, _, _, _, _, _, rfl, ⟨rdW_row hM 0 rfl, rd_row (x := 1) hM 1 rfl (by decide), sc_nil, rd_row (x := 1) hM 2 rfl (by decide)⟩, hM.bel⟩
 ·
  have hb12' := of_decide_eq_false hb12
  refine seq_do (v := .bool false) hA rfl rfl rfl (does_bin rfl rfl (fun w => (bin_lss w).trans (by rw [hb12]))) fun a hA => ?_
  refine seq_do (v := .bool false) hA rfl rfl rfl (does_pick rfl rfl rfl rfl) fun a hA => ?_
  refine seq_end ?_
  refine hK11 _ _ ?_
  refine wp_cond_false (hA.ev rfl) ?_
  refine wp_skip ?_
  refine hK10 _ _ ?_
  refine wp_seq_k (fun K21 hK21 => ?_)
  refine wp_seq_k (fun K22 hK22 => ?_)
  refine wp_region_lit ?_
  refine seq_do hA rfl rfl rfl (does_move rfl) fun a hA => ?_
  refine seq_do (v := .int .i64 (((p.length : Nat) : Int))) hA rfl rfl rfl (does_len Tryz.underlying22 rfl) fun a hA => ?_
  refine seq_do hA rfl rfl rfl (does_move rfl) fun a hA => ?_
  refine seq_end ?_
  refine hK22 _ _ ?_
  refine wp_block ?_
  refine wp_loop_n (fun m_ a w1 => ∃ (i : Nat), m_ = p.length - i ∧ (i ≤ p.length) ∧ Sl a 47 [(0, .agg #[.int .i64 (((p.length : Nat) : Int)), .bool true, .bool true]), (1, .slice sp p.length cp), (2, .pointer (some ⟨g2, 0, none⟩)), (4, .pointer (some ⟨g4, 0, none⟩)), (5, .slice (some ⟨g7, 0, none⟩) p.length p.length), (9, .agg #[.int .i64 (((p.length : Nat) : Int)), .bool true, .bool true]), (10, .slice sp p.length cp), (11, .slice (some ⟨g7, 0, none⟩) p.length p.length), (12, .pointer (some ⟨g2, 2, none⟩)), (13, .bool true), (14, .bool false), (15, .bool false), (16, .slice (some ⟨g7, 0, none⟩) p.length p.length), (17, .pointer (some ⟨g2, 0, none⟩)), (18, .int .i64 (((p.length : Nat) : Int))), (19, .int .i64 (((p.length - 1 : Nat) : Int))), (20, .pointer (some ⟨g7, (p.length - 1) * 1, none⟩)), (21, .int .u8 ((((p.reverse.getD (p.length - 1) 0).toNat : Nat) : Int))), (22, .bool false), (23, .bool false), (26, .slice (some ⟨g7, 0, none⟩) p.length p.length), (27, .int .i64 (((p.length : Nat) : Int))), (28, .int .i64 (((i : Nat) : Int)))] ∧ Mg w w1 (.row BY 1 (.slice (some ⟨g7, 0, none⟩) p.length p.length) p.length ((Lib.byteCells (flipI p.reverse i))) :: .obj g4 (.cells #[.bool false, .slice none 0 0, .slice none 0 0, .bool false, .slice none 0 0, .slice none 0 0] 27) :: .obj g2 (.cells #[.int .i64 (((p.length : Nat) : Int)), .bool true, .bool true] 43) :: [])) _ ⟨0, rfl, Nat.zero_le _, hA.keep _ ⟨rfl, rfl, rfl, rfl, rfl, rfl, rfl, rfl, rfl, rfl, rfl, rfl, rfl, rfl, rfl, rfl, rfl, rfl, rfl, rfl, rfl, rfl, rfl, trivial⟩, hM⟩ ?_
  clear hM hA
  rintro m_ a w23 ⟨i, rfl, hinv25, hA, hM⟩ K24 hK24
  have hi9 := hinv25
  refine wp_seq_k (fun K26 hK26 => ?_)
  refine wp_region_lit ?_
  rcases Bool.eq_false_or_eq_true (decide (((i : Nat) : Int) < ((p.length : Nat) : Int))) with hb27 | hb27
  ·
   have hb27' := of_decide_eq_true hb27
   refine seq_do (v := .bool true) hA rfl rfl rfl (does_bin rfl rfl (fun w => (bin_lss w).trans (by rw [hb27]))) fun a hA => ?_
   refine seq_end ?_
   refine hK26 _ _ ?_
   refine wp_seq_k (fun K28 hK28 => ?_)
   refine wp_cond_true (hA.ev rfl) ?_
   refine wp_skip ?_
   refine hK28 _ _ ?_
   refine wp_seq_k (fun K29 hK29 => ?_)
   refine wp_block ?_
   refine wp_seq_k (fun K30 hK30 => ?_)
   refine wp_region_lit ?_
   refine seq_do hA rfl rfl rfl (does_move rfl) fun a hA => ?_
   refine seq_do hA rfl rfl rfl (does_assign rfl) fun a hA => ?_
   refine seq_end ?_
   refine hK30 _ _ ?_
   refine wp_region_lit ?_
   refine seq_do hA rfl rfl rfl (does_move rfl) fun a hA => ?_
   refine seq_do hA rfl rfl rfl (does_move rfl) fun a hA => ?_
   refine seq_do hA rfl rfl rfl (does_move rfl) fun a hA => ?_
   refine seq_do hA rfl rfl rfl (does_move rfl) fun a hA => ?_
   refine seq_do (v := .pointer (some ⟨g7, (i) * 1, none⟩)) hA rfl rfl rfl (does_indexE Tryz.underlying22 (by kernel_rfl) rfl rfl rfl (show i < p.length by omega)) fun a hA => ?_
   refine seq_do (v := .int .u8 ((((p.reverse.getD (i) 0).toNat : Nat) : Int))) hA rfl rfl rfl (m_loadX hM 0 rfl (flip_get (l := p.reverse) (i := i) (by simp only [List.length_reverse]; omega)) ByO_is1_5 rfl) fun a hA => ?_
   have hX8 : (p.reverse.getD i 0).toNat < 256 := UInt8.toNat_lt _
   refine seq_do (v := .int .u8 (((255 - (p.reverse.getD i 0).toNat : Nat) : Int))) hA rfl rfl rfl (does_un rfl (un_xor8 hX8)) fun a hA => ?_
   refine seq_do (v := .pointer (some ⟨g7, (i) * 1, none⟩)) hA rfl rfl rfl (does_indexE Tryz.underlying22 (by kernel_rfl) rfl rfl rfl (show i < p.length by omega)) fun a hA => ?_
   refine s_storeE (cs := [.int .u8 (((255 - (p.reverse.getD i 0).toNat : Nat) : Int))]) (L' := (.row BY 1 (.slice (some ⟨g7, 0, none⟩) p.length p.length) p.length ((over (Lib.byteCells (flipI p.reverse i)) ((i) * 1) [.int .u8 (((255 - (p.reverse.getD i 0).toNat : Nat) : Int))])) :: .obj g4 (.cells #[.bool false, .slice none 0 0, .slice none 0 0, .bool false, .slice none 0 0, .slice none 0 0] 27) :: .obj g2 (.cells #[.int .i64 (((p.length : Nat) : Int)), .bool true, .bool true] 43) :: [])) (us := []) hA hM rfl rfl (m_storeE rfl rfl rfl (by kernel_rfl) hM 0 rfl (show (i) * 1 + 1 ≤ p.length * 1 by omega) rfl) 0 rfl rfl ?_
   intro w31 hM
   replace hM : Mg w w31 (.row BY 1 (.slice (some ⟨g7, 0, none⟩) p.length p.length) p.length ((Lib.byteCells (flipI p.reverse (i + 1)))) :: .obj g4 (.cells #[.bool false, .slice none 0 0, .slice none 0 0, .bool false, .slice none 0 0, .slice none 0 0] 27) :: .obj g2 (.cells #[.int .i64 (((p.length : Nat) : Int)), .bool true, .bool true] 43) :: []) := by
    have h9 := hM
    rw [flip_step (l := p.reverse) (by simp only [List.length_reverse]; omega)] at h9
    exact h9
   refine seq_end ?_
   refine hK29 _ _ ?_
   refine wp_region_lit ?_
   refine seq_do (v := .int .i64 (((i + 1 : Nat) : Int))) hA rfl rfl rfl (does_bin rfl rfl (ar_add ((in_i64 (by omega) (by omega)).trans (by omega)))) fun a hA => ?_
   refine seq_do hA rfl rfl rfl (does_move rfl) fun a hA => ?_
   refine seq_end ?_
   refine hK24 _ _ _ (by omega) ⟨i + 1, rfl, (by omega), hA.keep _ ⟨rfl, rfl, rfl, rfl, rfl, rfl, rfl, rfl, rfl, rfl, rfl, rfl, rfl, rfl, rfl, rfl, rfl, rfl, rfl, rfl, rfl, rfl, rfl, trivial⟩, hM⟩
  ·
   have hb27' := of_decide_eq_false hb27
   refine seq_do (v := .bool false) hA rfl rfl rfl (does_bin rfl rfl (fun w => (bin_lss w).trans (by rw [hb27]))) fun a hA => ?_
   refine seq_end ?_
   refine hK26 _ _ ?_
   refine wp_seq_k (fun K32 hK32 => ?_)
   refine wp_cond_false (hA.ev rfl) ?_
   refine wp_exit ?_
   refine hK21 _ _ ?_
   refine wp_seq_k (fun K33 hK33 => ?_)
   refine wp_region_lit ?_
   refine seq_do hA rfl rfl rfl (does_move rfl) fun a hA => ?_
   have hx38 : (flipI p.reverse i).length = p.length := by simp [flip_len]
   refine seq_call hA rfl rfl rfl (enters_func rfl rfl (fun w => by kernel_rfl)) ((by have h9 := natural_any (w := w23) (l := flipI p.reverse i) (rb_row (bs := flipI p.reverse i) hM 0 rfl).1 (ca := p.length) (by omega) (by omega); rw [hx38] at h9; exact h9)) ?_
   rintro _ w39 ⟨g34, g35, g36, rfl, hM37⟩
   replace hM : Mg w w39 (.row 57 1 (.slice (some ⟨g34, 0, none⟩) ((words (leN (flipI p.reverse i))).length) ((words (leN (flipI p.reverse i))).length)) ((words (leN (flipI p.reverse i))).length) ((uC (words (leN (flipI p.reverse i))))) :: .row 57 1 (.slice (some ⟨g35, 0, none⟩) 1 2) 1 ([.int .u32 1]) :: .row 57 1 (.slice (some ⟨g36, 0, none⟩) 1 2) 1 ([.int .u32 1]) :: .row BY 1 (.slice (some ⟨g7, 0, none⟩) p.length p.length) p.length ((Lib.byteCells (flipI p.reverse i))) :: .obj g4 (.cells #[.bool false, .slice none 0 0, .slice none 0 0, .bool false, .slice none 0 0, .slice none 0 0] 27) :: .obj g2 (.cells #[.int .i64 (((p.length : Nat) : Int)), .bool true, .bool true] 43) :: []) := (hM.both hM37 (noBld_cons (by simp) (noBld_cons (by simp) (noBld_cons (by simp) (noBld_quiet quietL_nil)))) (noBld_cons (by simp) (noBld_cons (by simp) (noBld_cons (by simp) (noBld_quiet quietL_nil)))))
   refine ⟨_, rfl, ?_⟩
   intro a hA
   have hN9 : Nm _ (Q6.whole false (leN (flipI p.reverse i))) (some ⟨g34, 0, none⟩) (words (leN (flipI p.reverse i))).length (some ⟨g35, 0, none⟩) 2 none 0 (some ⟨g36, 0, none⟩) 2 := ⟨rdW_row hM 0 rfl, rd_row (x := 1) hM 1 rfl (by decide), sc_nil, rd_row (x := 1) hM 2 rfl (by decide)⟩
   have hlt9 : leN (flipI p.reverse i) < 256 ^ p.length := by have h9 := leN_lt (flipI p.reverse i); rw [show (flipI p.reverse i).length = p.length from by simp [flip_len]] at h9; exact h9
   refine seq_call hA rfl rfl rfl (enters_func rfl rfl (fun w => by kernel_rfl)) (not_small hl64 hlt9 hN9) ?_
   rintro _ w43 ⟨o42_1, o42_c1, o42_2, o42_c2, o42_3, o42_c3, o42_4, o42_c4, rfl, hn40, hb41⟩
   replace hM := hM.call hb41
   refine ⟨_, rfl, ?_⟩
   intro a hA
   refine seq_do hA rfl rfl rfl (does_move rfl) fun a hA => ?_
   refine seq_do (v := .agg #[.bool true, .slice o42_1 ((words (leN (flipI p.reverse i) + 1)).length) o42_c1, .slice o42_2 1 o42_c2, .bool false, .slice o42_3 0 o42_c3, .slice o42_4 1 o42_c4]) hA rfl rfl rfl (does_extract (vs := [.agg #[.bool true, .slice o42_1 ((words (leN (flipI p.reverse i) + 1)).length) o42_c1, .slice o42_2 1 o42_c2, .bool false, .slice o42_3 0 o42_c3, .slice o42_4 1 o42_c4], .int .i64 0]) rfl rfl) fun a hA => ?_
   refine seq_do (v := .int .i64 0) hA rfl rfl rfl (does_extract (vs := [.agg #[.bool true, .slice o42_1 ((words (leN (flipI p.reverse i) + 1)).length) o42_c1, .slice o42_2 1 o42_c2, .bool false, .slice o42_3 0 o42_c3, .slice o42_4 1 o42_c4], .int .i64 0]) rfl rfl) fun a hA => ?_
   refine s_newN (vs := [.bool false, .slice none 0 0, .slice none 0 0, .bool false, .slice none 0 0, .slice none 0 0]) (t := 27) hA hM rfl rfl rfl (fun g => .pointer (some ⟨g, 0, none⟩)) (does_alloc (z := .agg #[.bool false, .slice none 0 0, .slice none 0 0, .bool false, .slice none 0 0, .slice none 0 0]) (by kernel_rfl) rfl) (by decide) ?_
   intro g44 w45 hM hc46 a hA
   replace hn40 := nm_carry hn40 hc46
   refine s_storeN (us := [.bool true, .slice o42_1 ((words (leN (flipI p.reverse i) + 1)).length) o42_c1, .slice o42_2 1 o42_c2, .bool false, .slice o42_3 0 o42_c3, .slice o42_4 1 o42_c4]) (L' := (.obj g44 (.cells #[.bool true, .slice o42_1 ((words (leN (flipI p.reverse i) + 1)).length) o42_c1, .slice o42_2 1 o42_c2, .bool false, .slice o42_3 0 o42_c3, .slice o42_4 1 o42_c4] 27) :: .row 57 1 (.slice (some ⟨g34, 0, none⟩) ((words (leN (flipI p.reverse i))).length) ((words (leN (flipI p.reverse i))).length)) ((words (leN (flipI p.reverse i))).length) ((uC (words (leN (flipI p.reverse i))))) :: .row 57 1 (.slice (some ⟨g35, 0, none⟩) 1 2) 1 ([.int .u32 1]) :: .row 57 1 (.slice (some ⟨g36, 0, none⟩) 1 2) 1 ([.int .u32 1]) :: .row BY 1 (.slice (some ⟨g7, 0, none⟩) p.length p.length) p.length ((Lib.byteCells (flipI p.reverse i))) :: .obj g4 (.cells #[.bool false, .slice none 0 0, .slice none 0 0, .bool false, .slice none 0 0, .slice none 0 0] 27) :: .obj g2 (.cells #[.int .i64 (((p.length : Nat) : Int)), .bool true, .bool true] 43) :: [])) hA hM rfl rfl (m_store rfl rfl rfl (by kernel_rfl) hM 0 rfl rfl rfl) 0 rfl rfl rfl rfl rfl rfl ?_
   intro w47 hM hc48
   replace hn40 := nm_carry hn40 hc48
   refine seq_do hA rfl rfl rfl (does_assign rfl) fun a hA => ?_
   refine seq_end ?_
   refine hK33 _ _ ?_
   refine wp_seq_k (fun K49 hK49 => ?_)
   refine wp_region_lit ?_
   refine seq_do hA rfl rfl rfl (m_loadS hM ByO_isS_27 rfl 0 rfl (cs := [.bool true, .slice o42_1 ((words (leN (flipI p.reverse i) + 1)).length) o42_c1, .slice o42_2 1 o42_c2, .bool false, .slice o42_3 0 o42_c3, .slice o42_4 1 o42_c4]) rfl rfl) fun a hA => ?_
   refine s_storeN (us := [.bool true, .slice o42_1 ((words (leN (flipI p.reverse i) + 1)).length) o42_c1, .slice o42_2 1 o42_c2, .bool false, .slice o42_3 0 o42_c3, .slice o42_4 1 o42_c4]) (L' := (.obj g44 (.cells #[.bool true, .slice o42_1 ((words (leN (flipI p.reverse i) + 1)).length) o42_c1, .slice o42_2 1 o42_c2, .bool false, .slice o42_3 0 o42_c3, .slice o42_4 1 o42_c4] 27) :: .row 57 1 (.slice (some ⟨g34, 0, none⟩) ((words (leN (flipI p.reverse i))).length) ((words (leN (flipI p.reverse i))).length)) ((words (leN (flipI p.reverse i))).length) ((uC (words (leN (flipI p.reverse i))))) :: .row 57 1 (.slice (some ⟨g35, 0, none⟩) 1 2) 1 ([.int .u32 1]) :: .row 57 1 (.slice (some ⟨g36, 0, none⟩) 1 2) 1 ([.int .u32 1]) :: .row BY 1 (.slice (some ⟨g7, 0, none⟩) p.length p.length) p.length ((Lib.byteCells (flipI p.reverse i))) :: .obj g4 (.cells #[.bool true, .slice o42_1 ((words (leN (flipI p.reverse i) + 1)).length) o42_c1, .slice o42_2 1 o42_c2, .bool false, .slice o42_3 0 o42_c3, .slice o42_4 1 o42_c4] 27) :: .obj g2 (.cells #[.int .i64 (((p.length : Nat) : Int)), .bool true, .bool true] 43) :: [])) hA hM rfl rfl (m_store rfl rfl rfl (by kernel_rfl) hM 5 rfl rfl rfl) 5 rfl rfl rfl rfl rfl rfl ?_
   intro w50 hM hc51
   replace hn40 := nm_carry hn40 hc51
   refine seq_end ?_
   refine hK49 _ _ ?_
   refine wp_ret ?_
   refine hret _ _ ?_
   refine ends (v := .agg #[.bool true, .slice o42_1 ((words (leN (flipI p.reverse i) + 1)).length) o42_c1, .slice o42_2 1 o42_c2, .bool false, .slice o42_3 0 o42_c3, .slice o42_4 1 o42_c4]) hA rfl (.cons (res_cellS hM ByO_isS_27 rfl 5 rfl (cs := [.bool true, .slice o42_1 ((words (leN (flipI p.reverse i) + 1)).length) o42_c1, .slice o42_2 1 o42_c2, .bool false, .slice o42_3 0 o42_c3, .slice o42_4 1 o42_c4]) rfl rfl) .nil) rfl ?_
   have hi8 : i = p.length := by omega
   subst hi8
   have e9 : numQ true true p = Q6.whole true (leN (flipI p.reverse p.length) + 1) := by
    unfold numQ
    rw [if_pos ⟨rfl, (show 128 ≤ ((p.reverse).getD (p.length - 1) 0).toNat from by omega)⟩]
    have h8 := leN_flip p.reverse
    rw [← flip_all, show (p.reverse).length = p.length from by simp] at h8
    rw [(show lowB true p = p.reverse from rfl), show 256 ^ p.length - leN p.reverse = leN (flipI p.reverse p.length) + 1 from by omega]
   rw [e9]
   exact ⟨_, _, _, _, _, _, _, _, rfl, hn40, hM.bel⟩
theorem number_false_false {w : World} {sp : Option Addr} {cp : Nat} {p : List UInt8} (hp : Rb w sp p) (hl1 : 1 ≤ p.length) (hl64 : p.length ≤ 64) : Calls Tryz.prog 23 #[.agg #[.int .i64 ((p.length : Nat) : Int), .bool false, .bool false], .slice sp p.length cp] w (AnsV w (numQ false false p)) := by
 have hM : Mg w w ([]) := Mg.start w
 refine walk_of (l := [(0, .agg #[.int .i64 (((p.length : Nat) : Int)), .bool false, .bool false]), (1, .slice sp p.length cp)]) Tryz.func23 rfl Tryz.ntmps23 rfl rfl ?_
 intro Q hret hnorm hP a hA
 refine wp_seq_k (fun K1 hK1 => ?_)
 refine wp_region_lit ?_
 refine s_new (vs := [.int .i64 (((p.length : Nat) : Int)), .bool false, .bool false]) (t := 43) hA hM rfl rfl rfl (fun g => .pointer (some ⟨g, 0, none⟩)) (does_box rfl rfl) (by decide) ?_
 intro g2 w3 hM a hA
 refine s_new (vs := [.bool false, .slice none 0 0, .slice none 0 0, .bool false, .slice none 0 0, .slice none 0 0]) (t := 27) hA hM rfl rfl rfl (fun g => .pointer (some ⟨g, 0, none⟩)) (does_alloc (z := .agg #[.bool false, .slice none 0 0, .slice none 0 0, .bool false, .slice none 0 0, .slice none 0 0]) (by kernel_rfl) rfl) (by decide) ?_
 intro g4 w5 hM a hA
 refine seq_end ?_
 refine hK1 _ _ ?_
 refine wp_seq_k (fun K6 hK6 => ?_)
 refine wp_region_lit ?_
 refine seq_do hA rfl rfl rfl (m_loadS hM ByO_isS_43 rfl 1 rfl (cs := [.int .i64 (((p.length : Nat) : Int)), .bool false, .bool false]) rfl rfl) fun a hA => ?_
 refine seq_do hA rfl rfl rfl (does_move rfl) fun a hA => ?_
 refine seq_call hA rfl rfl rfl (enters_func rfl rfl (fun w => by kernel_rfl)) (reordered_false (hp.below hM.bel) (by omega)) ?_
 rintro _ w9 ⟨g7, rfl, hM8⟩
 replace hM : Mg w w9 (.row BY 1 (.slice (some ⟨g7, 0, none⟩) p.length p.length) p.length ((Lib.byteCells p)) :: .obj g4 (.cells #[.bool false, .slice none 0 0, .slice none 0 0, .bool false, .slice none 0 0, .slice none 0 0] 27) :: .obj g2 (.cells #[.int .i64 (((p.length : Nat) : Int)), .bool false, .bool false] 43) :: []) := (hM.both hM8 (noBld_cons (by simp) (noBld_cons (by simp) (noBld_quiet quietL_nil))) (noBld_cons (by simp) (noBld_quiet quietL_nil)))
 refine ⟨_, rfl, ?_⟩
 intro a hA
 refine seq_do hA rfl rfl rfl (does_assign rfl) fun a hA => ?_
 refine seq_end ?_
 refine hK6 _ _ ?_
 refine wp_seq_k (fun K10 hK10 => ?_)
 refine wp_seq_k (fun K11 hK11 => ?_)
 refine wp_region_lit ?_
 refine seq_do (v := .pointer (some ⟨g2, 2, none⟩)) hA rfl rfl rfl (does_field ByO_fld_43_2 rfl rfl) fun a hA => ?_
 refine seq_do hA rfl rfl rfl (m_load1 hM ByO_is1_4 rfl 2 rfl rfl) fun a hA => ?_
 refine seq_do (v := .bool true) hA rfl rfl rfl (does_un rfl un_not) fun a hA => ?_
 refine seq_do hA rfl rfl rfl (does_move rfl) fun a hA => ?_
 refine seq_skip hA rfl rfl rfl fun a hA => ?_
 refine seq_skip hA rfl rfl rfl fun a hA => ?_
 refine seq_skip hA rfl rfl rfl fun a hA => ?_
 refine seq_skip hA rfl rfl rfl fun a hA => ?_
 refine seq_skip hA rfl rfl rfl fun a hA => ?_
 refine seq_skip hA rfl rfl rfl fun a hA => ?_
 refine seq_skip hA rfl rfl rfl fun a hA => ?_
 refine seq_do (v := .bool true) hA rfl rfl rfl (does_pick rfl rfl rfl rfl) fun a hA => ?_
 refine seq_end ?_
 refine hK11 _ _ ?_
 refine wp_cond_true (hA.ev rfl) ?_
 refine wp_seq_k (fun K12 hK12 => ?_)
 refine wp_region_lit ?_
 refine seq_do hA rfl rfl rfl (does_move rfl) fun a hA => ?_
 have hx17 : (p).length = p.length := by simp [flip_len]
 refine seq_call hA rfl rfl rfl (enters_func rfl rfl (fun w => by kernel_rfl)) (natural_any (l := p) (rb_row (bs := p) hM 0 rfl).1 (by omega) (by omega)) ?_
 rintro _ w18 ⟨g13, g14, g15, rfl, hM16⟩
 replace hM : Mg w w18 (.row 57 1 (.slice (some ⟨g13, 0, none⟩) ((words (leN p)).length) ((words (leN p)).length)) ((words (leN p)).length) ((uC (words (leN p)))) :: .row 57 1 (.slice (some ⟨g14, 0, none⟩) 1 2) 1 ([.int .u32 1]) :: .row 57 1 (.slice (some ⟨g15, 0, none⟩) 1 2) 1 ([.int .u32 1]) :: .row BY 1 (.slice (some ⟨g7, 0, none⟩) p.length p.length) p.length ((Lib.byteCells p)) :: .obj g4 (.cells #[.bool false, .slice none 0 0, .slice none 0 0, .bool false, .slice none 0 0, .slice none 0 0] 27) :: .obj g2 (.cells #[.int .i64 (((p.length : Nat) : Int)), .bool false, .bool false] 43) :: []) := (hM.both hM16 (noBld_cons (by simp) (noBld_cons (by simp) (noBld_cons (by simp) (noBld_quiet quietL_nil)))) (noBld_cons (by simp) (noBld_cons (by simp) (noBld_cons (by simp) (noBld_quiet quietL_nil)))))
 refine ⟨_, rfl, ?_⟩
 intro a hA
 refine s_store (us := [.bool false, .slice (some ⟨g13, 0, none⟩) ((words (leN p)).length) ((words (leN p)).length), .slice (some ⟨g14, 0, none⟩) 1 2, .bool false, .slice none 0 0, .slice (some ⟨g15, 0, none⟩) 1 2]) (L' := (.row 57 1 (.slice (some ⟨g13, 0, none⟩) ((words (leN p)).length) ((words (leN p)).length)) ((words (leN p)).length) ((uC (words (leN p)))) :: .row 57 1 (.slice (some ⟨g14, 0, none⟩) 1 2) 1 ([.int .u32 1]) :: .row 57 1 (.slice (some ⟨g15, 0, none⟩) 1 2) 1 ([.int .u32 1]) :: .row BY 1 (.slice (some ⟨g7, 0, none⟩) p.length p.length) p.length ((Lib.byteCells p)) :: .obj g4 (.cells #[.bool false, .slice (some ⟨g13, 0, none⟩) ((words (leN p)).length) ((words (leN p)).length), .slice (some ⟨g14, 0, none⟩) 1 2, .bool false, .slice none 0 0, .slice (some ⟨g15, 0, none⟩) 1 2] 27) :: .obj g2 (.cells #[.int .i64 (((p.length : Nat) : Int)), .bool false, .bool false] 43) :: [])) hA hM rfl rfl (m_store rfl rfl rfl (by kernel_rfl) hM 4 rfl rfl rfl) 4 rfl rfl rfl ?_
 intro w19 hM
 refine seq_end ?_
 refine hK12 _ _ ?_
 refine wp_ret ?_
 refine hret _ _ ?_
 refine ends (v := .agg #[.bool false, .slice (some ⟨g13, 0, none⟩) ((words (leN p)).length) ((words (leN p)).length), .slice (some ⟨g14, 0, none⟩) 1 2, .bool false, .slice none 0 0, .slice (some ⟨g15, 0, none⟩) 1 2]) hA rfl (.cons (res_cellS hM ByO_isS_27 rfl 4 rfl (cs := [.bool false, .slice (some ⟨g13, 0, none⟩) ((words (leN p)).length) ((words (leN p)).length), .slice (some ⟨g14, 0, none⟩) 1 2, .bool false, .slice none 0 0, .slice (some ⟨g15, 0, none⟩) 1 2]) rfl rfl) .nil) rfl ?_
 have e9 : numQ false false p = Q6.whole false (leN p) := by unfold numQ; rw [if_neg (fun h => (by cases h.1))]; rfl
 rw [e9]
 exact ⟨_, _, _, _, _, _, _, _, rfl, ⟨rdW_row hM 0 rfl, rd_row (x := 1) hM 1 rfl (by decide), sc_nil, rd_row (x := 1) hM 2 rfl (by decide)⟩, hM.bel⟩
theorem number_false_true {w : World} {sp : Option Addr} {cp : Nat} {p : List UInt8} (hp : Rb w sp p) (hl1 : 1 ≤ p.length) (hl64 : p.length ≤ 64) : Calls Tryz.prog 23 #[.agg #[.int .i64 ((p.length : Nat) : Int), .bool false, .bool true], .slice sp p.length cp] w (AnsV w (numQ false true p)) := by
 have hM : Mg w w ([]) := Mg.start w
 refine walk_of (l := [(0, .agg #[.int .i64 (((p.length : Nat) : Int)), .bool false, .bool true]), (1, .slice sp p.length cp)]) Tryz.func23 rfl Tryz.ntmps23 rfl rfl ?_
 intro Q hret hnorm hP a hA
 refine wp_seq_k (fun K1 hK1 => ?_)
 refine wp_region_lit ?_
 refine s_new (vs := [.int .i64 (((p.length : Nat) : Int)), .bool false, .bool true]) (t := 43) hA hM rfl rfl rfl (fun g => .pointer (some ⟨g, 0, none⟩)) (does_box rfl rfl) (by decide) ?_
 intro g2 w3 hM a hA
 refine s_new (vs := [.bool false, .slice none 0 0, .slice none 0 0, .bool false, .slice none 0 0, .slice none 0 0]) (t := 27) hA hM rfl rfl rfl (fun g => .pointer (some ⟨g, 0, none⟩)) (does_alloc (z := .agg #[.bool false, .slice none 0 0, .slice none 0 0, .bool false, .slice none 0 0, .slice none 0 0]) (by kernel_rfl) rfl) (by decide) ?_
 intro g4 w5 hM a hA
 refine seq_end ?_
 refine hK1 _ _ ?_
 refine wp_seq_k (fun K6 hK6 => ?_)
 refine wp_region_lit ?_
 refine seq_do hA rfl rfl rfl (m_loadS hM ByO_isS_43 rfl 1 rfl (cs := [.int .i64 (((p.length : Nat) : Int)), .bool false, .bool true]) rfl rfl) fun a hA => ?_
 refine seq_do hA rfl rfl rfl (does_move rfl) fun a hA => ?_
 refine seq_call hA rfl rfl rfl (enters_func rfl rfl (fun w => by kernel_rfl)) (reordered_false (hp.below hM.bel) (by omega)) ?_
 rintro _ w9 ⟨g7, rfl, hM8⟩
 replace hM : Mg w w9 (.row BY 1 (.slice (some ⟨g7, 0, none⟩) p.length p.length) p.length ((Lib.byteCells p)) :: .obj g4 (.cells #[.bool false, .slice none 0 0, .slice none 0 0, .bool false, .slice none 0 0, .slice none 0 0] 27) :: .obj g2 (.cells #[.int .i64 (((p.length : Nat) : Int)), .bool false, .bool true] 43) :: []) := (hM.both hM8 (noBld_cons (by simp) (noBld_cons (by simp) (noBld_quiet quietL_nil))) (noBld_cons (by simp) (noBld_quiet quietL_nil)))
 refine ⟨_, rfl, ?_⟩
 intro a hA
 refine seq_do hA rfl rfl rfl (does_assign rfl) fun a hA => ?_
 refine seq_end ?_
 refine hK6 _ _ ?_
 refine wp_seq_k (fun K10 hK10 => ?_)
 refine wp_seq_k (fun K11 hK11 => ?_)
 refine wp_region_lit ?_
 refine seq_do (v := .pointer (some ⟨g2, 2, none⟩)) hA rfl rfl rfl (does_field ByO_fld_43_2 rfl rfl) fun a hA => ?_
 refine seq_do hA rfl rfl rfl (m_load1 hM ByO_is1_4 rfl 2 rfl rfl) fun a hA => ?_
 refine seq_do (v := .bool false) hA rfl rfl rfl (does_un rfl un_not) fun a hA => ?_
 refine seq_do hA rfl rfl rfl (does_move rfl) fun a hA => ?_
 refine seq_do hA rfl rfl rfl (does_move rfl) fun a hA => ?_
 refine seq_do (v := .pointer (some ⟨g2, 0, none⟩)) hA rfl rfl rfl (does_field ByO_fld_43_0 rfl rfl) fun a hA => ?_
 refine seq_do hA rfl rfl rfl (m_load1 hM ByO_is1_3 rfl 2 rfl rfl) fun a hA => ?_
 refine seq_do (v := .int .i64 (((p.length - 1 : Nat) : Int))) hA rfl rfl rfl (does_bin rfl rfl (ar_sub ((in_i64 (by omega) (by omega)).trans (by omega)))) fun a hA => ?_
 refine seq_do (v := .pointer (some ⟨g7, (p.length - 1) * 1, none⟩)) hA rfl rfl rfl (does_indexE Tryz.underlying22 (by kernel_rfl) rfl rfl rfl (show p.length - 1 < p.length by omega)) fun a hA => ?_
 refine seq_do (v := .int .u8 ((((p.getD (p.length - 1) 0).toNat : Nat) : Int))) hA rfl rfl rfl (m_loadX hM 0 rfl (cells_get (l := p) (i := p.length - 1) (by omega)) ByO_is1_5 rfl) fun a hA => ?_
 rcases Bool.eq_false_or_eq_true (decide ((((p.getD (p.length - 1) 0).toNat : Nat) : Int) < 128)) with hb12 | hb12
 ·
  have hb12' := of_decide_eq_true hb12
  refine seq_do (v := .bool true) hA rfl rfl rfl (does_bin rfl rfl (fun w => (bin_lss w).trans (by rw [hb12]))) fun a hA => ?_
  refine seq_do (v := .bool true) hA rfl rfl rfl (does_pick rfl rfl rfl rfl) fun a hA => ?_
  refine seq_end ?_
  refine hK11 _ _ ?_
  refine wp_cond_true (hA.ev rfl) ?_
  refine wp_seq_k (fun K13 hK13 => ?_)
  refine wp_region_lit ?_
  refine seq_do hA rfl rfl rfl (does_move rfl) fun a hA => ?_
  have hx18 : (p).length = p.length := by simp [flip_len]
  refine seq_call hA rfl rfl rfl (enters_func rfl rfl (fun w => by kernel_rfl)) (natural_any (l := p) (rb_row (bs := p) hM 0 rfl).1 (by omega) (by omega)) ?_
  rintro _ w19 ⟨g14, g15, g16, rfl, hM17⟩
  replace hM : Mg w w19 (.row 57 1 (.slice (some ⟨g14, 0, none⟩) ((words (leN p)).length) ((words (leN p)).length)) ((words (leN p)).length) ((uC (words (leN p)))) :: .row 57 1 (.slice (some ⟨g15, 0, none⟩) 1 2) 1 ([.int .u32 1]) :: .row 57 1 (.slice (some ⟨g16, 0, none⟩) 1 2) 1 ([.int .u32 1]) :: .row BY 1 (.slice (some ⟨g7, 0, none⟩) p.length p.length) p.length ((Lib.byteCells p)) :: .obj g4 (.cells #[.bool false, .slice none 0 0, .slice none 0 0, .bool false, .slice none 0 0, .slice none 0 0] 27) :: .obj g2 (.cells #[.int .i64 (((p.length : Nat) : Int)), .bool false, .bool true] 43) :: []) := (hM.both hM17 (noBld_cons (by simp) (noBld_cons (by simp) (noBld_cons (by simp) (noBld_quiet quietL_nil)))) (noBld_cons (by simp) (noBld_cons (by simp) (noBld_cons (by simp) (noBld_quiet quietL_nil)))))
  refine ⟨_, rfl, ?_⟩
  intro a hA
  refine s_store (us := [.bool false, .slice (some ⟨g14, 0, none⟩) ((words (leN p)).length) ((words (leN p)).length), .slice (some ⟨g15, 0, none⟩) 1 2, .bool false, .slice none 0 0, .slice (some ⟨g16, 0, none⟩) 1 2]) (L' := (.row 57 1 (.slice (some ⟨g14, 0, none⟩) ((words (leN p)).length) ((words (leN p)).length)) ((words (leN p)).length) ((uC (words (leN p)))) :: .row 57 1 (.slice (some ⟨g15, 0, none⟩) 1 2) 1 ([.int .u32 1]) :: .row 57 1 (.slice (some ⟨g16, 0, none⟩) 1 2) 1 ([.int .u32 1]) :: .row BY 1 (.slice (some ⟨g7, 0, none⟩) p.length p.length) p.length ((Lib.byteCells p)) :: .obj g4 (.cells #[.bool false, .slice (some ⟨g14, 0, none⟩) ((words (leN p)).length) ((words (leN p)).length), .slice (some ⟨g15, 0, none⟩) 1 2, .bool false, .slice none 0 0, .slice (some ⟨g16, 0, none⟩) 1 2] 27) :: .obj g2 (.cells #[.int .i64 (((p.length : Nat) : Int)), .bool false, .bool true] 43) :: [])) hA hM rfl rfl (m_store rfl rfl rfl (by kernel_rfl) hM 4 rfl rfl rfl) 4 rfl rfl rfl ?_
  intro w20 hM
  refine seq_end ?_
  refine hK13 _ _ ?_
  refine wp_ret ?_
  refine hret _ _ ?_
  refine ends (v := .agg #[.bool false, .slice (some ⟨g14, 0, none⟩) ((words (leN p)).length) ((words (leN p)).length), .slice (some ⟨g15, 0, none⟩) 1 2, .bool false, .slice none 0 0, .slice (some ⟨g16, 0, none⟩) 1 2]) hA rfl (.cons (res_cellS hM ByO_isS_27 rfl 4 rfl (cs := [.bool false, .slice (some ⟨g14, 0, none⟩) ((words (leN p)).length) ((words (leN p)).length), .slice (some ⟨g15, 0, none⟩) 1 2, .bool false, .slice none 0 0, .slice (some ⟨g16, 0, none⟩) 1 2]) rfl rfl) .nil) rfl ?_
  have e9 : numQ false true p = Q6.whole false (leN p) := by unfold numQ; rw [if_neg (fun h => (by have h9 : 128 ≤ ((p).getD (p.length - 1) 0).toNat := h.2; omega))]; rfl
  rw [e9]
  exact ⟨_, _, _, _, _, _, _, _, rfl, ⟨rdW_row hM 0 rfl, rd_row (x := 1) hM 1 rfl (by decide), sc_nil, rd_row (x := 1) hM 2 rfl (by decide)⟩, hM.bel⟩
 ·
  have hb12' := of_decide_eq_false hb12
  refine seq_do (v := .bool false) hA rfl rfl rfl (does_bin rfl rfl (fun w => (bin_lss w).trans (by rw [hb12]))) fun a hA => ?_
  refine seq_do (v := .bool false) hA rfl rfl rfl (does_pick rfl rfl rfl rfl) fun a hA => ?_
  refine seq_end ?_
  refine hK11 _ _ ?_
  refine wp_cond_false (hA.ev rfl) ?_
  refine wp_skip ?_
  refine hK10 _ _ ?_
  refine wp_seq_k (fun K21 hK21 => ?_)
  refine wp_seq_k (fun K22 hK22 => ?_)
  refine wp_region_lit ?_
  refine seq_do hA rfl rfl rfl (does_move rfl) fun a hA => ?_
  refine seq_do (v := .int .i64 (((p.length : Nat) : Int))) hA rfl rfl rfl (does_len Tryz.underlying22 rfl) fun a hA => ?_
  refine seq_do hA rfl rfl rfl (does_move rfl) fun a hA => ?_
  refine seq_end ?_
  refine hK22 _ _ ?_
  refine wp_block ?_
  refine wp_loop_n (fun m_ a w1 => ∃ (i : Nat), m_ = p.length - i ∧ (i ≤ p.length) ∧ Sl a 47 [(0, .agg #[.int .i64 (((p.length : Nat) : Int)), .bool false, .bool true]), (1, .slice sp p.length cp), (2, .pointer (some ⟨g2, 0, none⟩)), (4, .pointer (some ⟨g4, 0, none⟩)), (5, .slice (some ⟨g7, 0, none⟩) p.length p.length), (9, .agg #[.int .i64 (((p.length : Nat) : Int)), .bool false, .bool true]), (10, .slice sp p.length cp), (11, .slice (some ⟨g7, 0, none⟩) p.length p.length), (12, .pointer (some ⟨g2, 2, none⟩)), (13, .bool true), (14, .bool false), (15, .bool false), (16, .slice (some ⟨g7, 0, none⟩) p.length p.length), (17, .pointer (some ⟨g2, 0, none⟩)), (18, .int .i64 (((p.length : Nat) : Int))), (19, .int .i64 (((p.length - 1 : Nat) : Int))), (20, .pointer (some ⟨g7, (p.length - 1) * 1, none⟩)), (21, .int .u8 ((((p.getD (p.length - 1) 0).toNat : Nat) : Int))), (22, .bool false), (23, .bool false), (26, .slice (some ⟨g7, 0, none⟩) p.length p.length), (27, .int .i64 (((p.length : Nat) : Int))), (28, .int .i64 (((i : Nat) : Int)))] ∧ Mg w w1 (.row BY 1 (.slice (some ⟨g7, 0, none⟩) p.length p.length) p.length ((Lib.byteCells (flipI p i))) :: .obj g4 (.cells #[.bool false, .slice none 0 0, .slice none 0 0, .bool false, .slice none 0 0, .slice none 0 0] 27) :: .obj g2 (.cells #[.int .i64 (((p.length : Nat) : Int)), .bool false, .bool true] 43) :: [])) _ ⟨0, rfl, Nat.zero_le _, hA.keep _ ⟨rfl, rfl, rfl, rfl, rfl, rfl, rfl, rfl, rfl, rfl, rfl, rfl, rfl, rfl, rfl, rfl, rfl, rfl, rfl, rfl, rfl, rfl, rfl, trivial⟩, hM⟩ ?_
  clear hM hA
  rintro m_ a w23 ⟨i, rfl, hinv25, hA, hM⟩ K24 hK24
  have hi9 := hinv25
  refine wp_seq_k (fun K26 hK26 => ?_)
  refine wp_region_lit ?_
  rcases Bool.eq_false_or_eq_true (decide (((i : Nat) : Int) < ((p.length : Nat) : Int))) with hb27 | hb27
  ·
   have hb27' := of_decide_eq_true hb27
   refine seq_do (v := .bool true) hA rfl rfl rfl (does_bin rfl rfl (fun w => (bin_lss w).trans (by rw [hb27]))) fun a hA => ?_
   refine seq_end ?_
   refine hK26 _ _ ?_
   refine wp_seq_k (fun K28 hK28 => ?_)
   refine wp_cond_true (hA.ev rfl) ?_
   refine wp_skip ?_
   refine hK28 _ _ ?_
   refine wp_seq_k (fun K29 hK29 => ?_)
   refine wp_block ?_
   refine wp_seq_k (fun K30 hK30 => ?_)
   refine wp_region_lit ?_
   refine seq_do hA rfl rfl rfl (does_move rfl) fun a hA => ?_
   refine seq_do hA rfl rfl rfl (does_assign rfl) fun a hA => ?_
   refine seq_end ?_
   refine hK30 _ _ ?_
   refine wp_region_lit ?_
   refine seq_do hA rfl rfl rfl (does_move rfl) fun a hA => ?_
   refine seq_do hA rfl rfl rfl (does_move rfl) fun a hA => ?_
   refine seq_do hA rfl rfl rfl (does_move rfl) fun a hA => ?_
   refine seq_do hA rfl rfl rfl (does_move rfl) fun a hA => ?_
   refine seq_do (v := .pointer (some ⟨g7, (i) * 1, none⟩)) hA rfl rfl rfl (does_indexE Tryz.underlying22 (by kernel_rfl) rfl rfl rfl (show i < p.length by omega)) fun a hA => ?_
   refine seq_do (v := .int .u8 ((((p.getD (i) 0).toNat : Nat) : Int))) hA rfl rfl rfl (m_loadX hM 0 rfl (flip_get (l := p) (i := i) (by omega)) ByO_is1_5 rfl) fun a hA => ?_
   have hX8 : (p.getD i 0).toNat < 256 := UInt8.toNat_lt _
   refine seq_do (v := .int .u8 (((255 - (p.getD i 0).toNat : Nat) : Int))) hA rfl rfl rfl (does_un rfl (un_xor8 hX8)) fun a hA => ?_
   refine seq_do (v := .pointer (some ⟨g7, (i) * 1, none⟩)) hA rfl rfl rfl (does_indexE Tryz.underlying22 (by kernel_rfl) rfl rfl rfl (show i < p.length by omega)) fun a hA => ?_
   refine s_storeE (cs := [.int .u8 (((255 - (p.getD i 0).toNat : Nat) : Int))]) (L' := (.row BY 1 (.slice (some ⟨g7, 0, none⟩) p.length p.length) p.length ((over (Lib.byteCells (flipI p i)) ((i) * 1) [.int .u8 (((255 - (p.getD i 0).toNat : Nat) : Int))])) :: .obj g4 (.cells #[.bool false, .slice none 0 0, .slice none 0 0, .bool false, .slice none 0 0, .slice none 0 0] 27) :: .obj g2 (.cells #[.int .i64 (((p.length : Nat) : Int)), .bool false, .bool true] 43) :: [])) (us := []) hA hM rfl rfl (m_storeE rfl rfl rfl (by kernel_rfl) hM 0 rfl (show (i) * 1 + 1 ≤ p.length * 1 by omega) rfl) 0 rfl rfl ?_
   intro w31 hM
   replace hM : Mg w w31 (.row BY 1 (.slice (some ⟨g7, 0, none⟩) p.length p.length) p.length ((Lib.byteCells (flipI p (i + 1)))) :: .obj g4 (.cells #[.bool false, .slice none 0 0, .slice none 0 0, .bool false, .slice none 0 0, .slice none 0 0] 27) :: .obj g2 (.cells #[.int .i64 (((p.length : Nat) : Int)), .bool false, .bool true] 43) :: []) := by
    have h9 := hM
    rw [flip_step (l := p) (by omega)] at h9
    exact h9
   refine seq_end ?_
   refine hK29 _ _ ?_
   refine wp_region_lit ?_
   refine seq_do (v := .int .i64 (((i + 1 : Nat) : Int))) hA rfl rfl rfl (does_bin rfl rfl (ar_add ((in_i64 (by omega) (by omega)).trans (by omega)))) fun a hA => ?_
   refine seq_do hA rfl rfl rfl (does_move rfl) fun a hA => ?_
   refine seq_end ?_
   refine hK24 _ _ _ (by omega) ⟨i + 1, rfl, (by omega), hA.keep _ ⟨rfl, rfl, rfl, rfl, rfl, rfl, rfl, rfl, rfl, rfl, rfl, rfl, rfl, rfl, rfl, rfl, rfl, rfl, rfl, rfl, rfl, rfl, rfl, trivial⟩, hM⟩
  ·
   have hb27' := of_decide_eq_false hb27
   refine seq_do (v := .bool false) hA rfl rfl rfl (does_bin rfl rfl (fun w => (bin_lss w).trans (by rw [hb27]))) fun a hA => ?_
   refine seq_end ?_
   refine hK26 _ _ ?_
   refine wp_seq_k (fun K32 hK32 => ?_)
   refine wp_cond_false (hA.ev rfl) ?_
   refine wp_exit ?_
   refine hK21 _ _ ?_
   refine wp_seq_k (fun K33 hK33 => ?_)
   refine wp_region_lit ?_
   refine seq_do hA rfl rfl rfl (does_move rfl) fun a hA => ?_
   have hx38 : (flipI p i).length = p.length := by simp [flip_len]
   refine seq_call hA rfl rfl rfl (enters_func rfl rfl (fun w => by kernel_rfl)) ((by have h9 := natural_any (w := w23) (l := flipI p i) (rb_row (bs := flipI p i) hM 0 rfl).1 (ca := p.length) (by omega) (by omega); rw [hx38] at h9; exact h9)) ?_
   rintro _ w39 ⟨g34, g35, g36, rfl, hM37⟩
   replace hM : Mg w w39 (.row 57 1 (.slice (some ⟨g34, 0, none⟩) ((words (leN (flipI p i))).length) ((words (leN (flipI p i))).length)) ((words (leN (flipI p i))).length) ((uC (words (leN (flipI p i))))) :: .row 57 1 (.slice (some ⟨g35, 0, none⟩) 1 2) 1 ([.int .u32 1]) :: .row 57 1 (.slice (some ⟨g36, 0, none⟩) 1 2) 1 ([.int .u32 1]) :: .row BY 1 (.slice (some ⟨g7, 0, none⟩) p.length p.length) p.length ((Lib.byteCells (flipI p i))) :: .obj g4 (.cells #[.bool false, .slice none 0 0, .slice none 0 0, .bool false, .slice none 0 0, .slice none 0 0] 27) :: .obj g2 (.cells #[.int .i64 (((p.length : Nat) : Int)), .bool false, .bool true] 43) :: []) := (hM.both hM37 (noBld_cons (by simp) (noBld_cons (by simp) (noBld_cons (by simp) (noBld_quiet quietL_nil)))) (noBld_cons (by simp) (noBld_cons (by simp) (noBld_cons (by simp) (noBld_quiet quietL_nil)))))
   refine ⟨_, rfl, ?_⟩
   intro a hA
   have hN9 : Nm _ (Q6.whole false (leN (flipI p i))) (some ⟨g34, 0, none⟩) (words (leN (flipI p i))).length (some ⟨g35, 0, none⟩) 2 none 0 (some ⟨g36, 0, none⟩) 2 := ⟨rdW_row hM 0 rfl, rd_row (x := 1) hM 1 rfl (by decide), sc_nil, rd_row (x := 1) hM 2 rfl (by decide)⟩
   have hlt9 : leN (flipI p i) < 256 ^ p.length := by have h9 := leN_lt (flipI p i); rw [show (flipI p i).length = p.length from by simp [flip_len]] at h9; exact h9
   refine seq_call hA rfl rfl rfl (enters_func rfl rfl (fun w => by kernel_rfl)) (not_small hl64 hlt9 hN9) ?_
   rintro _ w43 ⟨o42_1, o42_c1, o42_2, o42_c2, o42_3, o42_c3, o42_4, o42_c4, rfl, hn40, hb41⟩
   replace hM := hM.call hb41
   refine ⟨_, rfl, ?_⟩
   intro a hA
   refine seq_do hA rfl rfl rfl (does_move rfl) fun a hA => ?_
   refine seq_do (v := .agg #[.bool true, .slice o42_1 ((words (leN (flipI p i) + 1)).length) o42_c1, .slice o42_2 1 o42_c2, .bool false, .slice o42_3 0 o42_c3, .slice o42_4 1 o42_c4]) hA rfl rfl rfl (does_extract (vs := [.agg #[.bool true, .slice o42_1 ((words (leN (flipI p i) + 1)).length) o42_c1, .slice o42_2 1 o42_c2, .bool false, .slice o42_3 0 o42_c3, .slice o42_4 1 o42_c4], .int .i64 0]) rfl rfl) fun a hA => ?_
   refine seq_do (v := .int .i64 0) hA rfl rfl rfl (does_extract (vs := [.agg #[.bool true, .slice o42_1 ((words (leN (flipI p i) + 1)).length) o42_c1, .slice o42_2 1 o42_c2, .bool false, .slice o42_3 0 o42_c3, .slice o42_4 1 o42_c4], .int .i64 0]) rfl rfl) fun a hA => ?_
   refine s_newN (vs := [.bool false, .slice none 0 0, .slice none 0 0, .bool false, .slice none 0 0, .slice none 0 0]) (t := 27) hA hM rfl rfl rfl (fun g => .pointer (some ⟨g, 0, none⟩)) (does_alloc (z := .agg #[.bool false, .slice none 0 0, .slice none 0 0, .bool false, .slice none 0 0, .slice none 0 0]) (by kernel_rfl) rfl) (by decide) ?_
   intro g44 w45 hM hc46 a hA
   replace hn40 := nm_carry hn40 hc46
   refine s_storeN (us := [.bool true, .slice o42_1 ((words (leN (flipI p i) + 1)).length) o42_c1, .slice o42_2 1 o42_c2, .bool false, .slice o42_3 0 o42_c3, .slice o42_4 1 o42_c4]) (L' := (.obj g44 (.cells #[.bool true, .slice o42_1 ((words (leN (flipI p i) + 1)).length) o42_c1, .slice o42_2 1 o42_c2, .bool false, .slice o42_3 0 o42_c3, .slice o42_4 1 o42_c4] 27) :: .row 57 1 (.slice (some ⟨g34, 0, none⟩) ((words (leN (flipI p i))).length) ((words (leN (flipI p i))).length)) ((words (leN (flipI p i))).length) ((uC (words (leN (flipI p i))))) :: .row 57 1 (.slice (some ⟨g35, 0, none⟩) 1 2) 1 ([.int .u32 1]) :: .row 57 1 (.slice (some ⟨g36, 0, none⟩) 1 2) 1 ([.int .u32 1]) :: .row BY 1 (.slice (some ⟨g7, 0, none⟩) p.length p.length) p.length ((Lib.byteCells (flipI p i))) :: .obj g4 (.cells #[.bool false, .slice none 0 0, .slice none 0 0, .bool false, .slice none 0 0, .slice none 0 0] 27) :: .obj g2 (.cells #[.int .i64 (((p.length : Nat) : Int)), .bool false, .bool true] 43) :: [])) hA hM rfl rfl (m_store rfl rfl rfl (by kernel_rfl) hM 0 rfl rfl rfl) 0 rfl rfl rfl rfl rfl rfl ?_
   intro w47 hM hc48
   replace hn40 := nm_carry hn40 hc48
   refine seq_do hA rfl rfl rfl (does_assign rfl) fun a hA => ?_
   refine seq_end ?_
   refine hK33 _ _ ?_
   refine wp_seq_k (fun K49 hK49 => ?_)
   refine wp_region_lit ?_
   refine seq_do hA rfl rfl rfl (m_loadS hM ByO_isS_27 rfl 0 rfl (cs := [.bool true, .slice o42_1 ((words (leN (flipI p i) + 1)).length) o42_c1, .slice o42_2 1 o42_c2, .bool false, .slice o42_3 0 o42_c3, .slice o42_4 1 o42_c4]) rfl rfl) fun a hA => ?_
   refine s_storeN (us := [.bool true, .slice o42_1 ((words (leN (flipI p i) + 1)).length) o42_c1, .slice o42_2 1 o42_c2, .bool false, .slice o42_3 0 o42_c3, .slice o42_4 1 o42_c4]) (L' := (.obj g44 (.cells #[.bool true, .slice o42_1 ((words (leN (flipI p i) + 1)).length) o42_c1, .slice o42_2 1 o42_c2, .bool false, .slice o42_3 0 o42_c3, .slice o42_4 1 o42_c4] 27) :: .row 57 1 (.slice (some ⟨g34, 0, none⟩) ((words (leN (flipI p i))).length) ((words (leN (flipI p i))).length)) ((words (leN (flipI p i))).length) ((uC (words (leN (flipI p i))))) :: .row 57 1 (.slice (some ⟨g35, 0, none⟩) 1 2) 1 ([.int .u32 1]) :: .row 57 1 (.slice (some ⟨g36, 0, none⟩) 1 2) 1 ([.int .u32 1]) :: .row BY 1 (.slice (some ⟨g7, 0, none⟩) p.length p.length) p.length ((Lib.byteCells (flipI p i))) :: .obj g4 (.cells #[.bool true, .slice o42_1 ((words (leN (flipI p i) + 1)).length) o42_c1, .slice o42_2 1 o42_c2, .bool false, .slice o42_3 0 o42_c3, .slice o42_4 1 o42_c4] 27) :: .obj g2 (.cells #[.int .i64 (((p.length : Nat) : Int)), .bool false, .bool true] 43) :: [])) hA hM rfl rfl (m_store rfl rfl rfl (by kernel_rfl) hM 5 rfl rfl rfl) 5 rfl rfl rfl rfl rfl rfl ?_
   intro w50 hM hc51
   replace hn40 := nm_carry hn40 hc51
   refine seq_end ?_
   refine hK49 _ _ ?_
   refine wp_ret ?_
   refine hret _ _ ?_
   refine ends (v := .agg #[.bool true, .slice o42_1 ((words (leN (flipI p i) + 1)).length) o42_c1, .slice o42_2 1 o42_c2, .bool false, .slice o42_3 0 o42_c3, .slice o42_4 1 o42_c4]) hA rfl (.cons (res_cellS hM ByO_isS_27 rfl 5 rfl (cs := [.bool true, .slice o42_1 ((words (leN (flipI p i) + 1)).length) o42_c1, .slice o42_2 1 o42_c2, .bool false, .slice o42_3 0 o42_c3, .slice o42_4 1 o42_c4]) rfl rfl) .nil) rfl ?_
   have hi8 : i = p.length := by omega
   subst hi8
   have e9 : numQ false true p = Q6.whole true (leN (flipI p p.length) + 1) := by
    unfold numQ
    rw [if_pos ⟨rfl, (show 128 ≤ ((p).getD (p.length - 1) 0).toNat from by omega)⟩]
    have h8 := leN_flip p
    rw [← flip_all, show (p).length = p.length from by simp] at h8
    rw [(show lowB false p = p from rfl), show 256 ^ p.length - leN p = leN (flipI p p.length) + 1 from by omega]
   rw [e9]
   exact ⟨_, _, _, _, _, _, _, _, rfl, hn40, hM.bel⟩
theorem number_any {w : World} {sp : Option Addr} {cp : Nat} {p : List UInt8} (hp : Rb w sp p) (hl1 : 1 ≤ p.length) (hl64 : p.length ≤ 64) (bg sg : Bool) : Calls Tryz.prog 23 #[.agg #[.int .i64 ((p.length : Nat) : Int), .bool bg, .bool sg], .slice sp p.length cp] w (AnsV w (numQ bg sg p)) := by
 cases bg <;> cases sg
 ·
  exact number_false_false hp hl1 hl64
 ·
  exact number_false_true hp hl1 hl64
 ·
  exact number_true_false hp hl1 hl64
 ·
  exact number_true_true hp hl1 hl64
end Go.Proofs.YtbajcflbimmnhaaGreatDoor.G
namespace Go.Proofs.YtbajcflbimmnhaaGreatDoor
open Go.RowKit
set_option linter.unusedVariables false
set_option linter.unusedSimpArgs false

section
variable {P : Program} {w0 w : World} {l : List (Nat × Value)} {dst : Option Tmp} {ty : TypeId} {pos : String} {after : Array Edge} {guard : Option (Nat × Bool)} {v : Value} {L : List (Nat × List Value)} {R : List (Option Addr × List Nat)} {O : List (Option Addr × Nat × List Nat)}
theorem does_lhB {t e : TypeId} (ht : P.underlying t = some (.slice e)) (he : (P.info? e).map (·.size) = some 1) {x y1 y2 : Operand} {so : Option Addr} {n cap lo hi q : Nat} {z1 z2 : Int} (hx : ev l x = some (.slice so n cap)) (hy1 : ev l y1 = some (.int .i64 z1)) (hy2 : ev l y2 = some (.int .i64 z2)) (hz1 : z1 = ((lo : Nat) : Int)) (hz2 : z2 = ((hi : Nat) : Int)) (h1 : lo ≤ hi) (h2 : hi ≤ cap) (hq : hi - lo = q) : Does P l ⟨dst, .slice t x (some y1) (some y2) none, ty, pos, after, guard⟩ w (.slice (G.dropA so cap lo) q (cap - lo)) w := fun ρ h => by
  subst hz1 hz2 hq
  obtain ⟨i, hii, hs⟩ := info_size he
  have k2 : (sizeOf e).run P w = .ok 1 w := by simp [sizeOf, typeInfo, hii, hs]
  have g1 : (0 : Int) ≤ (lo : Nat) ∧ ((lo : Nat) : Int) ≤ (hi : Int) := ⟨by omega, by omega⟩
  have g2 : (0 : Int) ≤ (hi : Nat) ∧ ((hi : Nat) : Int) ≤ (cap : Int) := ⟨by omega, by omega⟩
  simp only [execOp, h x _ hx, h y1 _ hy1, h y2 _ hy2, Option.map_some, Option.map_none, Instr.sliceAt, Instr.slice, Instr.sliceBounds, Instr.sliceBound, asIntOf, run_underlying ht, Sem.run_bind, Sem.run_pure, Result.andThen_ok, g1, g2, k2, and_self, if_true, Int.toNat_natCast, Nat.mul_one, G.dropA]
end
def okG (n : Nat) (ap size : Int) : Bool := G.okSize size && G.inB n ap size
def getQ (l : List UInt8) (ap size : Int) (bg sg : Bool) : Q6 × Int := if okG l.length ap size = true then (G.numQ bg sg ((l.drop ap.toNat).take size.toNat), 0) else (Q6.zero, 1)
theorem words_256 : words 256 = [256] := by rw [words_pos (by omega)]; simp [words_zero]
theorem rup1 {w : World} {bo : Option Addr} (cb : Nat) {n : Nat} (hb : Rd w bo [1]) (hn : n ≤ 1000000) : Calls Tryz.prog 34 #[.slice bo 1 cb, .int .i64 ((n : Nat) : Int)] w (Row1 w (words (2 ^ n))) := by
  have h := rupI_any (x := 1) (n := ((n : Nat) : Int)) cb (words_one.symm ▸ hb) (by rw [words_one]; decide) (by omega) (by omega)
  rw [show (words 1).length = 1 from by rw [words_one]; rfl, Int.toNat_natCast, Nat.one_mul] at h
  exact h
theorem pow_8 (n : Nat) : 2 ^ (8 * n) = 256 ^ n := by rw [Nat.pow_mul]
theorem top_bit {l : List UInt8} {n : Nat} (hl : l.length = n) (h1 : 1 ≤ n) : bl (G.leN l) = 8 * n ↔ 128 ≤ (l.getD (n - 1) 0).toNat := by
  have hlt : n - 1 < l.length := by omega
  have e : l = l.take (n - 1) ++ [l[n - 1]] := by
    have := List.take_append_drop (n - 1) l
    rw [List.drop_eq_getElem_cons hlt, List.drop_eq_nil_of_le (by omega)] at this
    exact this.symm
  have ed : l.getD (n - 1) 0 = l[n - 1] := by rw [List.getD_eq_getElem?_getD, List.getElem?_eq_getElem hlt]; rfl
  rw [ed]
  have hx : G.leN l = G.leN (l.take (n - 1)) + 256 ^ (n - 1) * l[n - 1].toNat := by
    have h := congrArg G.leN e
    rw [G.leN_append] at h
    rw [h, List.length_take, Nat.min_eq_left (by omega)]
    simp [G.leN]
  have ht := G.leN_lt (l.take (n - 1))
  rw [List.length_take, Nat.min_eq_left (by omega)] at ht
  have hw := G.leN_lt l
  rw [hl] at hw
  have hb : l[n - 1].toNat < 256 := UInt8.toNat_lt _
  obtain ⟨m, rfl⟩ : ∃ m, n = m + 1 := ⟨n - 1, by omega⟩
  simp only [Nat.add_sub_cancel] at *
  have hp : 2 ^ (8 * (m + 1) - 1) = 128 * 256 ^ m := by
    rw [show 8 * (m + 1) - 1 = 8 * m + 7 from by omega, Nat.pow_add, pow_8]
    omega
  constructor
  · intro h
    have hne : G.leN l ≠ 0 := fun k => by rw [k, bl_zero] at h; omega
    have h2 := bl_ge hne
    rw [h, hp] at h2
    apply Classical.byContradiction
    intro hc
    have : l[m].toNat ≤ 127 := by omega
    have h3 := Nat.mul_le_mul_left (256 ^ m) this
    rw [hx] at h2
    omega
  · intro h
    have h3 := Nat.mul_le_mul_left (256 ^ m) h
    have h4 := bl_eq (x := G.leN l) (n := 8 * (m + 1) - 1) (by rw [hp, hx]; omega) (by rw [show 8 * (m + 1) - 1 + 1 = 8 * (m + 1) from by omega, pow_8]; exact hw)
    omega
end Go.Proofs.YtbajcflbimmnhaaGreatDoor
namespace Go.Proofs.YtbajcflbimmnhaaGreatDoor
open Go.RowKit
set_option linter.unusedVariables false
set_option linter.unusedSimpArgs false
set_option maxRecDepth 100000
theorem GvB_isS_27 : IsS Tryz.prog 27 6 := ⟨⟨_, Tryz.underlying27⟩, by kernel_rfl⟩
theorem GvB_isS_43 : IsS Tryz.prog 43 3 := ⟨⟨_, Tryz.underlying43⟩, by kernel_rfl⟩
theorem get_no1 {w : World} {so : Option Addr} {ca : Nat} {l : List UInt8} (hb : G.Rb w so l) (hca : l.length ≤ ca) (hl : l.length ≤ 140737488351232) {ap size : Int} (hap0 : -9223372036854775808 ≤ ap) (hap1 : ap ≤ 9223372036854775807) (hsize0 : -9223372036854775808 ≤ size) (hsize1 : size ≤ 9223372036854775807) (bg sg : Bool) (h1 : G.okSize size = false) : Calls Tryz.prog 9 #[.slice so l.length ca, .int .i64 ap, .int .i64 size, .bool bg, .bool sg] w (AnsN w (Q6.zero, 1)) := by
 have hS : St w w [] [] [] := St.start w
 refine walk_of (l := [(0, .slice so l.length ca), (1, .int .i64 ap), (2, .int .i64 size), (3, .bool bg), (4, .bool sg)]) Tryz.func9 rfl Tryz.ntmps9 rfl rfl ?_
 intro Q hret hnorm hP a hA
 refine wp_seq_k (fun K1 hK1 => ?_)
 refine wp_region_lit ?_
 refine seq_new (vs := [.bool false, .slice none 0 0, .slice none 0 0, .bool false, .slice none 0 0, .slice none 0 0]) (t := 27) hA hS rfl rfl rfl (fun g => .pointer (some ⟨g, 0, none⟩)) (does_alloc (z := .agg #[.bool false, .slice none 0 0, .slice none 0 0, .bool false, .slice none 0 0, .slice none 0 0]) (by kernel_rfl) rfl) rfl ?_
 intro g2 w3 hS a hA
 refine seq_do hA rfl rfl rfl (does_assign rfl) fun a hA => ?_
 refine seq_end ?_
 refine hK1 _ _ ?_
 refine wp_seq_k (fun K4 hK4 => ?_)
 refine wp_region_lit ?_
 refine seq_do hA rfl rfl rfl (does_move rfl) fun a hA => ?_
 refine seq_do hA rfl rfl rfl (does_move rfl) fun a hA => ?_
 refine seq_do hA rfl rfl rfl (does_move rfl) fun a hA => ?_
 refine seq_do (v := .agg #[.int .i64 size, .bool bg, .bool sg]) hA rfl rfl rfl (does_build rfl (fun w => by kernel_rfl)) fun a hA => ?_
 refine seq_new (vs := [.int .i64 0, .bool false, .bool false]) (t := 43) hA hS rfl rfl rfl (fun g => .pointer (some ⟨g, 0, none⟩)) (does_alloc (z := .agg #[.int .i64 0, .bool false, .bool false]) (by kernel_rfl) rfl) rfl ?_
 intro g5 w6 hS a hA
 refine seq_store (us := [.int .i64 size, .bool bg, .bool sg]) hA hS rfl rfl (sets_store rfl rfl rfl (by kernel_rfl) hS 0 rfl rfl rfl) 0 rfl rfl rfl rfl ?_
 intro w7 hS
 refine seq_end ?_
 refine hK4 _ _ ?_
 refine wp_seq_k (fun K8 hK8 => ?_)
 refine wp_seq_k (fun K9 hK9 => ?_)
 refine wp_region_lit ?_
 refine seq_do hA rfl rfl rfl (does_loadS hS GvB_isS_43 rfl 0 rfl (cs := [.int .i64 size, .bool bg, .bool sg]) rfl rfl) fun a hA => ?_
 refine seq_call hA rfl rfl rfl (enters_func  rfl rfl (fun w => by kernel_rfl)) ((h1 ▸ G.allowed_any (size := size) (bg := bg) (sg := sg))) ?_
 rintro _ w11 ⟨rfl, hb10⟩
 replace hS := hS.call hb10
 refine ⟨_, rfl, ?_⟩
 intro a hA
 refine seq_do (v := .bool true) hA rfl rfl rfl (does_un rfl un_not) fun a hA => ?_
 refine seq_do hA rfl rfl rfl (does_move rfl) fun a hA => ?_
 refine seq_skip hA rfl rfl rfl fun a hA => ?_
 refine seq_skip hA rfl rfl rfl fun a hA => ?_
 refine seq_skip hA rfl rfl rfl fun a hA => ?_
 refine seq_skip hA rfl rfl rfl fun a hA => ?_
 refine seq_skip hA rfl rfl rfl fun a hA => ?_
 refine seq_do (v := .bool true) hA rfl rfl rfl (does_pick rfl rfl rfl rfl) fun a hA => ?_
 refine seq_end ?_
 refine hK9 _ _ ?_
 refine wp_cond_true (hA.ev rfl) ?_
 refine wp_seq_k (fun K12 hK12 => ?_)
 refine wp_region_lit ?_
 refine seq_do (v := .agg #[.bool false, .slice none 0 0, .slice none 0 0, .bool false, .slice none 0 0, .slice none 0 0]) hA rfl rfl rfl (does_build rfl (fun w => by kernel_rfl)) fun a hA => ?_
 refine seq_store (us := [.bool false, .slice none 0 0, .slice none 0 0, .bool false, .slice none 0 0, .slice none 0 0]) hA hS rfl rfl (sets_store rfl rfl rfl (by kernel_rfl) hS 1 rfl rfl rfl) 1 rfl rfl rfl rfl ?_
 intro w13 hS
 refine seq_do hA rfl rfl rfl (does_assign rfl) fun a hA => ?_
 refine seq_end ?_
 refine hK12 _ _ ?_
 refine wp_ret ?_
 refine hret _ _ ?_
 refine ends (v := .tuple #[.agg #[.bool false, .slice none 0 0, .slice none 0 0, .bool false, .slice none 0 0, .slice none 0 0], .int .i64 1]) hA rfl (.cons (res_cell hS GvB_isS_27 rfl 1 rfl (cs := [.bool false, .slice none 0 0, .slice none 0 0, .bool false, .slice none 0 0, .slice none 0 0]) rfl rfl) (.cons (res_tmp rfl) .nil)) rfl ?_
 exact ⟨none, 0, none, 0, none, 0, none, 0, rfl, ⟨Sc.none _, Sc.none _, Sc.none _, Sc.none _⟩, hS.bel⟩
theorem get_no2 {w : World} {so : Option Addr} {ca : Nat} {l : List UInt8} (hb : G.Rb w so l) (hca : l.length ≤ ca) (hl : l.length ≤ 140737488351232) {ap size : Int} (hap0 : -9223372036854775808 ≤ ap) (hap1 : ap ≤ 9223372036854775807) (hsize0 : -9223372036854775808 ≤ size) (hsize1 : size ≤ 9223372036854775807) (bg sg : Bool) (h1 : G.okSize size = true) (h2 : G.inB l.length ap size = false) : Calls Tryz.prog 9 #[.slice so l.length ca, .int .i64 ap, .int .i64 size, .bool bg, .bool sg] w (AnsN w (Q6.zero, 1)) := by
 have hS : St w w [] [] [] := St.start w
 refine walk_of (l := [(0, .slice so l.length ca), (1, .int .i64 ap), (2, .int .i64 size), (3, .bool bg), (4, .bool sg)]) Tryz.func9 rfl Tryz.ntmps9 rfl rfl ?_
 intro Q hret hnorm hP a hA
 refine wp_seq_k (fun K1 hK1 => ?_)
 refine wp_region_lit ?_
 refine seq_new (vs := [.bool false, .slice none 0 0, .slice none 0 0, .bool false, .slice none 0 0, .slice none 0 0]) (t := 27) hA hS rfl rfl rfl (fun g => .pointer (some ⟨g, 0, none⟩)) (does_alloc (z := .agg #[.bool false, .slice none 0 0, .slice none 0 0, .bool false, .slice none 0 0, .slice none 0 0]) (by kernel_rfl) rfl) rfl ?_
 intro g2 w3 hS a hA
 refine seq_do hA rfl rfl rfl (does_assign rfl) fun a hA => ?_
 refine seq_end ?_
 refine hK1 _ _ ?_
 refine wp_seq_k (fun K4 hK4 => ?_)
 refine wp_region_lit ?_
 refine seq_do hA rfl rfl rfl (does_move rfl) fun a hA => ?_
 refine seq_do hA rfl rfl rfl (does_move rfl) fun a hA => ?_
 refine seq_do hA rfl rfl rfl (does_move rfl) fun a hA => ?_
 refine seq_do (v := .agg #[.int .i64 size, .bool bg, .bool sg]) hA rfl rfl rfl (does_build rfl (fun w => by kernel_rfl)) fun a hA => ?_
 refine seq_new (vs := [.int .i64 0, .bool false, .bool false]) (t := 43) hA hS rfl rfl rfl (fun g => .pointer (some ⟨g, 0, none⟩)) (does_alloc (z := .agg #[.int .i64 0, .bool false, .bool false]) (by kernel_rfl) rfl) rfl ?_
 intro g5 w6 hS a hA
 refine seq_store (us := [.int .i64 size, .bool bg, .bool sg]) hA hS rfl rfl (sets_store rfl rfl rfl (by kernel_rfl) hS 0 rfl rfl rfl) 0 rfl rfl rfl rfl ?_
 intro w7 hS
 refine seq_end ?_
 refine hK4 _ _ ?_
 refine wp_seq_k (fun K8 hK8 => ?_)
 refine wp_seq_k (fun K9 hK9 => ?_)
 refine wp_region_lit ?_
 refine seq_do hA rfl rfl rfl (does_loadS hS GvB_isS_43 rfl 0 rfl (cs := [.int .i64 size, .bool bg, .bool sg]) rfl rfl) fun a hA => ?_
 refine seq_call hA rfl rfl rfl (enters_func  rfl rfl (fun w => by kernel_rfl)) ((h1 ▸ G.allowed_any (size := size) (bg := bg) (sg := sg))) ?_
 rintro _ w11 ⟨rfl, hb10⟩
 replace hS := hS.call hb10
 refine ⟨_, rfl, ?_⟩
 intro a hA
 refine seq_do (v := .bool false) hA rfl rfl rfl (does_un rfl un_not) fun a hA => ?_
 refine seq_do hA rfl rfl rfl (does_move rfl) fun a hA => ?_
 refine seq_do hA rfl rfl rfl (does_move rfl) fun a hA => ?_
 refine seq_do hA rfl rfl rfl (does_move rfl) fun a hA => ?_
 refine seq_do hA rfl rfl rfl (does_move rfl) fun a hA => ?_
 refine seq_call hA rfl rfl rfl (enters_func  rfl rfl (fun w => by kernel_rfl)) (G.within_as hl (by omega) (by omega) (by omega) (by omega) h2) ?_
 rintro _ w13 ⟨rfl, hb12⟩
 replace hS := hS.call hb12
 refine ⟨_, rfl, ?_⟩
 intro a hA
 refine seq_do (v := .bool true) hA rfl rfl rfl (does_un rfl un_not) fun a hA => ?_
 refine seq_do (v := .bool true) hA rfl rfl rfl (does_pick rfl rfl rfl rfl) fun a hA => ?_
 refine seq_end ?_
 refine hK9 _ _ ?_
 refine wp_cond_true (hA.ev rfl) ?_
 refine wp_seq_k (fun K14 hK14 => ?_)
 refine wp_region_lit ?_
 refine seq_do (v := .agg #[.bool false, .slice none 0 0, .slice none 0 0, .bool false, .slice none 0 0, .slice none 0 0]) hA rfl rfl rfl (does_build rfl (fun w => by kernel_rfl)) fun a hA => ?_
 refine seq_store (us := [.bool false, .slice none 0 0, .slice none 0 0, .bool false, .slice none 0 0, .slice none 0 0]) hA hS rfl rfl (sets_store rfl rfl rfl (by kernel_rfl) hS 1 rfl rfl rfl) 1 rfl rfl rfl rfl ?_
 intro w15 hS
 refine seq_do hA rfl rfl rfl (does_assign rfl) fun a hA => ?_
 refine seq_end ?_
 refine hK14 _ _ ?_
 refine wp_ret ?_
 refine hret _ _ ?_
 refine ends (v := .tuple #[.agg #[.bool false, .slice none 0 0, .slice none 0 0, .bool false, .slice none 0 0, .slice none 0 0], .int .i64 1]) hA rfl (.cons (res_cell hS GvB_isS_27 rfl 1 rfl (cs := [.bool false, .slice none 0 0, .slice none 0 0, .bool false, .slice none 0 0, .slice none 0 0]) rfl rfl) (.cons (res_tmp rfl) .nil)) rfl ?_
 exact ⟨none, 0, none, 0, none, 0, none, 0, rfl, ⟨Sc.none _, Sc.none _, Sc.none _, Sc.none _⟩, hS.bel⟩
theorem get_ok {w : World} {so : Option Addr} {ca : Nat} {l : List UInt8} (hb : G.Rb w so l) (hca : l.length ≤ ca) (hl : l.length ≤ 140737488351232) {an nn : Nat} (hn1 : 1 ≤ nn) (hn64 : nn ≤ 64) (hle : an + nn ≤ l.length) (bg sg : Bool) : Calls Tryz.prog 9 #[.slice so l.length ca, .int .i64 ((an : Nat) : Int), .int .i64 ((nn : Nat) : Int), .bool bg, .bool sg] w (AnsN w (G.numQ bg sg ((l.drop an).take nn), 0)) := by
 have hpl : ((l.drop an).take nn).length = nn := by rw [List.length_take, List.length_drop]; omega
 have hk1 : G.okSize ((nn : Nat) : Int) = true := by unfold G.okSize; apply decide_eq_true; omega
 have hk2 : G.inB l.length ((an : Nat) : Int) ((nn : Nat) : Int) = true := by unfold G.inB; apply decide_eq_true; omega
 have hS : St w w [] [] [] := St.start w
 refine walk_of (l := [(0, .slice so l.length ca), (1, .int .i64 (((an : Nat) : Int))), (2, .int .i64 (((nn : Nat) : Int))), (3, .bool bg), (4, .bool sg)]) Tryz.func9 rfl Tryz.ntmps9 rfl rfl ?_
 intro Q hret hnorm hP a hA
 refine wp_seq_k (fun K1 hK1 => ?_)
 refine wp_region_lit ?_
 refine seq_new (vs := [.bool false, .slice none 0 0, .slice none 0 0, .bool false, .slice none 0 0, .slice none 0 0]) (t := 27) hA hS rfl rfl rfl (fun g => .pointer (some ⟨g, 0, none⟩)) (does_alloc (z := .agg #[.bool false, .slice none 0 0, .slice none 0 0, .bool false, .slice none 0 0, .slice none 0 0]) (by kernel_rfl) rfl) rfl ?_
 intro g2 w3 hS a hA
 refine seq_do hA rfl rfl rfl (does_assign rfl) fun a hA => ?_
 refine seq_end ?_
 refine hK1 _ _ ?_
 refine wp_seq_k (fun K4 hK4 => ?_)
 refine wp_region_lit ?_
 refine seq_do hA rfl rfl rfl (does_move rfl) fun a hA => ?_
 refine seq_do hA rfl rfl rfl (does_move rfl) fun a hA => ?_
 refine seq_do hA rfl rfl rfl (does_move rfl) fun a hA => ?_
 refine seq_do (v := .agg #[.int .i64 (((nn : Nat) : Int)), .bool bg, .bool sg]) hA rfl rfl rfl (does_build rfl (fun w => by kernel_rfl)) fun a hA => ?_
 refine seq_new (vs := [.int .i64 0, .bool false, .bool false]) (t := 43) hA hS rfl rfl rfl (fun g => .pointer (some ⟨g, 0, none⟩)) (does_alloc (z := .agg #[.int .i64 0, .bool false, .bool false]) (by kernel_rfl) rfl) rfl ?_
 intro g5 w6 hS a hA
 refine seq_store (us := [.int .i64 (((nn : Nat) : Int)), .bool bg, .bool sg]) hA hS rfl rfl (sets_store rfl rfl rfl (by kernel_rfl) hS 0 rfl rfl rfl) 0 rfl rfl rfl rfl ?_
 intro w7 hS
 refine seq_end ?_
 refine hK4 _ _ ?_
 refine wp_seq_k (fun K8 hK8 => ?_)
 refine wp_seq_k (fun K9 hK9 => ?_)
 refine wp_region_lit ?_
 refine seq_do hA rfl rfl rfl (does_loadS hS GvB_isS_43 rfl 0 rfl (cs := [.int .i64 (((nn : Nat) : Int)), .bool bg, .bool sg]) rfl rfl) fun a hA => ?_
 refine seq_call hA rfl rfl rfl (enters_func  rfl rfl (fun w => by kernel_rfl)) ((hk1 ▸ G.allowed_any (size := ((nn : Nat) : Int)) (bg := bg) (sg := sg))) ?_
 rintro _ w11 ⟨rfl, hb10⟩
 replace hS := hS.call hb10
 refine ⟨_, rfl, ?_⟩
 intro a hA
 refine seq_do (v := .bool false) hA rfl rfl rfl (does_un rfl un_not) fun a hA => ?_
 refine seq_do hA rfl rfl rfl (does_move rfl) fun a hA => ?_
 refine seq_do hA rfl rfl rfl (does_move rfl) fun a hA => ?_
 refine seq_do hA rfl rfl rfl (does_move rfl) fun a hA => ?_
 refine seq_do hA rfl rfl rfl (does_move rfl) fun a hA => ?_
 refine seq_call hA rfl rfl rfl (enters_func  rfl rfl (fun w => by kernel_rfl)) (G.within_as hl (by omega) (by omega) (by omega) (by omega) hk2) ?_
 rintro _ w13 ⟨rfl, hb12⟩
 replace hS := hS.call hb12
 refine ⟨_, rfl, ?_⟩
 intro a hA
 refine seq_do (v := .bool false) hA rfl rfl rfl (does_un rfl un_not) fun a hA => ?_
 refine seq_do (v := .bool false) hA rfl rfl rfl (does_pick rfl rfl rfl rfl) fun a hA => ?_
 refine seq_end ?_
 refine hK9 _ _ ?_
 refine wp_cond_false (hA.ev rfl) ?_
 refine wp_skip ?_
 refine hK8 _ _ ?_
 refine wp_seq_k (fun K14 hK14 => ?_)
 refine wp_draw (S := fun w1 => St w w1 [(g5, [.int .i64 (((nn : Nat) : Int)), .bool bg, .bool sg])] [] []) (by kernel_rfl) ?_
 replace hS := hS.drew
 refine any_tk hA 0 rfl rfl rfl rfl hP (hS.partD (.cons_cons _ (.cons _ .slnil)) 0 rfl (.refl _)) (fun w1 hS => does_loadS hS GvB_isS_43 rfl 0 rfl (cs := [.int .i64 (((nn : Nat) : Int)), .bool bg, .bool sg]) rfl rfl) fun a hA => ?_
 refine any_tk hA 1 rfl rfl rfl rfl hP (hS.partD (.cons_cons _ (.cons _ .slnil)) 0 rfl (.refl _)) (fun w1 hS => does_move rfl) fun a hA => ?_
 refine any_tk hA 2 rfl rfl rfl rfl hP (hS.partD (.cons_cons _ (.cons _ .slnil)) 0 rfl (.refl _)) (fun w1 hS => does_move rfl) fun a hA => ?_
 refine any_tk hA 3 rfl rfl rfl rfl hP (hS.partD (.cons_cons _ (.cons _ .slnil)) 0 rfl (.refl _)) (fun w1 hS => does_move rfl) fun a hA => ?_
 refine any_tk hA 4 rfl rfl rfl rfl hP (hS.partD (.cons_cons _ (.cons _ .slnil)) 0 rfl (.refl _)) (fun w1 hS => does_move rfl) fun a hA => ?_
 refine any_tk (v := .int .i64 (((an + nn : Nat) : Int))) hA 5 rfl rfl rfl rfl hP (hS.partD (.cons_cons _ (.cons _ .slnil)) 0 rfl (.refl _)) (fun w1 hS => does_bin rfl rfl (fun w => (bin_add (i64In (by omega) (by omega)) w).trans (by rw [show (((an : Nat) : Int) + ((nn : Nat) : Int) : Int) = ((an + nn : Nat) : Int) from by omega]))) fun a hA => ?_
 refine any_tk (v := .slice ((G.dropA so ca an)) nn ((ca - an))) hA 6 rfl rfl rfl rfl hP (hS.partD (.cons_cons _ (.cons _ .slnil)) 0 rfl (.refl _)) (fun w1 hS => does_lhB (lo := an) (hi := an + nn) Tryz.underlying22 (by kernel_rfl) rfl rfl rfl (by first | rfl | omega) (by first | rfl | omega) (by omega) (by omega) (by omega)) fun a hA => ?_
 refine any_one (by kernel_rfl) (op_call hA 7 rfl rfl rfl rfl (enters_func  rfl rfl (fun w => by kernel_rfl)) ((by have h9 := G.number_any (w := w13.drew) (p := ((l.drop an).take nn)) (((hb.drop ca an hca).takeZ nn).below hS.bel) (cp := ca - an) (by omega) (by omega) bg sg; rw [hpl] at h9; exact h9)) ?_)
 rintro _ w18 ⟨p15_1, p15_c1, p15_2, p15_c2, p15_3, p15_c3, p15_4, p15_c4, rfl, hn16, hb17⟩
 replace hS := hS.call hb17
 replace hS := hS.addR hn16.s1.rd
 replace hS := hS.addR hn16.s2.rd
 replace hS := hS.addR hn16.s3.rd
 replace hS := hS.addR hn16.s4.rd
 refine ⟨_, rfl, (hS.partD (.cons_cons _ (.cons _ .slnil)) 4 rfl (.refl _)), ?_⟩
 intro a hA
 refine any_one (by kernel_rfl) (op_store (us := [.bool ((G.numQ bg sg ((l.drop an).take nn)).b1), .slice p15_1 (((G.numQ bg sg ((l.drop an).take nn)).t1).length) p15_c1, .slice p15_2 (((G.numQ bg sg ((l.drop an).take nn)).q1).length) p15_c2, .bool ((G.numQ bg sg ((l.drop an).take nn)).b2), .slice p15_3 (((G.numQ bg sg ((l.drop an).take nn)).t2).length) p15_c3, .slice p15_4 (((G.numQ bg sg ((l.drop an).take nn)).q2).length) p15_c4]) hA hS 8 rfl rfl rfl (sets_store rfl rfl rfl (by kernel_rfl) hS 1 rfl rfl rfl) 1 rfl rfl rfl rfl ?_)
 intro w19 hS
 refine ⟨(hS.partD (.cons_cons _ (.cons _ .slnil)) 4 rfl (.refl _)), ?_⟩
 refine any_tk hA 9 rfl rfl rfl rfl hP (hS.partD (.cons_cons _ (.cons _ .slnil)) 4 rfl (.refl _)) (fun w1 hS => does_assign rfl) fun a hA => ?_
 refine any_end (by kernel_rfl) ?_
 refine hK14 _ _ ?_
 refine wp_ret ?_
 refine hret _ _ ?_
 refine ends (v := .tuple #[.agg #[.bool ((G.numQ bg sg ((l.drop an).take nn)).b1), .slice p15_1 (((G.numQ bg sg ((l.drop an).take nn)).t1).length) p15_c1, .slice p15_2 (((G.numQ bg sg ((l.drop an).take nn)).q1).length) p15_c2, .bool ((G.numQ bg sg ((l.drop an).take nn)).b2), .slice p15_3 (((G.numQ bg sg ((l.drop an).take nn)).t2).length) p15_c3, .slice p15_4 (((G.numQ bg sg ((l.drop an).take nn)).q2).length) p15_c4], .int .i64 0]) hA rfl (.cons (res_cell hS GvB_isS_27 rfl 1 rfl (cs := [.bool ((G.numQ bg sg ((l.drop an).take nn)).b1), .slice p15_1 (((G.numQ bg sg ((l.drop an).take nn)).t1).length) p15_c1, .slice p15_2 (((G.numQ bg sg ((l.drop an).take nn)).q1).length) p15_c2, .bool ((G.numQ bg sg ((l.drop an).take nn)).b2), .slice p15_3 (((G.numQ bg sg ((l.drop an).take nn)).t2).length) p15_c3, .slice p15_4 (((G.numQ bg sg ((l.drop an).take nn)).q2).length) p15_c4]) rfl rfl) (.cons (res_tmp rfl) .nil)) rfl ?_
 exact ⟨p15_1, p15_c1, p15_2, p15_c2, p15_3, p15_c3, p15_4, p15_c4, rfl, ⟨⟨(hS.rd 3 rfl), hn16.s1.nil, hn16.s1.cap⟩, ⟨(hS.rd 2 rfl), hn16.s2.nil, hn16.s2.cap⟩, ⟨(hS.rd 1 rfl), hn16.s3.nil, hn16.s3.cap⟩, ⟨(hS.rd 0 rfl), hn16.s4.nil, hn16.s4.cap⟩⟩, hS.bel⟩
theorem getP_any {w : World} {so : Option Addr} {ca : Nat} {l : List UInt8} (hb : G.Rb w so l) (hca : l.length ≤ ca) (hl : l.length ≤ 140737488351232) {ap size : Int} (hap0 : -9223372036854775808 ≤ ap) (hap1 : ap ≤ 9223372036854775807) (hsize0 : -9223372036854775808 ≤ size) (hsize1 : size ≤ 9223372036854775807) (bg sg : Bool) : Calls Tryz.prog 9 #[.slice so l.length ca, .int .i64 ap, .int .i64 size, .bool bg, .bool sg] w (AnsN w (getQ l ap size bg sg)) := by
 unfold getQ okG
 cases h1 : G.okSize size with
 | false => simp only [Bool.false_and, Bool.false_eq_true, if_false]; exact get_no1 hb hca hl hap0 hap1 hsize0 hsize1 bg sg h1
 | true =>
  cases h2 : G.inB l.length ap size with
  | false => simp only [Bool.and_false, Bool.false_eq_true, if_false]; exact get_no2 hb hca hl hap0 hap1 hsize0 hsize1 bg sg h1 h2
  | true =>
   simp only [Bool.and_true, if_true]
   have k1 : 1 ≤ size ∧ size ≤ 64 := of_decide_eq_true h1
   have k2 : 0 ≤ ap ∧ 0 ≤ size ∧ ap ≤ (l.length : Int) - size := of_decide_eq_true h2
   obtain ⟨an, rfl⟩ := Int.eq_ofNat_of_zero_le k2.1
   obtain ⟨nn, rfl⟩ := Int.eq_ofNat_of_zero_le k2.2.1
   rw [Int.toNat_natCast, Int.toNat_natCast]
   exact get_ok hb hca hl (by omega) (by omega) (by omega) bg sg
end Go.Proofs.YtbajcflbimmnhaaGreatDoor
namespace Go.Proofs.YtbajcflbimmnhaaGreatDoor
open Go.RowKit
set_option linter.unusedVariables false
set_option linter.unusedSimpArgs false
set_option maxRecDepth 100000
end Go.Proofs.YtbajcflbimmnhaaGreatDoor
namespace Go.Proofs.YtbajcflbimmnhaaGreatDoor
open Go.RowKit
set_option linter.unusedVariables false
set_option linter.unusedSimpArgs false

theorem look_G (l : List (Nat × Value)) (k : Nat) : G.look l k = look l k := by
  induction l with
  | nil => rfl
  | cons p t ih => show cond _ _ (G.look t k) = cond _ _ (look t k); rw [ih]
theorem toG {a : Act} {n : Nat} {l : List (Nat × Value)} (h : Sl a n l) : G.Sl a n l := ⟨h.size, fun k v hk => h.holds k v (by rw [← look_G]; exact hk), h.none_⟩
theorem ofG {a : Act} {n : Nat} {l : List (Nat × Value)} (h : G.Sl a n l) : Sl a n l := ⟨h.size, fun k v hk => h.holds k v (by rw [look_G]; exact hk), h.none_⟩
theorem St.bare {w0 w : World} (h : Below w0.heap.size w0 w) : St w0 w [] [] [] := ⟨h, by simp, by simp, by simp, by simp, by simp, by simp, by simp⟩
end Go.Proofs.YtbajcflbimmnhaaGreatDoor
namespace Go.Proofs.YtbajcflbimmnhaaGreatDoor.G
open Go.RowKit
set_option linter.unusedVariables false
set_option linter.unusedSimpArgs false

section
variable {P : Program} {w0 w : World} {L : List Ck} {l : List (Nat × Value)} {dst : Option Tmp} {ty : TypeId} {pos : String} {after : Array Edge} {guard : Option (Nat × Bool)} {v : Value}
theorem m_loadW {b o : Nat} (hc : w.cell? ⟨b, o, none⟩ = some v) {t : TypeId} (ht : Is1 P t) {x : Operand} (hx : ev l x = some (.pointer (some ⟨b, o, none⟩))) : Does P l ⟨dst, .load t x, ty, pos, after, guard⟩ w v w := does_load hx (run_load1 ht hc)
variable {ops : List Oper} {Q : Exit → Act → World → Prop} {a : Act} {n : Nat} {o : Oper} {rest : List Oper} {d : Nat}
theorem s_makeN (hA : Sl a n l) (hM : Mg w0 w L) {t e ty : TypeId} {z : Value} {sz by_ : Nat} {dst : Option Tmp} {pos : String} {after : Array Edge} {guard : Option (Nat × Bool)} (ht : P.underlying t = some (.slice e)) (hinfo : (P.info? e).map (fun i => (i.zero, i.size, i.bytes)) = some (some z, sz, by_)) {x y : Operand} {m : Nat} (hx : ev l x = some (.int .i64 ((m : Nat) : Int))) (hy : ev l y = some (.int .i64 ((m : Nat) : Int))) (ho : o = ⟨dst, .makeSlice t x y, ty, pos, after, guard⟩) (hg : passes l ops o = true) (hdst : o.dst = some d) (hd : Nat.blt d n = true) (hb : by_ * m ≤ 281474976710656) (h63 : m ≤ 9223372036854775807) (hnb : e ≠ BY ∨ noBld L)
    (hk : ∀ g w', Mg w0 w' (.row e sz (.slice (some ⟨g, 0, none⟩) m m) m (madeCells z.cells (m * sz)).toList :: L) → Carry w w' → ∀ a', Sl a' n ((d, .slice (some ⟨g, 0, none⟩) m m) :: l) → wpList P ops.toArray Q rest a' w') : wpList P ops.toArray Q (o :: rest) a w := by
  subst ho
  obtain ⟨i, hi, hzz⟩ := Option.map_eq_some_iff.1 hinfo
  simp only [Prod.mk.injEq] at hzz
  obtain ⟨hz, hs, hbb⟩ := hzz
  obtain ⟨w', hr, hown, hgr⟩ := run_make_full (P := P) (w := w) w0.heap.size t e i z sz ht hi hz hs .i64 .i64 m (by rw [hbb]; exact hb) (by unfold maxLen; omega) hM.bel.size
  have hbel : Below w.heap.size w w' := ⟨hgr.os, hgr.tape, hgr.output, hgr.size, fun k hk => hgr.block k hk (by simp)⟩
  refine seq_do hA hg hdst hd (v := .slice (some ⟨w.heap.size, 0, none⟩) m m) (w' := w') (fun ρ h => ?_) (hk w.heap.size w' (hM.add hbel hown (fun k e => by simp [Ck.at_, Value.ownBlock] at e; omega) (.inr (.inl ⟨_, _, _, _, _, rfl, hnb⟩))) (fun _ _ r => r.below hbel))
  simp only [execOp, h x _ hx, h y _ hy, Sem.run_bind, hr, Result.andThen_ok, Sem.run_pure]
theorem s_storeEN (hA : Sl a n l) (hM : Mg w0 w L) (hg : passes l ops o = true) (hdst : o.dst = none) {g q : Nat} {c u : Value} {e : TypeId} {sz m cap : Nat} {xs : List Value} (he : Sets P l o w (w.setCells g q [c])) (k : Nat) (hk0 : L[k]? = some (.row e sz (.slice (some ⟨g, 0, none⟩) m cap) m xs)) (hu : xs[q]? = some u) (hn : noWd u = true) {L' : List Ck} (hL : L.set k (.row e sz (.slice (some ⟨g, 0, none⟩) m cap) m (over xs q [c])) = L')
    (hk : ∀ w', Mg w0 w' L' → Carry w w' → wpList P ops.toArray Q rest a w') : wpList P ops.toArray Q (o :: rest) a w :=
  seq_set hA hg hdst he (hk _ (by subst hL; exact Mg.rowPuts [c] w L xs q hM k hk0) (fun so ls r => Rd.setNo r (row_cellsZ hM k hk0 q u hu) (noWd_ne hn) c))
end
theorem min_nat {P : Program} {ts : Array TypeId} {ty : TypeId} {m k : Nat} : ∀ w cs, (builtin .min ts ty cs #[.int .i64 ((m : Nat) : Int), .int .i64 ((k : Nat) : Int)]).run P w = .ok (.value (.int .i64 ((min m k : Nat) : Int))) w := fun w cs => by
  have e : (if ((k : Nat) : Int) < ((m : Nat) : Int) then ((k : Nat) : Int) else ((m : Nat) : Int)) = ((min m k : Nat) : Int) := by split <;> omega
  simp only [BigFrame.builtin_min, Sem.run_bind, run_min_int2, Result.andThen_ok, Sem.run_pure, e]
def leB (n F : Nat) : List UInt8 := (List.range n).map fun i => UInt8.ofNat (F / 256 ^ i % 256)
def lbI (n F i : Nat) : List UInt8 := (List.range n).map fun j => if j < i then UInt8.ofNat (F / 256 ^ j % 256) else 0
theorem leB_len (n F : Nat) : (leB n F).length = n := by simp [leB]
theorem lbI_len (n F i : Nat) : (lbI n F i).length = n := by simp [lbI]
theorem lbI_get {n F i j : Nat} (h : j < n) : (lbI n F i).getD j 0 = if j < i then UInt8.ofNat (F / 256 ^ j % 256) else 0 := by
  unfold lbI
  rw [List.getD_eq_getElem?_getD, List.getElem?_map, List.getElem?_range h]
  rfl
theorem ofN_toNat (x : Nat) : (UInt8.ofNat (x % 256)).toNat = x % 256 := by rw [UInt8.toNat_ofNat']; omega
theorem lbI_made (n F : Nat) : (madeCells (Value.int .u8 0).cells (n * 1)).toList = Lib.byteCells (lbI n F 0) := by
  unfold madeCells Lib.byteCells lbI
  rw [Array.toList_map, Array.toList_range, Nat.mul_one, List.map_map]
  refine List.map_congr_left fun k _ => ?_
  show (Value.int .u8 0).cells[k % 1]! = _
  rw [Nat.mod_one]
  simp
  rfl
theorem lbI_step {n F i : Nat} (h : i < n) : over (Lib.byteCells (lbI n F i)) (i * 1) [.int .u8 ((F / 256 ^ i % 256 : Nat) : Int)] = Lib.byteCells (lbI n F (i + 1)) := by
  rw [Nat.mul_one]
  show (Lib.byteCells (lbI n F i)).set i _ = _
  refine List.ext_getElem? fun k => ?_
  have hl : (Lib.byteCells (lbI n F i)).length = n := by rw [Lib.byteCells_length, lbI_len]
  by_cases hk : k < n
  · by_cases e : k = i
    · subst e
      rw [List.getElem?_set_self (by omega)]
      have h2 := cells_get (l := lbI n F (k + 1)) (i := k) (by rw [lbI_len]; exact hk)
      rw [Nat.mul_one, lbI_get hk, if_pos (by omega), ofN_toNat] at h2
      exact h2.symm
    · rw [List.getElem?_set_ne (fun q => e q.symm)]
      have h1 := cells_get (l := lbI n F i) (i := k) (by rw [lbI_len]; exact hk)
      have h2 := cells_get (l := lbI n F (i + 1)) (i := k) (by rw [lbI_len]; exact hk)
      rw [Nat.mul_one, lbI_get hk] at h1 h2
      rw [h1, h2]
      by_cases q : k < i
      · rw [if_pos q, if_pos (by omega)]
      · rw [if_neg q, if_neg (by omega)]
  · rw [List.getElem?_eq_none (by simp; omega), List.getElem?_eq_none (by rw [Lib.byteCells_length, lbI_len]; omega)]
theorem lbI_done {n F i : Nat} (hi : i = min n ((words F).length * 4)) : lbI n F i = leB n F := by
  unfold lbI leB
  refine List.map_congr_left fun j hj => ?_
  have hj := List.mem_range.1 hj
  by_cases h : j < i
  · rw [if_pos h]
  · rw [if_neg h]
    have hge : (words F).length * 4 ≤ j := by omega
    have hF : F < 256 ^ j := by
      have h1 := words_length_iff.1 (Nat.le_refl (words F).length)
      refine Nat.lt_of_lt_of_le h1 ?_
      rw [pw_two, show (256 : Nat) = 2 ^ 8 from rfl, ← Nat.pow_mul]
      exact Nat.pow_le_pow_right (by decide) (by omega)
    rw [Nat.div_eq_of_lt hF]
    rfl
theorem leN_leB : ∀ (n F : Nat), F < 256 ^ n → leN (leB n F) = F
  | 0, F, h => by simp at h; subst h; rfl
  | n + 1, F, h => by
    have h1 : F / 256 < 256 ^ n := by rw [Nat.pow_succ] at h; exact Nat.div_lt_of_lt_mul (by rw [Nat.mul_comm]; exact h)
    have ih := leN_leB n (F / 256) h1
    have e : leB (n + 1) F = UInt8.ofNat (F % 256) :: leB n (F / 256) := by
      unfold leB
      rw [List.range_succ_eq_map, List.map_cons, List.map_map]
      congr 1
      · rw [Nat.pow_zero, Nat.div_one]
      · refine List.map_congr_left fun j _ => ?_
        show UInt8.ofNat (F / 256 ^ (j + 1) % 256) = UInt8.ofNat (F / 256 / 256 ^ j % 256)
        rw [Nat.div_div_eq_div_mul, Nat.pow_succ, Nat.mul_comm 256]
    rw [e, leN, ih, ofN_toNat]
    omega
theorem wd_byte (F i : Nat) : (words F).getD (i / 4) 0 / 2 ^ (i % 4 * 8) % 256 = F / 256 ^ i % 256 := by
  rw [words_getD, pw_two]
  have hr : i % 4 < 4 := Nat.mod_lt _ (by decide)
  have e1 : (4294967296 : Nat) = 2 ^ (i % 4 * 8) * 2 ^ (32 - i % 4 * 8) := by
    rw [← Nat.pow_add, show i % 4 * 8 + (32 - i % 4 * 8) = 32 from by omega]
  rw [e1, Nat.mod_mul_right_div_self, Nat.div_div_eq_div_mul, ← Nat.pow_add]
  have e2 : 32 * (i / 4) + i % 4 * 8 = 8 * i := by omega
  rw [e2, Nat.pow_mul, Nat.mod_mod_of_dvd]
  have e3 : (2 : Nat) ^ (32 - i % 4 * 8) = 2 ^ 8 * 2 ^ (24 - i % 4 * 8) := by rw [← Nat.pow_add]; congr 1; omega
  rw [e3]
  exact Nat.dvd_mul_right _ _
theorem low_low (bg : Bool) (p : List UInt8) : lowB bg (lowB bg p) = p := by unfold lowB; cases bg <;> simp
end Go.Proofs.YtbajcflbimmnhaaGreatDoor.G
namespace Go.Proofs.YtbajcflbimmnhaaGreatDoor.G
open Go.RowKit
set_option linter.unusedVariables false
set_option linter.unusedSimpArgs false
set_option maxRecDepth 100000
theorem ByP_is1_23 : Is1 Tryz.prog 23 := ⟨⟨_, Tryz.underlying23, rfl⟩, by kernel_rfl⟩
theorem ByP_is1_3 : Is1 Tryz.prog 3 := ⟨⟨_, Tryz.underlying3, rfl⟩, by kernel_rfl⟩
theorem ByP_is1_4 : Is1 Tryz.prog 4 := ⟨⟨_, Tryz.underlying4, rfl⟩, by kernel_rfl⟩
theorem ByP_is1_57 : Is1 Tryz.prog 57 := ⟨⟨_, Tryz.underlying57, rfl⟩, by kernel_rfl⟩
theorem ByP_fld_25_0 : FieldAt Tryz.prog 25 0 0 := ⟨_, _, Tryz.underlying25, rfl, rfl, by kernel_rfl⟩
theorem ByP_fld_25_1 : FieldAt Tryz.prog 25 1 1 := ⟨_, _, Tryz.underlying25, rfl, rfl, by kernel_rfl⟩
theorem ByP_fld_27_0 : FieldAt Tryz.prog 27 0 0 := ⟨_, _, Tryz.underlying27, rfl, rfl, by kernel_rfl⟩
theorem ByP_fld_43_0 : FieldAt Tryz.prog 43 0 0 := ⟨_, _, Tryz.underlying43, rfl, rfl, by kernel_rfl⟩
theorem ByP_fld_43_2 : FieldAt Tryz.prog 43 2 2 := ⟨_, _, Tryz.underlying43, rfl, rfl, by kernel_rfl⟩
theorem ByP_isS_27 : IsS Tryz.prog 27 6 := ⟨⟨_, Tryz.underlying27⟩, by kernel_rfl⟩
theorem ByP_isS_43 : IsS Tryz.prog 43 3 := ⟨⟨_, Tryz.underlying43⟩, by kernel_rfl⟩
theorem room_true {w : World} {n : Nat} {bg : Bool} (h1 : 1 ≤ n) (h64 : n ≤ 64) : Calls Tryz.prog 29 #[.agg #[.int .i64 ((n : Nat) : Int), .bool bg, .bool true]] w fun e w' => e = .returned (.int .i64 ((n * 8 - 1 : Nat) : Int)) ∧ Below w.heap.size w w' := by
 have hM : Mg w w ([]) := Mg.start w
 refine walk_of (l := [(0, .agg #[.int .i64 (((n : Nat) : Int)), .bool bg, .bool true])]) Tryz.func29 rfl Tryz.ntmps29 rfl rfl ?_
 intro Q hret hnorm hP a hA
 refine wp_seq_k (fun K1 hK1 => ?_)
 refine wp_region_lit ?_
 refine s_new (vs := [.int .i64 (((n : Nat) : Int)), .bool bg, .bool true]) (t := 43) hA hM rfl rfl rfl (fun g => .pointer (some ⟨g, 0, none⟩)) (does_box rfl rfl) (by decide) ?_
 intro g2 w3 hM a hA
 refine seq_do hA rfl rfl rfl (does_assign rfl) fun a hA => ?_
 refine seq_end ?_
 refine hK1 _ _ ?_
 refine wp_seq_k (fun K4 hK4 => ?_)
 refine wp_seq_k (fun K5 hK5 => ?_)
 refine wp_region_lit ?_
 refine seq_do (v := .pointer (some ⟨g2, 2, none⟩)) hA rfl rfl rfl (does_field ByP_fld_43_2 rfl rfl) fun a hA => ?_
 refine seq_do hA rfl rfl rfl (m_load1 hM ByP_is1_4 rfl 0 rfl rfl) fun a hA => ?_
 refine seq_end ?_
 refine hK5 _ _ ?_
 refine wp_cond_true (hA.ev rfl) ?_
 refine wp_seq_k (fun K6 hK6 => ?_)
 refine wp_region_lit ?_
 refine seq_do (v := .pointer (some ⟨g2, 0, none⟩)) hA rfl rfl rfl (does_field ByP_fld_43_0 rfl rfl) fun a hA => ?_
 refine seq_do hA rfl rfl rfl (m_load1 hM ByP_is1_3 rfl 0 rfl rfl) fun a hA => ?_
 refine seq_do (v := .int .i64 (((n * 8 : Nat) : Int))) hA rfl rfl rfl (does_bin rfl rfl (ar_mul ((in_i64 (by omega) (by omega)).trans (by omega)))) fun a hA => ?_
 refine seq_do (v := .int .i64 (((n * 8 - 1 : Nat) : Int))) hA rfl rfl rfl (does_bin rfl rfl (ar_sub ((in_i64 (by omega) (by omega)).trans (by omega)))) fun a hA => ?_
 refine seq_do hA rfl rfl rfl (does_assign rfl) fun a hA => ?_
 refine seq_end ?_
 refine hK6 _ _ ?_
 refine wp_ret ?_
 refine hret _ _ ?_
 refine ends (v := .int .i64 (((n * 8 - 1 : Nat) : Int))) hA rfl (.cons (res_tmp rfl) .nil) rfl ?_
 exact ⟨rfl, hM.bel⟩
theorem room_false {w : World} {n : Nat} {bg : Bool} (h1 : 1 ≤ n) (h64 : n ≤ 64) : Calls Tryz.prog 29 #[.agg #[.int .i64 ((n : Nat) : Int), .bool bg, .bool false]] w fun e w' => e = .returned (.int .i64 ((n * 8 : Nat) : Int)) ∧ Below w.heap.size w w' := by
 have hM : Mg w w ([]) := Mg.start w
 refine walk_of (l := [(0, .agg #[.int .i64 (((n : Nat) : Int)), .bool bg, .bool false])]) Tryz.func29 rfl Tryz.ntmps29 rfl rfl ?_
 intro Q hret hnorm hP a hA
 refine wp_seq_k (fun K1 hK1 => ?_)
 refine wp_region_lit ?_
 refine s_new (vs := [.int .i64 (((n : Nat) : Int)), .bool bg, .bool false]) (t := 43) hA hM rfl rfl rfl (fun g => .pointer (some ⟨g, 0, none⟩)) (does_box rfl rfl) (by decide) ?_
 intro g2 w3 hM a hA
 refine seq_do hA rfl rfl rfl (does_assign rfl) fun a hA => ?_
 refine seq_end ?_
 refine hK1 _ _ ?_
 refine wp_seq_k (fun K4 hK4 => ?_)
 refine wp_seq_k (fun K5 hK5 => ?_)
 refine wp_region_lit ?_
 refine seq_do (v := .pointer (some ⟨g2, 2, none⟩)) hA rfl rfl rfl (does_field ByP_fld_43_2 rfl rfl) fun a hA => ?_
 refine seq_do hA rfl rfl rfl (m_load1 hM ByP_is1_4 rfl 0 rfl rfl) fun a hA => ?_
 refine seq_end ?_
 refine hK5 _ _ ?_
 refine wp_cond_false (hA.ev rfl) ?_
 refine wp_skip ?_
 refine hK4 _ _ ?_
 refine wp_seq_k (fun K6 hK6 => ?_)
 refine wp_region_lit ?_
 refine seq_do (v := .pointer (some ⟨g2, 0, none⟩)) hA rfl rfl rfl (does_field ByP_fld_43_0 rfl rfl) fun a hA => ?_
 refine seq_do hA rfl rfl rfl (m_load1 hM ByP_is1_3 rfl 0 rfl rfl) fun a hA => ?_
 refine seq_do (v := .int .i64 (((n * 8 : Nat) : Int))) hA rfl rfl rfl (does_bin rfl rfl (ar_mul ((in_i64 (by omega) (by omega)).trans (by omega)))) fun a hA => ?_
 refine seq_do hA rfl rfl rfl (does_assign rfl) fun a hA => ?_
 refine seq_end ?_
 refine hK6 _ _ ?_
 refine wp_ret ?_
 refine hret _ _ ?_
 refine ends (v := .int .i64 (((n * 8 : Nat) : Int))) hA rfl (.cons (res_tmp rfl) .nil) rfl ?_
 exact ⟨rfl, hM.bel⟩
theorem nm_below {w w' : World} {q : Q6} {o1 o2 o3 o4 : Option Addr} {c1 c2 c3 c4 : Nat} (h : Nm w q o1 c1 o2 c2 o3 c3 o4 c4) (hb : Below w.heap.size w w') : Nm w' q o1 c1 o2 c2 o3 c3 o4 c4 := nm_carry h (fun _ _ r => r.below hb)
theorem want_ok {b : Bool} {x : Nat} (hx : (words x).length ≤ 512) (hb : b.toNat ≤ x) : want1 (Q6.whole b x) = 0 := by
 unfold want1 wholeQ
 rw [soundQ_whole hx hb]
 simp [Q6.whole]
theorem wrap8 (z : Nat) : IntKind.u8.wrap ((z : Nat) : Int) = ((z % 256 : Nat) : Int) := by
 have e : IntKind.u8.wrap ((z : Nat) : Int) = ((z : Nat) : Int) % 256 := by
  unfold IntKind.wrap
  show (if (false : Bool) = true then _ else _) = _
  rfl
 rw [e]
 omega
theorem reordered_any (bg : Bool) {w : World} {sp : Option Addr} {cp : Nat} {p : List UInt8} {sg : Bool} (hp : Rb w sp p) (hl : p.length ≤ 140737488351232) : Calls Tryz.prog 31 #[.agg #[.int .i64 ((p.length : Nat) : Int), .bool bg, .bool sg], .slice sp p.length cp] w fun e w' => ∃ g, e = .returned (.slice (some ⟨g, 0, none⟩) p.length p.length) ∧ Mg w w' [.row BY 1 (.slice (some ⟨g, 0, none⟩) p.length p.length) p.length (Lib.byteCells (lowB bg p))] := by
 cases bg
 ·
  exact reordered_false hp hl
 ·
  exact reordered_true hp hl
theorem laid_bg_true {w : World} {b : Bool} {x n : Nat} {o1 o2 o3 o4 : Option Addr} {c1 c2 c3 c4 : Nat} (ha : Nm w (Q6.whole b x) o1 c1 o2 c2 o3 c3 o4 c4) (hx : (words x).length ≤ 512) (hbx : b.toNat ≤ x) (h1 : 1 ≤ n) (h64 : n ≤ 64) (bg : Bool) {F ln : Nat} (hF : fld b (x - b.toNat) 0 (n * 8) = F) (hln : bl (x - b.toNat) = ln) (hroom : ln ≤ n * 8 - 1)  : Calls Tryz.prog 18 #[.agg #[.int .i64 ((n : Nat) : Int), .bool bg, .bool true], numV (Q6.whole b x) o1 c1 o2 c2 o3 c3 o4 c4] w fun e w' => ∃ g, e = .returned (.tuple #[.slice (some ⟨g, 0, none⟩) n n, .int .i64 0]) ∧ Mg w w' [.row BY 1 (.slice (some ⟨g, 0, none⟩) n n) n (Lib.byteCells (lowB bg (leB n F)))] := by
 have hw := want_ok hx hbx
 have hwl : (words F).length ≤ 512 := by rw [← hF]; exact fld_len (by omega)
 have hM : Mg w w ([]) := Mg.start w
 refine walk_of (l := [(0, .agg #[.int .i64 (((n : Nat) : Int)), .bool bg, .bool true]), (1, .agg #[.bool b, .slice o1 ((words x).length) c1, .slice o2 1 c2, .bool false, .slice o3 0 c3, .slice o4 1 c4])]) Tryz.func18 rfl Tryz.ntmps18 rfl rfl ?_
 intro Q hret hnorm hP a hA
 refine wp_seq_k (fun K1 hK1 => ?_)
 refine wp_region_lit ?_
 refine s_new (vs := [.int .i64 (((n : Nat) : Int)), .bool bg, .bool true]) (t := 43) hA hM rfl rfl rfl (fun g => .pointer (some ⟨g, 0, none⟩)) (does_box rfl rfl) (by decide) ?_
 intro g2 w3 hM a hA
 refine s_new (vs := [.bool b, .slice o1 ((words x).length) c1, .slice o2 1 c2, .bool false, .slice o3 0 c3, .slice o4 1 c4]) (t := 27) hA hM rfl rfl rfl (fun g => .pointer (some ⟨g, 0, none⟩)) (does_box rfl rfl) (by decide) ?_
 intro g4 w5 hM a hA
 refine seq_do hA rfl rfl rfl (does_assign rfl) fun a hA => ?_
 refine seq_do hA rfl rfl rfl (does_assign rfl) fun a hA => ?_
 refine seq_end ?_
 refine hK1 _ _ ?_
 refine wp_seq_k (fun K6 hK6 => ?_)
 refine wp_region_lit ?_
 refine seq_do hA rfl rfl rfl (m_loadS hM ByP_isS_27 rfl 0 rfl (cs := [.bool b, .slice o1 ((words x).length) c1, .slice o2 1 c2, .bool false, .slice o3 0 c3, .slice o4 1 c4]) rfl rfl) fun a hA => ?_
 refine seq_call hA rfl rfl rfl (enters_func rfl rfl (fun w => by kernel_rfl)) ((by have h9 := lengthPW_any (w := w5) (nm_below ha hM.bel) (lenQ_whole hx) hw hx hbx; rw [lengthQ_whole hw, hln] at h9; exact h9)) ?_
 rintro _ w8 ⟨rfl, hb7⟩
 replace hM := hM.call hb7
 refine ⟨_, rfl, ?_⟩
 intro a hA
 refine seq_do hA rfl rfl rfl (does_move rfl) fun a hA => ?_
 refine seq_do (v := .int .i64 (((ln : Nat) : Int))) hA rfl rfl rfl (does_extract (vs := [.int .i64 (((ln : Nat) : Int)), .int .i64 0]) rfl rfl) fun a hA => ?_
 refine seq_do (v := .int .i64 0) hA rfl rfl rfl (does_extract (vs := [.int .i64 (((ln : Nat) : Int)), .int .i64 0]) rfl rfl) fun a hA => ?_
 refine seq_do hA rfl rfl rfl (does_assign rfl) fun a hA => ?_
 refine seq_do hA rfl rfl rfl (does_assign rfl) fun a hA => ?_
 refine seq_end ?_
 refine hK6 _ _ ?_
 refine wp_seq_k (fun K9 hK9 => ?_)
 refine wp_seq_k (fun K10 hK10 => ?_)
 refine wp_region_lit ?_
 refine seq_do hA rfl rfl rfl (does_move rfl) fun a hA => ?_
 refine seq_do (v := .bool false) hA rfl rfl rfl (does_bin rfl rfl (fun w => by kernel_rfl)) fun a hA => ?_
 refine seq_end ?_
 refine hK10 _ _ ?_
 refine wp_cond_false (hA.ev rfl) ?_
 refine wp_skip ?_
 refine hK9 _ _ ?_
 refine wp_seq_k (fun K11 hK11 => ?_)
 refine wp_seq_k (fun K12 hK12 => ?_)
 refine wp_region_lit ?_
 refine seq_do (v := .pointer (some ⟨g4, 0, none⟩)) hA rfl rfl rfl (does_field ByP_fld_27_0 rfl rfl) fun a hA => ?_
 refine seq_do (v := .pointer (some ⟨g4, 0, none⟩)) hA rfl rfl rfl (does_field ByP_fld_25_0 rfl rfl) fun a hA => ?_
 refine seq_do hA rfl rfl rfl (m_load1 hM ByP_is1_4 rfl 0 rfl rfl) fun a hA => ?_
 refine seq_do hA rfl rfl rfl (does_move rfl) fun a hA => ?_
 rcases b with _ | _
 ·
  refine seq_skip hA rfl rfl rfl fun a hA => ?_
  refine seq_skip hA rfl rfl rfl fun a hA => ?_
  refine seq_skip hA rfl rfl rfl fun a hA => ?_
  refine seq_do (v := .bool false) hA rfl rfl rfl (does_pick rfl rfl rfl rfl) fun a hA => ?_
  refine seq_do hA rfl rfl rfl (does_move rfl) fun a hA => ?_
  refine seq_do hA rfl rfl rfl (does_move rfl) fun a hA => ?_
  refine seq_do hA rfl rfl rfl (m_loadS hM ByP_isS_43 rfl 1 rfl (cs := [.int .i64 (((n : Nat) : Int)), .bool bg, .bool true]) rfl rfl) fun a hA => ?_
  refine seq_call hA rfl rfl rfl (enters_func rfl rfl (fun w => by kernel_rfl)) (room_true h1 h64) ?_
  rintro _ w14 ⟨rfl, hb13⟩
  replace hM := hM.call hb13
  refine ⟨_, rfl, ?_⟩
  intro a hA
  refine seq_do (v := .bool false) hA rfl rfl rfl (does_bin rfl rfl (fun w => (bin_gtr w).trans (by rw [show (decide (((n * 8 - 1 : Nat) : Int) < ((ln : Nat) : Int))) = false from (decide_eq_false (by omega))]))) fun a hA => ?_
  refine seq_do (v := .bool false) hA rfl rfl rfl (does_pick rfl rfl rfl rfl) fun a hA => ?_
  refine seq_end ?_
  refine hK12 _ _ ?_
  refine wp_cond_false (hA.ev rfl) ?_
  refine wp_skip ?_
  refine hK11 _ _ ?_
  refine wp_seq_k (fun K15 hK15 => ?_)
  refine wp_region_lit ?_
  refine seq_do hA rfl rfl rfl (m_loadS hM ByP_isS_27 rfl 0 rfl (cs := [.bool false, .slice o1 ((words x).length) c1, .slice o2 1 c2, .bool false, .slice o3 0 c3, .slice o4 1 c4]) rfl rfl) fun a hA => ?_
  refine seq_do (v := .pointer (some ⟨g2, 0, none⟩)) hA rfl rfl rfl (does_field ByP_fld_43_0 rfl rfl) fun a hA => ?_
  refine seq_do hA rfl rfl rfl (m_load1 hM ByP_is1_3 rfl 1 rfl rfl) fun a hA => ?_
  refine seq_do (v := .int .i64 (((n * 8 : Nat) : Int))) hA rfl rfl rfl (does_bin rfl rfl (ar_mul ((in_i64 (by omega) (by omega)).trans (by omega)))) fun a hA => ?_
  refine seq_call hA rfl rfl rfl (enters_func rfl rfl (fun w => by kernel_rfl)) ((show Calls Tryz.prog 30 _ _ (AnsN _ (Q6.whole false F, 0)) from (by have h9 := fieldPW_any (w := w14) (S := 0) (E := n * 8) (nm_below ha hM.bel) (lenQ_whole hx) (by omega) (by omega) hw hx hbx; rw [fieldQ_ok hw (by omega) (by omega), Nat.sub_zero, hF] at h9; exact h9))) ?_
  rintro _ w19 ⟨o18_1, o18_c1, o18_2, o18_c2, o18_3, o18_c3, o18_4, o18_c4, rfl, hn16, hb17⟩
  replace hM := hM.call hb17
  refine ⟨_, rfl, ?_⟩
  intro a hA
  refine seq_do hA rfl rfl rfl (does_move rfl) fun a hA => ?_
  refine seq_do (v := .agg #[.bool false, .slice o18_1 ((words F).length) o18_c1, .slice o18_2 1 o18_c2, .bool false, .slice o18_3 0 o18_c3, .slice o18_4 1 o18_c4]) hA rfl rfl rfl (does_extract (vs := [.agg #[.bool false, .slice o18_1 ((words F).length) o18_c1, .slice o18_2 1 o18_c2, .bool false, .slice o18_3 0 o18_c3, .slice o18_4 1 o18_c4], .int .i64 0]) rfl rfl) fun a hA => ?_
  refine seq_do (v := .int .i64 0) hA rfl rfl rfl (does_extract (vs := [.agg #[.bool false, .slice o18_1 ((words F).length) o18_c1, .slice o18_2 1 o18_c2, .bool false, .slice o18_3 0 o18_c3, .slice o18_4 1 o18_c4], .int .i64 0]) rfl rfl) fun a hA => ?_
  refine s_newN (vs := [.bool false, .slice none 0 0, .slice none 0 0, .bool false, .slice none 0 0, .slice none 0 0]) (t := 27) hA hM rfl rfl rfl (fun g => .pointer (some ⟨g, 0, none⟩)) (does_alloc (z := .agg #[.bool false, .slice none 0 0, .slice none 0 0, .bool false, .slice none 0 0, .slice none 0 0]) (by kernel_rfl) rfl) (by decide) ?_
  intro g20 w21 hM hc22 a hA
  replace hn16 := nm_carry hn16 hc22
  refine s_storeN (us := [.bool false, .slice o18_1 ((words F).length) o18_c1, .slice o18_2 1 o18_c2, .bool false, .slice o18_3 0 o18_c3, .slice o18_4 1 o18_c4]) (L' := (.obj g20 (.cells #[.bool false, .slice o18_1 ((words F).length) o18_c1, .slice o18_2 1 o18_c2, .bool false, .slice o18_3 0 o18_c3, .slice o18_4 1 o18_c4] 27) :: .obj g4 (.cells #[.bool false, .slice o1 ((words x).length) c1, .slice o2 1 c2, .bool false, .slice o3 0 c3, .slice o4 1 c4] 27) :: .obj g2 (.cells #[.int .i64 (((n : Nat) : Int)), .bool bg, .bool true] 43) :: [])) hA hM rfl rfl (m_store rfl rfl rfl (by kernel_rfl) hM 0 rfl rfl rfl) 0 rfl rfl rfl rfl rfl rfl ?_
  intro w23 hM hc24
  replace hn16 := nm_carry hn16 hc24
  refine seq_do hA rfl rfl rfl (does_assign rfl) fun a hA => ?_
  refine seq_end ?_
  refine hK15 _ _ ?_
  refine wp_seq_k (fun K25 hK25 => ?_)
  refine wp_region_lit ?_
  refine seq_do (v := .pointer (some ⟨g2, 0, none⟩)) hA rfl rfl rfl (does_field ByP_fld_43_0 rfl rfl) fun a hA => ?_
  refine seq_do hA rfl rfl rfl (m_load1 hM ByP_is1_3 rfl 2 rfl rfl) fun a hA => ?_
  refine s_makeN (z := .int .u8 0) (sz := 1) (by_ := 1) (m := n) hA hM Tryz.underlying22 (by kernel_rfl) rfl rfl rfl rfl rfl rfl (by omega) (by omega) (.inr (noBld_cons (by simp) (noBld_cons (by simp) (noBld_cons (by simp) (noBld_quiet quietL_nil))))) ?_
  intro gx w26 hM hc27 a hA
  replace hn16 := nm_carry hn16 hc27
  rw [lbI_made n F] at hM
  refine seq_do hA rfl rfl rfl (does_assign rfl) fun a hA => ?_
  refine seq_end ?_
  refine hK25 _ _ ?_
  refine wp_seq_k (fun K28 hK28 => ?_)
  refine wp_seq_k (fun K29 hK29 => ?_)
  refine wp_region_lit ?_
  refine seq_do (v := .pointer (some ⟨g2, 0, none⟩)) hA rfl rfl rfl (does_field ByP_fld_43_0 rfl rfl) fun a hA => ?_
  refine seq_do hA rfl rfl rfl (m_load1 hM ByP_is1_3 rfl 3 rfl rfl) fun a hA => ?_
  refine seq_do (v := .pointer (some ⟨g20, 0, none⟩)) hA rfl rfl rfl (does_field ByP_fld_27_0 rfl rfl) fun a hA => ?_
  refine seq_do (v := .pointer (some ⟨g20, 1, none⟩)) hA rfl rfl rfl (does_field ByP_fld_25_1 rfl rfl) fun a hA => ?_
  refine seq_do hA rfl rfl rfl (m_load1 hM ByP_is1_23 rfl 1 rfl rfl) fun a hA => ?_
  refine seq_do (v := .int .i64 ((((words F).length : Nat) : Int))) hA rfl rfl rfl (does_len Tryz.underlying23 rfl) fun a hA => ?_
  refine seq_do (v := .int .i64 ((((words F).length * 4 : Nat) : Int))) hA rfl rfl rfl (does_bin rfl rfl (ar_mul ((in_i64 (by omega) (by omega)).trans (by omega)))) fun a hA => ?_
  refine seq_do (v := .int .i64 (((min n ((words F).length * 4) : Nat) : Int))) hA rfl rfl rfl (does_builtin rfl min_nat) fun a hA => ?_
  refine seq_do hA rfl rfl rfl (does_move rfl) fun a hA => ?_
  refine seq_end ?_
  refine hK29 _ _ ?_
  refine wp_block ?_
  refine wp_loop_n (fun m_ a w1 => ∃ (i : Nat), m_ = n - i ∧ (i ≤ min n ((words F).length * 4) ∧ Rd w1 o18_1 (words F)) ∧ Sl a 75 [(0, .agg #[.int .i64 (((n : Nat) : Int)), .bool bg, .bool true]), (1, .agg #[.bool false, .slice o1 ((words x).length) c1, .slice o2 1 c2, .bool false, .slice o3 0 c3, .slice o4 1 c4]), (2, .pointer (some ⟨g2, 0, none⟩)), (3, .pointer (some ⟨g4, 0, none⟩)), (4, .slice none 0 0), (5, .int .i64 0), (6, .int .i64 (((ln : Nat) : Int))), (7, .int .i64 0), (8, .pointer (some ⟨g20, 0, none⟩)), (9, .int .i64 0), (10, .slice (some ⟨gx, 0, none⟩) n n), (12, .tuple #[.int .i64 (((ln : Nat) : Int)), .int .i64 0]), (13, .agg #[.bool false, .slice o1 ((words x).length) c1, .slice o2 1 c2, .bool false, .slice o3 0 c3, .slice o4 1 c4]), (14, .tuple #[.int .i64 (((ln : Nat) : Int)), .int .i64 0]), (15, .int .i64 (((ln : Nat) : Int))), (16, .int .i64 0), (17, .int .i64 0), (18, .bool false), (20, .pointer (some ⟨g4, 0, none⟩)), (21, .pointer (some ⟨g4, 0, none⟩)), (22, .bool false), (23, .bool false), (27, .bool false), (28, .bool false), (29, .int .i64 (((ln : Nat) : Int))), (30, .agg #[.int .i64 (((n : Nat) : Int)), .bool bg, .bool true]), (31, .int .i64 (((n * 8 - 1 : Nat) : Int))), (32, .bool false), (33, .bool false), (34, .tuple #[.agg #[.bool false, .slice o18_1 ((words F).length) o18_c1, .slice o18_2 1 o18_c2, .bool false, .slice o18_3 0 o18_c3, .slice o18_4 1 o18_c4], .int .i64 0]), (35, .agg #[.bool false, .slice o1 ((words x).length) c1, .slice o2 1 c2, .bool false, .slice o3 0 c3, .slice o4 1 c4]), (36, .pointer (some ⟨g2, 0, none⟩)), (37, .int .i64 (((n : Nat) : Int))), (38, .int .i64 (((n * 8 : Nat) : Int))), (39, .tuple #[.agg #[.bool false, .slice o18_1 ((words F).length) o18_c1, .slice o18_2 1 o18_c2, .bool false, .slice o18_3 0 o18_c3, .slice o18_4 1 o18_c4], .int .i64 0]), (40, .agg #[.bool false, .slice o18_1 ((words F).length) o18_c1, .slice o18_2 1 o18_c2, .bool false, .slice o18_3 0 o18_c3, .slice o18_4 1 o18_c4]), (41, .int .i64 0), (42, .pointer (some ⟨g2, 0, none⟩)), (43, .int .i64 (((n : Nat) : Int))), (44, .slice (some ⟨gx, 0, none⟩) n n), (45, .pointer (some ⟨g2, 0, none⟩)), (46, .int .i64 (((n : Nat) : Int))), (47, .pointer (some ⟨g20, 0, none⟩)), (48, .pointer (some ⟨g20, 1, none⟩)), (49, .slice o18_1 ((words F).length) o18_c1), (50, .int .i64 ((((words F).length : Nat) : Int))), (51, .int .i64 ((((words F).length * 4 : Nat) : Int))), (52, .int .i64 (((min n ((words F).length * 4) : Nat) : Int))), (53, .int .i64 (((i : Nat) : Int)))] ∧ Mg w w1 (.row BY 1 (.slice (some ⟨gx, 0, none⟩) n n) n ((Lib.byteCells (lbI n F i))) :: .obj g20 (.cells #[.bool false, .slice o18_1 ((words F).length) o18_c1, .slice o18_2 1 o18_c2, .bool false, .slice o18_3 0 o18_c3, .slice o18_4 1 o18_c4] 27) :: .obj g4 (.cells #[.bool false, .slice o1 ((words x).length) c1, .slice o2 1 c2, .bool false, .slice o3 0 c3, .slice o4 1 c4] 27) :: .obj g2 (.cells #[.int .i64 (((n : Nat) : Int)), .bool bg, .bool true] 43) :: [])) _ ⟨0, rfl, ⟨Nat.zero_le _, hn16.s1.rd⟩, hA.keep _ ⟨rfl, rfl, rfl, rfl, rfl, rfl, rfl, rfl, rfl, rfl, rfl, rfl, rfl, rfl, rfl, rfl, rfl, rfl, rfl, rfl, rfl, rfl, rfl, rfl, rfl, rfl, rfl, rfl, rfl, rfl, rfl, rfl, rfl, rfl, rfl, rfl, rfl, rfl, rfl, rfl, rfl, rfl, rfl, rfl, rfl, rfl, rfl, rfl, rfl, trivial⟩, hM⟩ ?_
  clear hM hA
  rintro m_ a w30 ⟨i, rfl, hinv32, hA, hM⟩ K31 hK31
  obtain ⟨hi9, hrdF⟩ := hinv32
  refine wp_seq_k (fun K33 hK33 => ?_)
  refine wp_region_lit ?_
  rcases Bool.eq_false_or_eq_true (decide (((i : Nat) : Int) < ((min n ((words F).length * 4) : Nat) : Int))) with hb34 | hb34
  ·
   have hb34' := of_decide_eq_true hb34
   refine seq_do (v := .bool true) hA rfl rfl rfl (does_bin rfl rfl (fun w => (bin_lss w).trans (by rw [hb34]))) fun a hA => ?_
   refine seq_end ?_
   refine hK33 _ _ ?_
   refine wp_seq_k (fun K35 hK35 => ?_)
   refine wp_cond_true (hA.ev rfl) ?_
   refine wp_skip ?_
   refine hK35 _ _ ?_
   refine wp_seq_k (fun K36 hK36 => ?_)
   refine wp_block ?_
   refine wp_seq_k (fun K37 hK37 => ?_)
   refine wp_region_lit ?_
   refine seq_do hA rfl rfl rfl (does_move rfl) fun a hA => ?_
   refine seq_do hA rfl rfl rfl (does_assign rfl) fun a hA => ?_
   refine seq_end ?_
   refine hK37 _ _ ?_
   refine wp_region_lit ?_
   refine seq_do hA rfl rfl rfl (does_move rfl) fun a hA => ?_
   refine seq_do hA rfl rfl rfl (does_move rfl) fun a hA => ?_
   refine seq_do (v := .pointer (some ⟨g20, 0, none⟩)) hA rfl rfl rfl (does_field ByP_fld_27_0 rfl rfl) fun a hA => ?_
   refine seq_do (v := .pointer (some ⟨g20, 1, none⟩)) hA rfl rfl rfl (does_field ByP_fld_25_1 rfl rfl) fun a hA => ?_
   refine seq_do hA rfl rfl rfl (m_load1 hM ByP_is1_23 rfl 1 rfl rfl) fun a hA => ?_
   refine seq_do hA rfl rfl rfl (does_move rfl) fun a hA => ?_
   refine seq_do (v := .int .i64 (((i / 4 : Nat) : Int))) hA rfl rfl rfl (does_bin rfl rfl (ar_quo (by decide) ((congrArg IntKind.i64.wrap (Int.tdiv_eq_ediv_of_nonneg (by omega))).trans ((in_i64 (by omega) (by omega)).trans (by omega))))) fun a hA => ?_
   have hj9 : i / 4 < (words F).length := by omega
   obtain ⟨bx38, ox39, hx40⟩ := hrdF.addr hj9
   refine seq_do (v := .pointer (some ⟨bx38, ox39 + i / 4, none⟩)) hA rfl rfl rfl (does_indexRow (k := i / 4) Tryz.underlying23 (by kernel_rfl) rfl rfl rfl hx40 hj9) fun a hA => ?_
   refine seq_do (v := .int .u32 ((((words F).getD (i / 4) 0 : Nat) : Int))) hA rfl rfl rfl (m_loadW (hrdF.at_ hx40 hj9) ByP_is1_57 rfl) fun a hA => ?_
   refine seq_do hA rfl rfl rfl (does_move rfl) fun a hA => ?_
   refine seq_do (v := .int .i64 (((i % 4 : Nat) : Int))) hA rfl rfl rfl (does_bin rfl rfl (ar_rem (by decide) ((Int.tmod_eq_emod_of_nonneg (by omega)).trans (by omega)))) fun a hA => ?_
   refine seq_do (v := .int .i64 (((i % 4 * 8 : Nat) : Int))) hA rfl rfl rfl (does_bin rfl rfl (ar_mul ((in_i64 (by omega) (by omega)).trans (by omega)))) fun a hA => ?_
   refine seq_do (v := .int .u32 ((((words F).getD (i / 4) 0 / 2 ^ (i % 4 * 8) : Nat) : Int))) hA rfl rfl rfl (does_bin rfl rfl (ar_shr (n := i % 4 * 8) rfl (Nat.ble_eq_true_of_le (show i % 4 * 8 ≤ 32 by omega)) (by rw [Int.natCast_ediv, Int.natCast_pow]; rfl))) fun a hA => ?_
   refine seq_do (v := .int .u8 (((F / 256 ^ i % 256 : Nat) : Int))) hA rfl rfl rfl (does_convert rfl (ar_conv Tryz.underlying57 Tryz.underlying5 (by rw [← wd_byte]; exact wrap8 _))) fun a hA => ?_
   refine seq_do (v := .pointer (some ⟨gx, (i) * 1, none⟩)) hA rfl rfl rfl (does_indexE Tryz.underlying22 (by kernel_rfl) rfl rfl rfl (show i < n by omega)) fun a hA => ?_
   refine s_storeEN (c := .int .u8 (((F / 256 ^ i % 256 : Nat) : Int))) (L' := (.row BY 1 (.slice (some ⟨gx, 0, none⟩) n n) n ((over (Lib.byteCells (lbI n F i)) ((i) * 1) [.int .u8 (((F / 256 ^ i % 256 : Nat) : Int))])) :: .obj g20 (.cells #[.bool false, .slice o18_1 ((words F).length) o18_c1, .slice o18_2 1 o18_c2, .bool false, .slice o18_3 0 o18_c3, .slice o18_4 1 o18_c4] 27) :: .obj g4 (.cells #[.bool false, .slice o1 ((words x).length) c1, .slice o2 1 c2, .bool false, .slice o3 0 c3, .slice o4 1 c4] 27) :: .obj g2 (.cells #[.int .i64 (((n : Nat) : Int)), .bool bg, .bool true] 43) :: [])) hA hM rfl rfl (m_storeE rfl rfl rfl (by kernel_rfl) hM 0 rfl (show (i) * 1 + 1 ≤ n * 1 by omega) rfl) 0 rfl (cells_get (l := lbI n F i) (i := i) (by rw [lbI_len]; omega)) rfl rfl ?_
   intro w41 hM hc42
   replace hrdF := hc42 _ _ hrdF
   replace hM : Mg w w41 (.row BY 1 (.slice (some ⟨gx, 0, none⟩) n n) n ((Lib.byteCells (lbI n F (i + 1)))) :: .obj g20 (.cells #[.bool false, .slice o18_1 ((words F).length) o18_c1, .slice o18_2 1 o18_c2, .bool false, .slice o18_3 0 o18_c3, .slice o18_4 1 o18_c4] 27) :: .obj g4 (.cells #[.bool false, .slice o1 ((words x).length) c1, .slice o2 1 c2, .bool false, .slice o3 0 c3, .slice o4 1 c4] 27) :: .obj g2 (.cells #[.int .i64 (((n : Nat) : Int)), .bool bg, .bool true] 43) :: []) := by
    have h9 := hM
    rw [lbI_step (by omega)] at h9
    exact h9
   refine seq_end ?_
   refine hK36 _ _ ?_
   refine wp_region_lit ?_
   refine seq_do (v := .int .i64 (((i + 1 : Nat) : Int))) hA rfl rfl rfl (does_bin rfl rfl (ar_add ((in_i64 (by omega) (by omega)).trans (by omega)))) fun a hA => ?_
   refine seq_do hA rfl rfl rfl (does_move rfl) fun a hA => ?_
   refine seq_end ?_
   refine hK31 _ _ _ (by omega) ⟨i + 1, rfl, ⟨by omega, hrdF⟩, hA.keep _ ⟨rfl, rfl, rfl, rfl, rfl, rfl, rfl, rfl, rfl, rfl, rfl, rfl, rfl, rfl, rfl, rfl, rfl, rfl, rfl, rfl, rfl, rfl, rfl, rfl, rfl, rfl, rfl, rfl, rfl, rfl, rfl, rfl, rfl, rfl, rfl, rfl, rfl, rfl, rfl, rfl, rfl, rfl, rfl, rfl, rfl, rfl, rfl, rfl, rfl, trivial⟩, hM⟩
  ·
   have hb34' := of_decide_eq_false hb34
   refine seq_do (v := .bool false) hA rfl rfl rfl (does_bin rfl rfl (fun w => (bin_lss w).trans (by rw [hb34]))) fun a hA => ?_
   refine seq_end ?_
   refine hK33 _ _ ?_
   refine wp_seq_k (fun K43 hK43 => ?_)
   refine wp_cond_false (hA.ev rfl) ?_
   refine wp_exit ?_
   refine hK28 _ _ ?_
   refine wp_seq_k (fun K44 hK44 => ?_)
   refine wp_region_lit ?_
   refine seq_do hA rfl rfl rfl (m_loadS hM ByP_isS_43 rfl 3 rfl (cs := [.int .i64 (((n : Nat) : Int)), .bool bg, .bool true]) rfl rfl) fun a hA => ?_
   refine seq_do hA rfl rfl rfl (does_move rfl) fun a hA => ?_
   have hi8 : i = min n ((words F).length * 4) := by omega
   have hd8 := lbI_done hi8
   replace hM : Mg w w30 (.row BY 1 (.slice (some ⟨gx, 0, none⟩) n n) n ((Lib.byteCells (leB n F))) :: .obj g20 (.cells #[.bool false, .slice o18_1 ((words F).length) o18_c1, .slice o18_2 1 o18_c2, .bool false, .slice o18_3 0 o18_c3, .slice o18_4 1 o18_c4] 27) :: .obj g4 (.cells #[.bool false, .slice o1 ((words x).length) c1, .slice o2 1 c2, .bool false, .slice o3 0 c3, .slice o4 1 c4] 27) :: .obj g2 (.cells #[.int .i64 (((n : Nat) : Int)), .bool bg, .bool true] 43) :: []) := by
    have h9 := hM
    rw [hd8] at h9
    exact h9
   refine seq_call hA rfl rfl rfl (enters_func rfl rfl (fun w => by kernel_rfl)) ((by have h9 := reordered_any bg (w := w30) (sg := true) (cp := n) (rb_row (bs := leB n F) hM 0 rfl).1 (by rw [leB_len]; omega); rw [leB_len] at h9; exact h9)) ?_
   rintro _ w47 ⟨g45, rfl, hM46⟩
   replace hM : Mg w w47 (.row BY 1 (.slice (some ⟨g45, 0, none⟩) n n) n ((Lib.byteCells (lowB bg (leB n F)))) :: .row BY 1 (.slice (some ⟨gx, 0, none⟩) n n) n ((Lib.byteCells (leB n F))) :: .obj g20 (.cells #[.bool false, .slice o18_1 ((words F).length) o18_c1, .slice o18_2 1 o18_c2, .bool false, .slice o18_3 0 o18_c3, .slice o18_4 1 o18_c4] 27) :: .obj g4 (.cells #[.bool false, .slice o1 ((words x).length) c1, .slice o2 1 c2, .bool false, .slice o3 0 c3, .slice o4 1 c4] 27) :: .obj g2 (.cells #[.int .i64 (((n : Nat) : Int)), .bool bg, .bool true] 43) :: []) := (hM.both hM46 (noBld_cons (by simp) (noBld_cons (by simp) (noBld_cons (by simp) (noBld_cons (by simp) (noBld_quiet quietL_nil))))) (noBld_cons (by simp) (noBld_quiet quietL_nil)))
   refine ⟨_, rfl, ?_⟩
   intro a hA
   refine seq_do hA rfl rfl rfl (does_assign rfl) fun a hA => ?_
   refine seq_do hA rfl rfl rfl (does_assign rfl) fun a hA => ?_
   refine seq_end ?_
   refine hK44 _ _ ?_
   refine wp_ret ?_
   refine hret _ _ ?_
   refine ends (v := .tuple #[.slice (some ⟨g45, 0, none⟩) n n, .int .i64 0]) hA rfl (.cons (res_tmp rfl) (.cons (res_tmp rfl) .nil)) rfl ?_
   exact ⟨g45, rfl, hM.sub (.cons_cons _ (.cons _ (.cons _ (.cons _ (.cons _ (.refl _))))))⟩
 ·
  refine seq_do (v := .pointer (some ⟨g2, 2, none⟩)) hA rfl rfl rfl (does_field ByP_fld_43_2 rfl rfl) fun a hA => ?_
  refine seq_do hA rfl rfl rfl (m_load1 hM ByP_is1_4 rfl 1 rfl rfl) fun a hA => ?_
  refine seq_do (v := .bool false) hA rfl rfl rfl (does_un rfl un_not) fun a hA => ?_
  refine seq_do (v := .bool false) hA rfl rfl rfl (does_pick rfl rfl rfl rfl) fun a hA => ?_
  refine seq_do hA rfl rfl rfl (does_move rfl) fun a hA => ?_
  refine seq_do hA rfl rfl rfl (does_move rfl) fun a hA => ?_
  refine seq_do hA rfl rfl rfl (m_loadS hM ByP_isS_43 rfl 1 rfl (cs := [.int .i64 (((n : Nat) : Int)), .bool bg, .bool true]) rfl rfl) fun a hA => ?_
  refine seq_call hA rfl rfl rfl (enters_func rfl rfl (fun w => by kernel_rfl)) (room_true h1 h64) ?_
  rintro _ w49 ⟨rfl, hb48⟩
  replace hM := hM.call hb48
  refine ⟨_, rfl, ?_⟩
  intro a hA
  refine seq_do (v := .bool false) hA rfl rfl rfl (does_bin rfl rfl (fun w => (bin_gtr w).trans (by rw [show (decide (((n * 8 - 1 : Nat) : Int) < ((ln : Nat) : Int))) = false from (decide_eq_false (by omega))]))) fun a hA => ?_
  refine seq_do (v := .bool false) hA rfl rfl rfl (does_pick rfl rfl rfl rfl) fun a hA => ?_
  refine seq_end ?_
  refine hK12 _ _ ?_
  refine wp_cond_false (hA.ev rfl) ?_
  refine wp_skip ?_
  refine hK11 _ _ ?_
  refine wp_seq_k (fun K50 hK50 => ?_)
  refine wp_region_lit ?_
  refine seq_do hA rfl rfl rfl (m_loadS hM ByP_isS_27 rfl 0 rfl (cs := [.bool true, .slice o1 ((words x).length) c1, .slice o2 1 c2, .bool false, .slice o3 0 c3, .slice o4 1 c4]) rfl rfl) fun a hA => ?_
  refine seq_do (v := .pointer (some ⟨g2, 0, none⟩)) hA rfl rfl rfl (does_field ByP_fld_43_0 rfl rfl) fun a hA => ?_
  refine seq_do hA rfl rfl rfl (m_load1 hM ByP_is1_3 rfl 1 rfl rfl) fun a hA => ?_
  refine seq_do (v := .int .i64 (((n * 8 : Nat) : Int))) hA rfl rfl rfl (does_bin rfl rfl (ar_mul ((in_i64 (by omega) (by omega)).trans (by omega)))) fun a hA => ?_
  refine seq_call hA rfl rfl rfl (enters_func rfl rfl (fun w => by kernel_rfl)) ((show Calls Tryz.prog 30 _ _ (AnsN _ (Q6.whole false F, 0)) from (by have h9 := fieldPW_any (w := w49) (S := 0) (E := n * 8) (nm_below ha hM.bel) (lenQ_whole hx) (by omega) (by omega) hw hx hbx; rw [fieldQ_ok hw (by omega) (by omega), Nat.sub_zero, hF] at h9; exact h9))) ?_
  rintro _ w54 ⟨o53_1, o53_c1, o53_2, o53_c2, o53_3, o53_c3, o53_4, o53_c4, rfl, hn51, hb52⟩
  replace hM := hM.call hb52
  refine ⟨_, rfl, ?_⟩
  intro a hA
  refine seq_do hA rfl rfl rfl (does_move rfl) fun a hA => ?_
  refine seq_do (v := .agg #[.bool false, .slice o53_1 ((words F).length) o53_c1, .slice o53_2 1 o53_c2, .bool false, .slice o53_3 0 o53_c3, .slice o53_4 1 o53_c4]) hA rfl rfl rfl (does_extract (vs := [.agg #[.bool false, .slice o53_1 ((words F).length) o53_c1, .slice o53_2 1 o53_c2, .bool false, .slice o53_3 0 o53_c3, .slice o53_4 1 o53_c4], .int .i64 0]) rfl rfl) fun a hA => ?_
  refine seq_do (v := .int .i64 0) hA rfl rfl rfl (does_extract (vs := [.agg #[.bool false, .slice o53_1 ((words F).length) o53_c1, .slice o53_2 1 o53_c2, .bool false, .slice o53_3 0 o53_c3, .slice o53_4 1 o53_c4], .int .i64 0]) rfl rfl) fun a hA => ?_
  refine s_newN (vs := [.bool false, .slice none 0 0, .slice none 0 0, .bool false, .slice none 0 0, .slice none 0 0]) (t := 27) hA hM rfl rfl rfl (fun g => .pointer (some ⟨g, 0, none⟩)) (does_alloc (z := .agg #[.bool false, .slice none 0 0, .slice none 0 0, .bool false, .slice none 0 0, .slice none 0 0]) (by kernel_rfl) rfl) (by decide) ?_
  intro g55 w56 hM hc57 a hA
  replace hn51 := nm_carry hn51 hc57
  refine s_storeN (us := [.bool false, .slice o53_1 ((words F).length) o53_c1, .slice o53_2 1 o53_c2, .bool false, .slice o53_3 0 o53_c3, .slice o53_4 1 o53_c4]) (L' := (.obj g55 (.cells #[.bool false, .slice o53_1 ((words F).length) o53_c1, .slice o53_2 1 o53_c2, .bool false, .slice o53_3 0 o53_c3, .slice o53_4 1 o53_c4] 27) :: .obj g4 (.cells #[.bool true, .slice o1 ((words x).length) c1, .slice o2 1 c2, .bool false, .slice o3 0 c3, .slice o4 1 c4] 27) :: .obj g2 (.cells #[.int .i64 (((n : Nat) : Int)), .bool bg, .bool true] 43) :: [])) hA hM rfl rfl (m_store rfl rfl rfl (by kernel_rfl) hM 0 rfl rfl rfl) 0 rfl rfl rfl rfl rfl rfl ?_
  intro w58 hM hc59
  replace hn51 := nm_carry hn51 hc59
  refine seq_do hA rfl rfl rfl (does_assign rfl) fun a hA => ?_
  refine seq_end ?_
  refine hK50 _ _ ?_
  refine wp_seq_k (fun K60 hK60 => ?_)
  refine wp_region_lit ?_
  refine seq_do (v := .pointer (some ⟨g2, 0, none⟩)) hA rfl rfl rfl (does_field ByP_fld_43_0 rfl rfl) fun a hA => ?_
  refine seq_do hA rfl rfl rfl (m_load1 hM ByP_is1_3 rfl 2 rfl rfl) fun a hA => ?_
  refine s_makeN (z := .int .u8 0) (sz := 1) (by_ := 1) (m := n) hA hM Tryz.underlying22 (by kernel_rfl) rfl rfl rfl rfl rfl rfl (by omega) (by omega) (.inr (noBld_cons (by simp) (noBld_cons (by simp) (noBld_cons (by simp) (noBld_quiet quietL_nil))))) ?_
  intro gx w61 hM hc62 a hA
  replace hn51 := nm_carry hn51 hc62
  rw [lbI_made n F] at hM
  refine seq_do hA rfl rfl rfl (does_assign rfl) fun a hA => ?_
  refine seq_end ?_
  refine hK60 _ _ ?_
  refine wp_seq_k (fun K63 hK63 => ?_)
  refine wp_seq_k (fun K64 hK64 => ?_)
  refine wp_region_lit ?_
  refine seq_do (v := .pointer (some ⟨g2, 0, none⟩)) hA rfl rfl rfl (does_field ByP_fld_43_0 rfl rfl) fun a hA => ?_
  refine seq_do hA rfl rfl rfl (m_load1 hM ByP_is1_3 rfl 3 rfl rfl) fun a hA => ?_
  refine seq_do (v := .pointer (some ⟨g55, 0, none⟩)) hA rfl rfl rfl (does_field ByP_fld_27_0 rfl rfl) fun a hA => ?_
  refine seq_do (v := .pointer (some ⟨g55, 1, none⟩)) hA rfl rfl rfl (does_field ByP_fld_25_1 rfl rfl) fun a hA => ?_
  refine seq_do hA rfl rfl rfl (m_load1 hM ByP_is1_23 rfl 1 rfl rfl) fun a hA => ?_
  refine seq_do (v := .int .i64 ((((words F).length : Nat) : Int))) hA rfl rfl rfl (does_len Tryz.underlying23 rfl) fun a hA => ?_
  refine seq_do (v := .int .i64 ((((words F).length * 4 : Nat) : Int))) hA rfl rfl rfl (does_bin rfl rfl (ar_mul ((in_i64 (by omega) (by omega)).trans (by omega)))) fun a hA => ?_
  refine seq_do (v := .int .i64 (((min n ((words F).length * 4) : Nat) : Int))) hA rfl rfl rfl (does_builtin rfl min_nat) fun a hA => ?_
  refine seq_do hA rfl rfl rfl (does_move rfl) fun a hA => ?_
  refine seq_end ?_
  refine hK64 _ _ ?_
  refine wp_block ?_
  refine wp_loop_n (fun m_ a w1 => ∃ (i : Nat), m_ = n - i ∧ (i ≤ min n ((words F).length * 4) ∧ Rd w1 o53_1 (words F)) ∧ Sl a 75 [(0, .agg #[.int .i64 (((n : Nat) : Int)), .bool bg, .bool true]), (1, .agg #[.bool true, .slice o1 ((words x).length) c1, .slice o2 1 c2, .bool false, .slice o3 0 c3, .slice o4 1 c4]), (2, .pointer (some ⟨g2, 0, none⟩)), (3, .pointer (some ⟨g4, 0, none⟩)), (4, .slice none 0 0), (5, .int .i64 0), (6, .int .i64 (((ln : Nat) : Int))), (7, .int .i64 0), (8, .pointer (some ⟨g55, 0, none⟩)), (9, .int .i64 0), (10, .slice (some ⟨gx, 0, none⟩) n n), (12, .tuple #[.int .i64 (((ln : Nat) : Int)), .int .i64 0]), (13, .agg #[.bool true, .slice o1 ((words x).length) c1, .slice o2 1 c2, .bool false, .slice o3 0 c3, .slice o4 1 c4]), (14, .tuple #[.int .i64 (((ln : Nat) : Int)), .int .i64 0]), (15, .int .i64 (((ln : Nat) : Int))), (16, .int .i64 0), (17, .int .i64 0), (18, .bool false), (20, .pointer (some ⟨g4, 0, none⟩)), (21, .pointer (some ⟨g4, 0, none⟩)), (22, .bool true), (23, .bool true), (24, .pointer (some ⟨g2, 2, none⟩)), (25, .bool true), (26, .bool false), (27, .bool false), (28, .bool false), (29, .int .i64 (((ln : Nat) : Int))), (30, .agg #[.int .i64 (((n : Nat) : Int)), .bool bg, .bool true]), (31, .int .i64 (((n * 8 - 1 : Nat) : Int))), (32, .bool false), (33, .bool false), (34, .tuple #[.agg #[.bool false, .slice o53_1 ((words F).length) o53_c1, .slice o53_2 1 o53_c2, .bool false, .slice o53_3 0 o53_c3, .slice o53_4 1 o53_c4], .int .i64 0]), (35, .agg #[.bool true, .slice o1 ((words x).length) c1, .slice o2 1 c2, .bool false, .slice o3 0 c3, .slice o4 1 c4]), (36, .pointer (some ⟨g2, 0, none⟩)), (37, .int .i64 (((n : Nat) : Int))), (38, .int .i64 (((n * 8 : Nat) : Int))), (39, .tuple #[.agg #[.bool false, .slice o53_1 ((words F).length) o53_c1, .slice o53_2 1 o53_c2, .bool false, .slice o53_3 0 o53_c3, .slice o53_4 1 o53_c4], .int .i64 0]), (40, .agg #[.bool false, .slice o53_1 ((words F).length) o53_c1, .slice o53_2 1 o53_c2, .bool false, .slice o53_3 0 o53_c3, .slice o53_4 1 o53_c4]), (41, .int .i64 0), (42, .pointer (some ⟨g2, 0, none⟩)), (43, .int .i64 (((n : Nat) : Int))), (44, .slice (some ⟨gx, 0, none⟩) n n), (45, .pointer (some ⟨g2, 0, none⟩)), (46, .int .i64 (((n : Nat) : Int))), (47, .pointer (some ⟨g55, 0, none⟩)), (48, .pointer (some ⟨g55, 1, none⟩)), (49, .slice o53_1 ((words F).length) o53_c1), (50, .int .i64 ((((words F).length : Nat) : Int))), (51, .int .i64 ((((words F).length * 4 : Nat) : Int))), (52, .int .i64 (((min n ((words F).length * 4) : Nat) : Int))), (53, .int .i64 (((i : Nat) : Int)))] ∧ Mg w w1 (.row BY 1 (.slice (some ⟨gx, 0, none⟩) n n) n ((Lib.byteCells (lbI n F i))) :: .obj g55 (.cells #[.bool false, .slice o53_1 ((words F).length) o53_c1, .slice o53_2 1 o53_c2, .bool false, .slice o53_3 0 o53_c3, .slice o53_4 1 o53_c4] 27) :: .obj g4 (.cells #[.bool true, .slice o1 ((words x).length) c1, .slice o2 1 c2, .bool false, .slice o3 0 c3, .slice o4 1 c4] 27) :: .obj g2 (.cells #[.int .i64 (((n : Nat) : Int)), .bool bg, .bool true] 43) :: [])) _ ⟨0, rfl, ⟨Nat.zero_le _, hn51.s1.rd⟩, hA.keep _ ⟨rfl, rfl, rfl, rfl, rfl, rfl, rfl, rfl, rfl, rfl, rfl, rfl, rfl, rfl, rfl, rfl, rfl, rfl, rfl, rfl, rfl, rfl, rfl, rfl, rfl, rfl, rfl, rfl, rfl, rfl, rfl, rfl, rfl, rfl, rfl, rfl, rfl, rfl, rfl, rfl, rfl, rfl, rfl, rfl, rfl, rfl, rfl, rfl, rfl, rfl, rfl, rfl, trivial⟩, hM⟩ ?_
  clear hM hA
  rintro m_ a w65 ⟨i, rfl, hinv67, hA, hM⟩ K66 hK66
  obtain ⟨hi9, hrdF⟩ := hinv67
  refine wp_seq_k (fun K68 hK68 => ?_)
  refine wp_region_lit ?_
  rcases Bool.eq_false_or_eq_true (decide (((i : Nat) : Int) < ((min n ((words F).length * 4) : Nat) : Int))) with hb69 | hb69
  ·
   have hb69' := of_decide_eq_true hb69
   refine seq_do (v := .bool true) hA rfl rfl rfl (does_bin rfl rfl (fun w => (bin_lss w).trans (by rw [hb69]))) fun a hA => ?_
   refine seq_end ?_
   refine hK68 _ _ ?_
   refine wp_seq_k (fun K70 hK70 => ?_)
   refine wp_cond_true (hA.ev rfl) ?_
   refine wp_skip ?_
   refine hK70 _ _ ?_
   refine wp_seq_k (fun K71 hK71 => ?_)
   refine wp_block ?_
   refine wp_seq_k (fun K72 hK72 => ?_)
   refine wp_region_lit ?_
   refine seq_do hA rfl rfl rfl (does_move rfl) fun a hA => ?_
   refine seq_do hA rfl rfl rfl (does_assign rfl) fun a hA => ?_
   refine seq_end ?_
   refine hK72 _ _ ?_
   refine wp_region_lit ?_
   refine seq_do hA rfl rfl rfl (does_move rfl) fun a hA => ?_
   refine seq_do hA rfl rfl rfl (does_move rfl) fun a hA => ?_
   refine seq_do (v := .pointer (some ⟨g55, 0, none⟩)) hA rfl rfl rfl (does_field ByP_fld_27_0 rfl rfl) fun a hA => ?_
   refine seq_do (v := .pointer (some ⟨g55, 1, none⟩)) hA rfl rfl rfl (does_field ByP_fld_25_1 rfl rfl) fun a hA => ?_
   refine seq_do hA rfl rfl rfl (m_load1 hM ByP_is1_23 rfl 1 rfl rfl) fun a hA => ?_
   refine seq_do hA rfl rfl rfl (does_move rfl) fun a hA => ?_
   refine seq_do (v := .int .i64 (((i / 4 : Nat) : Int))) hA rfl rfl rfl (does_bin rfl rfl (ar_quo (by decide) ((congrArg IntKind.i64.wrap (Int.tdiv_eq_ediv_of_nonneg (by omega))).trans ((in_i64 (by omega) (by omega)).trans (by omega))))) fun a hA => ?_
   have hj9 : i / 4 < (words F).length := by omega
   obtain ⟨bx73, ox74, hx75⟩ := hrdF.addr hj9
   refine seq_do (v := .pointer (some ⟨bx73, ox74 + i / 4, none⟩)) hA rfl rfl rfl (does_indexRow (k := i / 4) Tryz.underlying23 (by kernel_rfl) rfl rfl rfl hx75 hj9) fun a hA => ?_
   refine seq_do (v := .int .u32 ((((words F).getD (i / 4) 0 : Nat) : Int))) hA rfl rfl rfl (m_loadW (hrdF.at_ hx75 hj9) ByP_is1_57 rfl) fun a hA => ?_
   refine seq_do hA rfl rfl rfl (does_move rfl) fun a hA => ?_
   refine seq_do (v := .int .i64 (((i % 4 : Nat) : Int))) hA rfl rfl rfl (does_bin rfl rfl (ar_rem (by decide) ((Int.tmod_eq_emod_of_nonneg (by omega)).trans (by omega)))) fun a hA => ?_
   refine seq_do (v := .int .i64 (((i % 4 * 8 : Nat) : Int))) hA rfl rfl rfl (does_bin rfl rfl (ar_mul ((in_i64 (by omega) (by omega)).trans (by omega)))) fun a hA => ?_
   refine seq_do (v := .int .u32 ((((words F).getD (i / 4) 0 / 2 ^ (i % 4 * 8) : Nat) : Int))) hA rfl rfl rfl (does_bin rfl rfl (ar_shr (n := i % 4 * 8) rfl (Nat.ble_eq_true_of_le (show i % 4 * 8 ≤ 32 by omega)) (by rw [Int.natCast_ediv, Int.natCast_pow]; rfl))) fun a hA => ?_
   refine seq_do (v := .int .u8 (((F / 256 ^ i % 256 : Nat) : Int))) hA rfl rfl rfl (does_convert rfl (ar_conv Tryz.underlying57 Tryz.underlying5 (by rw [← wd_byte]; exact wrap8 _))) fun a hA => ?_
   refine seq_do (v := .pointer (some ⟨gx, (i) * 1, none⟩)) hA rfl rfl rfl (does_indexE Tryz.underlying22 (by kernel_rfl) rfl rfl rfl (show i < n by omega)) fun a hA => ?_
   refine s_storeEN (c := .int .u8 (((F / 256 ^ i % 256 : Nat) : Int))) (L' := (.row BY 1 (.slice (some ⟨gx, 0, none⟩) n n) n ((over (Lib.byteCells (lbI n F i)) ((i) * 1) [.int .u8 (((F / 256 ^ i % 256 : Nat) : Int))])) :: .obj g55 (.cells #[.bool false, .slice o53_1 ((words F).length) o53_c1, .slice o53_2 1 o53_c2, .bool false, .slice o53_3 0 o53_c3, .slice o53_4 1 o53_c4] 27) :: .obj g4 (.cells #[.bool true, .slice o1 ((words x).length) c1, .slice o2 1 c2, .bool false, .slice o3 0 c3, .slice o4 1 c4] 27) :: .obj g2 (.cells #[.int .i64 (((n : Nat) : Int)), .bool bg, .bool true] 43) :: [])) hA hM rfl rfl (m_storeE rfl rfl rfl (by kernel_rfl) hM 0 rfl (show (i) * 1 + 1 ≤ n * 1 by omega) rfl) 0 rfl (cells_get (l := lbI n F i) (i := i) (by rw [lbI_len]; omega)) rfl rfl ?_
   intro w76 hM hc77
   replace hrdF := hc77 _ _ hrdF
   replace hM : Mg w w76 (.row BY 1 (.slice (some ⟨gx, 0, none⟩) n n) n ((Lib.byteCells (lbI n F (i + 1)))) :: .obj g55 (.cells #[.bool false, .slice o53_1 ((words F).length) o53_c1, .slice o53_2 1 o53_c2, .bool false, .slice o53_3 0 o53_c3, .slice o53_4 1 o53_c4] 27) :: .obj g4 (.cells #[.bool true, .slice o1 ((words x).length) c1, .slice o2 1 c2, .bool false, .slice o3 0 c3, .slice o4 1 c4] 27) :: .obj g2 (.cells #[.int .i64 (((n : Nat) : Int)), .bool bg, .bool true] 43) :: []) := by
    have h9 := hM
    rw [lbI_step (by omega)] at h9
    exact h9
   refine seq_end ?_
   refine hK71 _ _ ?_
   refine wp_region_lit ?_
   refine seq_do (v := .int .i64 (((i + 1 : Nat) : Int))) hA rfl rfl rfl (does_bin rfl rfl (ar_add ((in_i64 (by omega) (by omega)).trans (by omega)))) fun a hA => ?_
   refine seq_do hA rfl rfl rfl (does_move rfl) fun a hA => ?_
   refine seq_end ?_
   refine hK66 _ _ _ (by omega) ⟨i + 1, rfl, ⟨by omega, hrdF⟩, hA.keep _ ⟨rfl, rfl, rfl, rfl, rfl, rfl, rfl, rfl, rfl, rfl, rfl, rfl, rfl, rfl, rfl, rfl, rfl, rfl, rfl, rfl, rfl, rfl, rfl, rfl, rfl, rfl, rfl, rfl, rfl, rfl, rfl, rfl, rfl, rfl, rfl, rfl, rfl, rfl, rfl, rfl, rfl, rfl, rfl, rfl, rfl, rfl, rfl, rfl, rfl, rfl, rfl, rfl, trivial⟩, hM⟩
  ·
   have hb69' := of_decide_eq_false hb69
   refine seq_do (v := .bool false) hA rfl rfl rfl (does_bin rfl rfl (fun w => (bin_lss w).trans (by rw [hb69]))) fun a hA => ?_
   refine seq_end ?_
   refine hK68 _ _ ?_
   refine wp_seq_k (fun K78 hK78 => ?_)
   refine wp_cond_false (hA.ev rfl) ?_
   refine wp_exit ?_
   refine hK63 _ _ ?_
   refine wp_seq_k (fun K79 hK79 => ?_)
   refine wp_region_lit ?_
   refine seq_do hA rfl rfl rfl (m_loadS hM ByP_isS_43 rfl 3 rfl (cs := [.int .i64 (((n : Nat) : Int)), .bool bg, .bool true]) rfl rfl) fun a hA => ?_
   refine seq_do hA rfl rfl rfl (does_move rfl) fun a hA => ?_
   have hi8 : i = min n ((words F).length * 4) := by omega
   have hd8 := lbI_done hi8
   replace hM : Mg w w65 (.row BY 1 (.slice (some ⟨gx, 0, none⟩) n n) n ((Lib.byteCells (leB n F))) :: .obj g55 (.cells #[.bool false, .slice o53_1 ((words F).length) o53_c1, .slice o53_2 1 o53_c2, .bool false, .slice o53_3 0 o53_c3, .slice o53_4 1 o53_c4] 27) :: .obj g4 (.cells #[.bool true, .slice o1 ((words x).length) c1, .slice o2 1 c2, .bool false, .slice o3 0 c3, .slice o4 1 c4] 27) :: .obj g2 (.cells #[.int .i64 (((n : Nat) : Int)), .bool bg, .bool true] 43) :: []) := by
    have h9 := hM
    rw [hd8] at h9
    exact h9
   refine seq_call hA rfl rfl rfl (enters_func rfl rfl (fun w => by kernel_rfl)) ((by have h9 := reordered_any bg (w := w65) (sg := true) (cp := n) (rb_row (bs := leB n F) hM 0 rfl).1 (by rw [leB_len]; omega); rw [leB_len] at h9; exact h9)) ?_
   rintro _ w82 ⟨g80, rfl, hM81⟩
   replace hM : Mg w w82 (.row BY 1 (.slice (some ⟨g80, 0, none⟩) n n) n ((Lib.byteCells (lowB bg (leB n F)))) :: .row BY 1 (.slice (some ⟨gx, 0, none⟩) n n) n ((Lib.byteCells (leB n F))) :: .obj g55 (.cells #[.bool false, .slice o53_1 ((words F).length) o53_c1, .slice o53_2 1 o53_c2, .bool false, .slice o53_3 0 o53_c3, .slice o53_4 1 o53_c4] 27) :: .obj g4 (.cells #[.bool true, .slice o1 ((words x).length) c1, .slice o2 1 c2, .bool false, .slice o3 0 c3, .slice o4 1 c4] 27) :: .obj g2 (.cells #[.int .i64 (((n : Nat) : Int)), .bool bg, .bool true] 43) :: []) := (hM.both hM81 (noBld_cons (by simp) (noBld_cons (by simp) (noBld_cons (by simp) (noBld_cons (by simp) (noBld_quiet quietL_nil))))) (noBld_cons (by simp) (noBld_quiet quietL_nil)))
   refine ⟨_, rfl, ?_⟩
   intro a hA
   refine seq_do hA rfl rfl rfl (does_assign rfl) fun a hA => ?_
   refine seq_do hA rfl rfl rfl (does_assign rfl) fun a hA => ?_
   refine seq_end ?_
   refine hK79 _ _ ?_
   refine wp_ret ?_
   refine hret _ _ ?_
   refine ends (v := .tuple #[.slice (some ⟨g80, 0, none⟩) n n, .int .i64 0]) hA rfl (.cons (res_tmp rfl) (.cons (res_tmp rfl) .nil)) rfl ?_
   exact ⟨g80, rfl, hM.sub (.cons_cons _ (.cons _ (.cons _ (.cons _ (.cons _ (.refl _))))))⟩
theorem laid_bg_false {w : World} {b : Bool} {x n : Nat} {o1 o2 o3 o4 : Option Addr} {c1 c2 c3 c4 : Nat} (ha : Nm w (Q6.whole b x) o1 c1 o2 c2 o3 c3 o4 c4) (hx : (words x).length ≤ 512) (hbx : b.toNat ≤ x) (h1 : 1 ≤ n) (h64 : n ≤ 64) (bg : Bool) {F ln : Nat} (hF : fld b (x - b.toNat) 0 (n * 8) = F) (hln : bl (x - b.toNat) = ln) (hroom : ln ≤ n * 8) (hneg : b = false) : Calls Tryz.prog 18 #[.agg #[.int .i64 ((n : Nat) : Int), .bool bg, .bool false], numV (Q6.whole b x) o1 c1 o2 c2 o3 c3 o4 c4] w fun e w' => ∃ g, e = .returned (.tuple #[.slice (some ⟨g, 0, none⟩) n n, .int .i64 0]) ∧ Mg w w' [.row BY 1 (.slice (some ⟨g, 0, none⟩) n n) n (Lib.byteCells (lowB bg (leB n F)))] := by
 have hw := want_ok hx hbx
 subst hneg
 have hwl : (words F).length ≤ 512 := by rw [← hF]; exact fld_len (by omega)
 have hM : Mg w w ([]) := Mg.start w
 refine walk_of (l := [(0, .agg #[.int .i64 (((n : Nat) : Int)), .bool bg, .bool false]), (1, .agg #[.bool false, .slice o1 ((words x).length) c1, .slice o2 1 c2, .bool false, .slice o3 0 c3, .slice o4 1 c4])]) Tryz.func18 rfl Tryz.ntmps18 rfl rfl ?_
 intro Q hret hnorm hP a hA
 refine wp_seq_k (fun K1 hK1 => ?_)
 refine wp_region_lit ?_
 refine s_new (vs := [.int .i64 (((n : Nat) : Int)), .bool bg, .bool false]) (t := 43) hA hM rfl rfl rfl (fun g => .pointer (some ⟨g, 0, none⟩)) (does_box rfl rfl) (by decide) ?_
 intro g2 w3 hM a hA
 refine s_new (vs := [.bool false, .slice o1 ((words x).length) c1, .slice o2 1 c2, .bool false, .slice o3 0 c3, .slice o4 1 c4]) (t := 27) hA hM rfl rfl rfl (fun g => .pointer (some ⟨g, 0, none⟩)) (does_box rfl rfl) (by decide) ?_
 intro g4 w5 hM a hA
 refine seq_do hA rfl rfl rfl (does_assign rfl) fun a hA => ?_
 refine seq_do hA rfl rfl rfl (does_assign rfl) fun a hA => ?_
 refine seq_end ?_
 refine hK1 _ _ ?_
 refine wp_seq_k (fun K6 hK6 => ?_)
 refine wp_region_lit ?_
 refine seq_do hA rfl rfl rfl (m_loadS hM ByP_isS_27 rfl 0 rfl (cs := [.bool false, .slice o1 ((words x).length) c1, .slice o2 1 c2, .bool false, .slice o3 0 c3, .slice o4 1 c4]) rfl rfl) fun a hA => ?_
 refine seq_call hA rfl rfl rfl (enters_func rfl rfl (fun w => by kernel_rfl)) ((by have h9 := lengthPW_any (w := w5) (nm_below ha hM.bel) (lenQ_whole hx) hw hx hbx; rw [lengthQ_whole hw, hln] at h9; exact h9)) ?_
 rintro _ w8 ⟨rfl, hb7⟩
 replace hM := hM.call hb7
 refine ⟨_, rfl, ?_⟩
 intro a hA
 refine seq_do hA rfl rfl rfl (does_move rfl) fun a hA => ?_
 refine seq_do (v := .int .i64 (((ln : Nat) : Int))) hA rfl rfl rfl (does_extract (vs := [.int .i64 (((ln : Nat) : Int)), .int .i64 0]) rfl rfl) fun a hA => ?_
 refine seq_do (v := .int .i64 0) hA rfl rfl rfl (does_extract (vs := [.int .i64 (((ln : Nat) : Int)), .int .i64 0]) rfl rfl) fun a hA => ?_
 refine seq_do hA rfl rfl rfl (does_assign rfl) fun a hA => ?_
 refine seq_do hA rfl rfl rfl (does_assign rfl) fun a hA => ?_
 refine seq_end ?_
 refine hK6 _ _ ?_
 refine wp_seq_k (fun K9 hK9 => ?_)
 refine wp_seq_k (fun K10 hK10 => ?_)
 refine wp_region_lit ?_
 refine seq_do hA rfl rfl rfl (does_move rfl) fun a hA => ?_
 refine seq_do (v := .bool false) hA rfl rfl rfl (does_bin rfl rfl (fun w => by kernel_rfl)) fun a hA => ?_
 refine seq_end ?_
 refine hK10 _ _ ?_
 refine wp_cond_false (hA.ev rfl) ?_
 refine wp_skip ?_
 refine hK9 _ _ ?_
 refine wp_seq_k (fun K11 hK11 => ?_)
 refine wp_seq_k (fun K12 hK12 => ?_)
 refine wp_region_lit ?_
 refine seq_do (v := .pointer (some ⟨g4, 0, none⟩)) hA rfl rfl rfl (does_field ByP_fld_27_0 rfl rfl) fun a hA => ?_
 refine seq_do (v := .pointer (some ⟨g4, 0, none⟩)) hA rfl rfl rfl (does_field ByP_fld_25_0 rfl rfl) fun a hA => ?_
 refine seq_do hA rfl rfl rfl (m_load1 hM ByP_is1_4 rfl 0 rfl rfl) fun a hA => ?_
 refine seq_do hA rfl rfl rfl (does_move rfl) fun a hA => ?_
 refine seq_skip hA rfl rfl rfl fun a hA => ?_
 refine seq_skip hA rfl rfl rfl fun a hA => ?_
 refine seq_skip hA rfl rfl rfl fun a hA => ?_
 refine seq_do (v := .bool false) hA rfl rfl rfl (does_pick rfl rfl rfl rfl) fun a hA => ?_
 refine seq_do hA rfl rfl rfl (does_move rfl) fun a hA => ?_
 refine seq_do hA rfl rfl rfl (does_move rfl) fun a hA => ?_
 refine seq_do hA rfl rfl rfl (m_loadS hM ByP_isS_43 rfl 1 rfl (cs := [.int .i64 (((n : Nat) : Int)), .bool bg, .bool false]) rfl rfl) fun a hA => ?_
 refine seq_call hA rfl rfl rfl (enters_func rfl rfl (fun w => by kernel_rfl)) (room_false h1 h64) ?_
 rintro _ w14 ⟨rfl, hb13⟩
 replace hM := hM.call hb13
 refine ⟨_, rfl, ?_⟩
 intro a hA
 refine seq_do (v := .bool false) hA rfl rfl rfl (does_bin rfl rfl (fun w => (bin_gtr w).trans (by rw [show (decide (((n * 8 : Nat) : Int) < ((ln : Nat) : Int))) = false from (decide_eq_false (by omega))]))) fun a hA => ?_
 refine seq_do (v := .bool false) hA rfl rfl rfl (does_pick rfl rfl rfl rfl) fun a hA => ?_
 refine seq_end ?_
 refine hK12 _ _ ?_
 refine wp_cond_false (hA.ev rfl) ?_
 refine wp_skip ?_
 refine hK11 _ _ ?_
 refine wp_seq_k (fun K15 hK15 => ?_)
 refine wp_region_lit ?_
 refine seq_do hA rfl rfl rfl (m_loadS hM ByP_isS_27 rfl 0 rfl (cs := [.bool false, .slice o1 ((words x).length) c1, .slice o2 1 c2, .bool false, .slice o3 0 c3, .slice o4 1 c4]) rfl rfl) fun a hA => ?_
 refine seq_do (v := .pointer (some ⟨g2, 0, none⟩)) hA rfl rfl rfl (does_field ByP_fld_43_0 rfl rfl) fun a hA => ?_
 refine seq_do hA rfl rfl rfl (m_load1 hM ByP_is1_3 rfl 1 rfl rfl) fun a hA => ?_
 refine seq_do (v := .int .i64 (((n * 8 : Nat) : Int))) hA rfl rfl rfl (does_bin rfl rfl (ar_mul ((in_i64 (by omega) (by omega)).trans (by omega)))) fun a hA => ?_
 refine seq_call hA rfl rfl rfl (enters_func rfl rfl (fun w => by kernel_rfl)) ((show Calls Tryz.prog 30 _ _ (AnsN _ (Q6.whole false F, 0)) from (by have h9 := fieldPW_any (w := w14) (S := 0) (E := n * 8) (nm_below ha hM.bel) (lenQ_whole hx) (by omega) (by omega) hw hx hbx; rw [fieldQ_ok hw (by omega) (by omega), Nat.sub_zero, hF] at h9; exact h9))) ?_
 rintro _ w19 ⟨o18_1, o18_c1, o18_2, o18_c2, o18_3, o18_c3, o18_4, o18_c4, rfl, hn16, hb17⟩
 replace hM := hM.call hb17
 refine ⟨_, rfl, ?_⟩
 intro a hA
 refine seq_do hA rfl rfl rfl (does_move rfl) fun a hA => ?_
 refine seq_do (v := .agg #[.bool false, .slice o18_1 ((words F).length) o18_c1, .slice o18_2 1 o18_c2, .bool false, .slice o18_3 0 o18_c3, .slice o18_4 1 o18_c4]) hA rfl rfl rfl (does_extract (vs := [.agg #[.bool false, .slice o18_1 ((words F).length) o18_c1, .slice o18_2 1 o18_c2, .bool false, .slice o18_3 0 o18_c3, .slice o18_4 1 o18_c4], .int .i64 0]) rfl rfl) fun a hA => ?_
 refine seq_do (v := .int .i64 0) hA rfl rfl rfl (does_extract (vs := [.agg #[.bool false, .slice o18_1 ((words F).length) o18_c1, .slice o18_2 1 o18_c2, .bool false, .slice o18_3 0 o18_c3, .slice o18_4 1 o18_c4], .int .i64 0]) rfl rfl) fun a hA => ?_
 refine s_newN (vs := [.bool false, .slice none 0 0, .slice none 0 0, .bool false, .slice none 0 0, .slice none 0 0]) (t := 27) hA hM rfl rfl rfl (fun g => .pointer (some ⟨g, 0, none⟩)) (does_alloc (z := .agg #[.bool false, .slice none 0 0, .slice none 0 0, .bool false, .slice none 0 0, .slice none 0 0]) (by kernel_rfl) rfl) (by decide) ?_
 intro g20 w21 hM hc22 a hA
 replace hn16 := nm_carry hn16 hc22
 refine s_storeN (us := [.bool false, .slice o18_1 ((words F).length) o18_c1, .slice o18_2 1 o18_c2, .bool false, .slice o18_3 0 o18_c3, .slice o18_4 1 o18_c4]) (L' := (.obj g20 (.cells #[.bool false, .slice o18_1 ((words F).length) o18_c1, .slice o18_2 1 o18_c2, .bool false, .slice o18_3 0 o18_c3, .slice o18_4 1 o18_c4] 27) :: .obj g4 (.cells #[.bool false, .slice o1 ((words x).length) c1, .slice o2 1 c2, .bool false, .slice o3 0 c3, .slice o4 1 c4] 27) :: .obj g2 (.cells #[.int .i64 (((n : Nat) : Int)), .bool bg, .bool false] 43) :: [])) hA hM rfl rfl (m_store rfl rfl rfl (by kernel_rfl) hM 0 rfl rfl rfl) 0 rfl rfl rfl rfl rfl rfl ?_
 intro w23 hM hc24
 replace hn16 := nm_carry hn16 hc24
 refine seq_do hA rfl rfl rfl (does_assign rfl) fun a hA => ?_
 refine seq_end ?_
 refine hK15 _ _ ?_
 refine wp_seq_k (fun K25 hK25 => ?_)
 refine wp_region_lit ?_
 refine seq_do (v := .pointer (some ⟨g2, 0, none⟩)) hA rfl rfl rfl (does_field ByP_fld_43_0 rfl rfl) fun a hA => ?_
 refine seq_do hA rfl rfl rfl (m_load1 hM ByP_is1_3 rfl 2 rfl rfl) fun a hA => ?_
 refine s_makeN (z := .int .u8 0) (sz := 1) (by_ := 1) (m := n) hA hM Tryz.underlying22 (by kernel_rfl) rfl rfl rfl rfl rfl rfl (by omega) (by omega) (.inr (noBld_cons (by simp) (noBld_cons (by simp) (noBld_cons (by simp) (noBld_quiet quietL_nil))))) ?_
 intro gx w26 hM hc27 a hA
 replace hn16 := nm_carry hn16 hc27
 rw [lbI_made n F] at hM
 refine seq_do hA rfl rfl rfl (does_assign rfl) fun a hA => ?_
 refine seq_end ?_
 refine hK25 _ _ ?_
 refine wp_seq_k (fun K28 hK28 => ?_)
 refine wp_seq_k (fun K29 hK29 => ?_)
 refine wp_region_lit ?_
 refine seq_do (v := .pointer (some ⟨g2, 0, none⟩)) hA rfl rfl rfl (does_field ByP_fld_43_0 rfl rfl) fun a hA => ?_
 refine seq_do hA rfl rfl rfl (m_load1 hM ByP_is1_3 rfl 3 rfl rfl) fun a hA => ?_
 refine seq_do (v := .pointer (some ⟨g20, 0, none⟩)) hA rfl rfl rfl (does_field ByP_fld_27_0 rfl rfl) fun a hA => ?_
 refine seq_do (v := .pointer (some ⟨g20, 1, none⟩)) hA rfl rfl rfl (does_field ByP_fld_25_1 rfl rfl) fun a hA => ?_
 refine seq_do hA rfl rfl rfl (m_load1 hM ByP_is1_23 rfl 1 rfl rfl) fun a hA => ?_
 refine seq_do (v := .int .i64 ((((words F).length : Nat) : Int))) hA rfl rfl rfl (does_len Tryz.underlying23 rfl) fun a hA => ?_
 refine seq_do (v := .int .i64 ((((words F).length * 4 : Nat) : Int))) hA rfl rfl rfl (does_bin rfl rfl (ar_mul ((in_i64 (by omega) (by omega)).trans (by omega)))) fun a hA => ?_
 refine seq_do (v := .int .i64 (((min n ((words F).length * 4) : Nat) : Int))) hA rfl rfl rfl (does_builtin rfl min_nat) fun a hA => ?_
 refine seq_do hA rfl rfl rfl (does_move rfl) fun a hA => ?_
 refine seq_end ?_
 refine hK29 _ _ ?_
 refine wp_block ?_
 refine wp_loop_n (fun m_ a w1 => ∃ (i : Nat), m_ = n - i ∧ (i ≤ min n ((words F).length * 4) ∧ Rd w1 o18_1 (words F)) ∧ Sl a 75 [(0, .agg #[.int .i64 (((n : Nat) : Int)), .bool bg, .bool false]), (1, .agg #[.bool false, .slice o1 ((words x).length) c1, .slice o2 1 c2, .bool false, .slice o3 0 c3, .slice o4 1 c4]), (2, .pointer (some ⟨g2, 0, none⟩)), (3, .pointer (some ⟨g4, 0, none⟩)), (4, .slice none 0 0), (5, .int .i64 0), (6, .int .i64 (((ln : Nat) : Int))), (7, .int .i64 0), (8, .pointer (some ⟨g20, 0, none⟩)), (9, .int .i64 0), (10, .slice (some ⟨gx, 0, none⟩) n n), (12, .tuple #[.int .i64 (((ln : Nat) : Int)), .int .i64 0]), (13, .agg #[.bool false, .slice o1 ((words x).length) c1, .slice o2 1 c2, .bool false, .slice o3 0 c3, .slice o4 1 c4]), (14, .tuple #[.int .i64 (((ln : Nat) : Int)), .int .i64 0]), (15, .int .i64 (((ln : Nat) : Int))), (16, .int .i64 0), (17, .int .i64 0), (18, .bool false), (20, .pointer (some ⟨g4, 0, none⟩)), (21, .pointer (some ⟨g4, 0, none⟩)), (22, .bool false), (23, .bool false), (27, .bool false), (28, .bool false), (29, .int .i64 (((ln : Nat) : Int))), (30, .agg #[.int .i64 (((n : Nat) : Int)), .bool bg, .bool false]), (31, .int .i64 (((n * 8 : Nat) : Int))), (32, .bool false), (33, .bool false), (34, .tuple #[.agg #[.bool false, .slice o18_1 ((words F).length) o18_c1, .slice o18_2 1 o18_c2, .bool false, .slice o18_3 0 o18_c3, .slice o18_4 1 o18_c4], .int .i64 0]), (35, .agg #[.bool false, .slice o1 ((words x).length) c1, .slice o2 1 c2, .bool false, .slice o3 0 c3, .slice o4 1 c4]), (36, .pointer (some ⟨g2, 0, none⟩)), (37, .int .i64 (((n : Nat) : Int))), (38, .int .i64 (((n * 8 : Nat) : Int))), (39, .tuple #[.agg #[.bool false, .slice o18_1 ((words F).length) o18_c1, .slice o18_2 1 o18_c2, .bool false, .slice o18_3 0 o18_c3, .slice o18_4 1 o18_c4], .int .i64 0]), (40, .agg #[.bool false, .slice o18_1 ((words F).length) o18_c1, .slice o18_2 1 o18_c2, .bool false, .slice o18_3 0 o18_c3, .slice o18_4 1 o18_c4]), (41, .int .i64 0), (42, .pointer (some ⟨g2, 0, none⟩)), (43, .int .i64 (((n : Nat) : Int))), (44, .slice (some ⟨gx, 0, none⟩) n n), (45, .pointer (some ⟨g2, 0, none⟩)), (46, .int .i64 (((n : Nat) : Int))), (47, .pointer (some ⟨g20, 0, none⟩)), (48, .pointer (some ⟨g20, 1, none⟩)), (49, .slice o18_1 ((words F).length) o18_c1), (50, .int .i64 ((((words F).length : Nat) : Int))), (51, .int .i64 ((((words F).length * 4 : Nat) : Int))), (52, .int .i64 (((min n ((words F).length * 4) : Nat) : Int))), (53, .int .i64 (((i : Nat) : Int)))] ∧ Mg w w1 (.row BY 1 (.slice (some ⟨gx, 0, none⟩) n n) n ((Lib.byteCells (lbI n F i))) :: .obj g20 (.cells #[.bool false, .slice o18_1 ((words F).length) o18_c1, .slice o18_2 1 o18_c2, .bool false, .slice o18_3 0 o18_c3, .slice o18_4 1 o18_c4] 27) :: .obj g4 (.cells #[.bool false, .slice o1 ((words x).length) c1, .slice o2 1 c2, .bool false, .slice o3 0 c3, .slice o4 1 c4] 27) :: .obj g2 (.cells #[.int .i64 (((n : Nat) : Int)), .bool bg, .bool false] 43) :: [])) _ ⟨0, rfl, ⟨Nat.zero_le _, hn16.s1.rd⟩, hA.keep _ ⟨rfl, rfl, rfl, rfl, rfl, rfl, rfl, rfl, rfl, rfl, rfl, rfl, rfl, rfl, rfl, rfl, rfl, rfl, rfl, rfl, rfl, rfl, rfl, rfl, rfl, rfl, rfl, rfl, rfl, rfl, rfl, rfl, rfl, rfl, rfl, rfl, rfl, rfl, rfl, rfl, rfl, rfl, rfl, rfl, rfl, rfl, rfl, rfl, rfl, trivial⟩, hM⟩ ?_
 clear hM hA
 rintro m_ a w30 ⟨i, rfl, hinv32, hA, hM⟩ K31 hK31
 obtain ⟨hi9, hrdF⟩ := hinv32
 refine wp_seq_k (fun K33 hK33 => ?_)
 refine wp_region_lit ?_
 rcases Bool.eq_false_or_eq_true (decide (((i : Nat) : Int) < ((min n ((words F).length * 4) : Nat) : Int))) with hb34 | hb34
 ·
  have hb34' := of_decide_eq_true hb34
  refine seq_do (v := .bool true) hA rfl rfl rfl (does_bin rfl rfl (fun w => (bin_lss w).trans (by rw [hb34]))) fun a hA => ?_
  refine seq_end ?_
  refine hK33 _ _ ?_
  refine wp_seq_k (fun K35 hK35 => ?_)
  refine wp_cond_true (hA.ev rfl) ?_
  refine wp_skip ?_
  refine hK35 _ _ ?_
  refine wp_seq_k (fun K36 hK36 => ?_)
  refine wp_block ?_
  refine wp_seq_k (fun K37 hK37 => ?_)
  refine wp_region_lit ?_
  refine seq_do hA rfl rfl rfl (does_move rfl) fun a hA => ?_
  refine seq_do hA rfl rfl rfl (does_assign rfl) fun a hA => ?_
  refine seq_end ?_
  refine hK37 _ _ ?_
  refine wp_region_lit ?_
  refine seq_do hA rfl rfl rfl (does_move rfl) fun a hA => ?_
  refine seq_do hA rfl rfl rfl (does_move rfl) fun a hA => ?_
  refine seq_do (v := .pointer (some ⟨g20, 0, none⟩)) hA rfl rfl rfl (does_field ByP_fld_27_0 rfl rfl) fun a hA => ?_
  refine seq_do (v := .pointer (some ⟨g20, 1, none⟩)) hA rfl rfl rfl (does_field ByP_fld_25_1 rfl rfl) fun a hA => ?_
  refine seq_do hA rfl rfl rfl (m_load1 hM ByP_is1_23 rfl 1 rfl rfl) fun a hA => ?_
  refine seq_do hA rfl rfl rfl (does_move rfl) fun a hA => ?_
  refine seq_do (v := .int .i64 (((i / 4 : Nat) : Int))) hA rfl rfl rfl (does_bin rfl rfl (ar_quo (by decide) ((congrArg IntKind.i64.wrap (Int.tdiv_eq_ediv_of_nonneg (by omega))).trans ((in_i64 (by omega) (by omega)).trans (by omega))))) fun a hA => ?_
  have hj9 : i / 4 < (words F).length := by omega
  obtain ⟨bx38, ox39, hx40⟩ := hrdF.addr hj9
  refine seq_do (v := .pointer (some ⟨bx38, ox39 + i / 4, none⟩)) hA rfl rfl rfl (does_indexRow (k := i / 4) Tryz.underlying23 (by kernel_rfl) rfl rfl rfl hx40 hj9) fun a hA => ?_
  refine seq_do (v := .int .u32 ((((words F).getD (i / 4) 0 : Nat) : Int))) hA rfl rfl rfl (m_loadW (hrdF.at_ hx40 hj9) ByP_is1_57 rfl) fun a hA => ?_
  refine seq_do hA rfl rfl rfl (does_move rfl) fun a hA => ?_
  refine seq_do (v := .int .i64 (((i % 4 : Nat) : Int))) hA rfl rfl rfl (does_bin rfl rfl (ar_rem (by decide) ((Int.tmod_eq_emod_of_nonneg (by omega)).trans (by omega)))) fun a hA => ?_
  refine seq_do (v := .int .i64 (((i % 4 * 8 : Nat) : Int))) hA rfl rfl rfl (does_bin rfl rfl (ar_mul ((in_i64 (by omega) (by omega)).trans (by omega)))) fun a hA => ?_
  refine seq_do (v := .int .u32 ((((words F).getD (i / 4) 0 / 2 ^ (i % 4 * 8) : Nat) : Int))) hA rfl rfl rfl (does_bin rfl rfl (ar_shr (n := i % 4 * 8) rfl (Nat.ble_eq_true_of_le (show i % 4 * 8 ≤ 32 by omega)) (by rw [Int.natCast_ediv, Int.natCast_pow]; rfl))) fun a hA => ?_
  refine seq_do (v := .int .u8 (((F / 256 ^ i % 256 : Nat) : Int))) hA rfl rfl rfl (does_convert rfl (ar_conv Tryz.underlying57 Tryz.underlying5 (by rw [← wd_byte]; exact wrap8 _))) fun a hA => ?_
  refine seq_do (v := .pointer (some ⟨gx, (i) * 1, none⟩)) hA rfl rfl rfl (does_indexE Tryz.underlying22 (by kernel_rfl) rfl rfl rfl (show i < n by omega)) fun a hA => ?_
  refine s_storeEN (c := .int .u8 (((F / 256 ^ i % 256 : Nat) : Int))) (L' := (.row BY 1 (.slice (some ⟨gx, 0, none⟩) n n) n ((over (Lib.byteCells (lbI n F i)) ((i) * 1) [.int .u8 (((F / 256 ^ i % 256 : Nat) : Int))])) :: .obj g20 (.cells #[.bool false, .slice o18_1 ((words F).length) o18_c1, .slice o18_2 1 o18_c2, .bool false, .slice o18_3 0 o18_c3, .slice o18_4 1 o18_c4] 27) :: .obj g4 (.cells #[.bool false, .slice o1 ((words x).length) c1, .slice o2 1 c2, .bool false, .slice o3 0 c3, .slice o4 1 c4] 27) :: .obj g2 (.cells #[.int .i64 (((n : Nat) : Int)), .bool bg, .bool false] 43) :: [])) hA hM rfl rfl (m_storeE rfl rfl rfl (by kernel_rfl) hM 0 rfl (show (i) * 1 + 1 ≤ n * 1 by omega) rfl) 0 rfl (cells_get (l := lbI n F i) (i := i) (by rw [lbI_len]; omega)) rfl rfl ?_
  intro w41 hM hc42
  replace hrdF := hc42 _ _ hrdF
  replace hM : Mg w w41 (.row BY 1 (.slice (some ⟨gx, 0, none⟩) n n) n ((Lib.byteCells (lbI n F (i + 1)))) :: .obj g20 (.cells #[.bool false, .slice o18_1 ((words F).length) o18_c1, .slice o18_2 1 o18_c2, .bool false, .slice o18_3 0 o18_c3, .slice o18_4 1 o18_c4] 27) :: .obj g4 (.cells #[.bool false, .slice o1 ((words x).length) c1, .slice o2 1 c2, .bool false, .slice o3 0 c3, .slice o4 1 c4] 27) :: .obj g2 (.cells #[.int .i64 (((n : Nat) : Int)), .bool bg, .bool false] 43) :: []) := by
   have h9 := hM
   rw [lbI_step (by omega)] at h9
   exact h9
  refine seq_end ?_
  refine hK36 _ _ ?_
  refine wp_region_lit ?_
  refine seq_do (v := .int .i64 (((i + 1 : Nat) : Int))) hA rfl rfl rfl (does_bin rfl rfl (ar_add ((in_i64 (by omega) (by omega)).trans (by omega)))) fun a hA => ?_
  refine seq_do hA rfl rfl rfl (does_move rfl) fun a hA => ?_
  refine seq_end ?_
  refine hK31 _ _ _ (by omega) ⟨i + 1, rfl, ⟨by omega, hrdF⟩, hA.keep _ ⟨rfl, rfl, rfl, rfl, rfl, rfl, rfl, rfl, rfl, rfl, rfl, rfl, rfl, rfl, rfl, rfl, rfl, rfl, rfl, rfl, rfl, rfl, rfl, rfl, rfl, rfl, rfl, rfl, rfl, rfl, rfl, rfl, rfl, rfl, rfl, rfl, rfl, rfl, rfl, rfl, rfl, rfl, rfl, rfl, rfl, rfl, rfl, rfl, rfl, trivial⟩, hM⟩
 ·
  have hb34' := of_decide_eq_false hb34
  refine seq_do (v := .bool false) hA rfl rfl rfl (does_bin rfl rfl (fun w => (bin_lss w).trans (by rw [hb34]))) fun a hA => ?_
  refine seq_end ?_
  refine hK33 _ _ ?_
  refine wp_seq_k (fun K43 hK43 => ?_)
  refine wp_cond_false (hA.ev rfl) ?_
  refine wp_exit ?_
  refine hK28 _ _ ?_
  refine wp_seq_k (fun K44 hK44 => ?_)
  refine wp_region_lit ?_
  refine seq_do hA rfl rfl rfl (m_loadS hM ByP_isS_43 rfl 3 rfl (cs := [.int .i64 (((n : Nat) : Int)), .bool bg, .bool false]) rfl rfl) fun a hA => ?_
  refine seq_do hA rfl rfl rfl (does_move rfl) fun a hA => ?_
  have hi8 : i = min n ((words F).length * 4) := by omega
  have hd8 := lbI_done hi8
  replace hM : Mg w w30 (.row BY 1 (.slice (some ⟨gx, 0, none⟩) n n) n ((Lib.byteCells (leB n F))) :: .obj g20 (.cells #[.bool false, .slice o18_1 ((words F).length) o18_c1, .slice o18_2 1 o18_c2, .bool false, .slice o18_3 0 o18_c3, .slice o18_4 1 o18_c4] 27) :: .obj g4 (.cells #[.bool false, .slice o1 ((words x).length) c1, .slice o2 1 c2, .bool false, .slice o3 0 c3, .slice o4 1 c4] 27) :: .obj g2 (.cells #[.int .i64 (((n : Nat) : Int)), .bool bg, .bool false] 43) :: []) := by
   have h9 := hM
   rw [hd8] at h9
   exact h9
  refine seq_call hA rfl rfl rfl (enters_func rfl rfl (fun w => by kernel_rfl)) ((by have h9 := reordered_any bg (w := w30) (sg := false) (cp := n) (rb_row (bs := leB n F) hM 0 rfl).1 (by rw [leB_len]; omega); rw [leB_len] at h9; exact h9)) ?_
  rintro _ w47 ⟨g45, rfl, hM46⟩
  replace hM : Mg w w47 (.row BY 1 (.slice (some ⟨g45, 0, none⟩) n n) n ((Lib.byteCells (lowB bg (leB n F)))) :: .row BY 1 (.slice (some ⟨gx, 0, none⟩) n n) n ((Lib.byteCells (leB n F))) :: .obj g20 (.cells #[.bool false, .slice o18_1 ((words F).length) o18_c1, .slice o18_2 1 o18_c2, .bool false, .slice o18_3 0 o18_c3, .slice o18_4 1 o18_c4] 27) :: .obj g4 (.cells #[.bool false, .slice o1 ((words x).length) c1, .slice o2 1 c2, .bool false, .slice o3 0 c3, .slice o4 1 c4] 27) :: .obj g2 (.cells #[.int .i64 (((n : Nat) : Int)), .bool bg, .bool false] 43) :: []) := (hM.both hM46 (noBld_cons (by simp) (noBld_cons (by simp) (noBld_cons (by simp) (noBld_cons (by simp) (noBld_quiet quietL_nil))))) (noBld_cons (by simp) (noBld_quiet quietL_nil)))
  refine ⟨_, rfl, ?_⟩
  intro a hA
  refine seq_do hA rfl rfl rfl (does_assign rfl) fun a hA => ?_
  refine seq_do hA rfl rfl rfl (does_assign rfl) fun a hA => ?_
  refine seq_end ?_
  refine hK44 _ _ ?_
  refine wp_ret ?_
  refine hret _ _ ?_
  refine ends (v := .tuple #[.slice (some ⟨g45, 0, none⟩) n n, .int .i64 0]) hA rfl (.cons (res_tmp rfl) (.cons (res_tmp rfl) .nil)) rfl ?_
  exact ⟨g45, rfl, hM.sub (.cons_cons _ (.cons _ (.cons _ (.cons _ (.cons _ (.refl _))))))⟩
end Go.Proofs.YtbajcflbimmnhaaGreatDoor.G
namespace Go.Proofs.YtbajcflbimmnhaaGreatDoor.G
open Go.RowKit
set_option linter.unusedVariables false
set_option linter.unusedSimpArgs false
set_option maxRecDepth 100000
theorem ByQ_is1_4 : Is1 Tryz.prog 4 := ⟨⟨_, Tryz.underlying4, rfl⟩, by kernel_rfl⟩
theorem ByQ_fld_25_0 : FieldAt Tryz.prog 25 0 0 := ⟨_, _, Tryz.underlying25, rfl, rfl, by kernel_rfl⟩
theorem ByQ_fld_27_0 : FieldAt Tryz.prog 27 0 0 := ⟨_, _, Tryz.underlying27, rfl, rfl, by kernel_rfl⟩
theorem ByQ_fld_43_2 : FieldAt Tryz.prog 43 2 2 := ⟨_, _, Tryz.underlying43, rfl, rfl, by kernel_rfl⟩
theorem ByQ_isS_27 : IsS Tryz.prog 27 6 := ⟨⟨_, Tryz.underlying27⟩, by kernel_rfl⟩
theorem ByQ_isS_43 : IsS Tryz.prog 43 3 := ⟨⟨_, Tryz.underlying43⟩, by kernel_rfl⟩
def roomN (n : Nat) (sg : Bool) : Nat := if sg = true then n * 8 - 1 else n * 8
theorem laid_all {w : World} {b : Bool} {x n : Nat} {o1 o2 o3 o4 : Option Addr} {c1 c2 c3 c4 : Nat} (ha : Nm w (Q6.whole b x) o1 c1 o2 c2 o3 c3 o4 c4) (hx : (words x).length ≤ 512) (hbx : b.toNat ≤ x) (h1 : 1 ≤ n) (h64 : n ≤ 64) (bg sg : Bool) {F ln : Nat} (hF : fld b (x - b.toNat) 0 (n * 8) = F) (hln : bl (x - b.toNat) = ln) (hroom : ln ≤ roomN n sg) (hneg : b = true → sg = true) : Calls Tryz.prog 18 #[.agg #[.int .i64 ((n : Nat) : Int), .bool bg, .bool sg], numV (Q6.whole b x) o1 c1 o2 c2 o3 c3 o4 c4] w fun e w' => ∃ g, e = .returned (.tuple #[.slice (some ⟨g, 0, none⟩) n n, .int .i64 0]) ∧ Mg w w' [.row BY 1 (.slice (some ⟨g, 0, none⟩) n n) n (Lib.byteCells (lowB bg (leB n F)))] := by
 cases sg
 ·
  have hb0 : b = false := by cases b; rfl; exact absurd (hneg rfl) (by decide)
  exact laid_bg_false ha hx hbx h1 h64 bg hF hln hroom hb0
 ·
  exact laid_bg_true ha hx hbx h1 h64 bg hF hln hroom
theorem laid_err {w : World} {q : Q6} {n : Nat} {bg sg : Bool} {o1 o2 o3 o4 : Option Addr} {c1 c2 c3 c4 : Nat} (ha : Nm w q o1 c1 o2 c2 o3 c3 o4 c4) (hl : LenQ q) (hw : (want1 q != 0) = true) : Calls Tryz.prog 18 #[.agg #[.int .i64 ((n : Nat) : Int), .bool bg, .bool sg], numV q o1 c1 o2 c2 o3 c3 o4 c4] w fun e w' => e = .returned (.tuple #[.slice none 0 0, .int .i64 (want1 q)]) ∧ Below w.heap.size w w' := by
 have e9 : (lengthQ q).2 = want1 q := by unfold lengthQ; rw [if_neg (bne_iff_ne.1 hw)]
 have hM : Mg w w ([]) := Mg.start w
 refine walk_of (l := [(0, .agg #[.int .i64 (((n : Nat) : Int)), .bool bg, .bool sg]), (1, .agg #[.bool q.b1, .slice o1 q.t1.length c1, .slice o2 q.q1.length c2, .bool q.b2, .slice o3 q.t2.length c3, .slice o4 q.q2.length c4])]) Tryz.func18 rfl Tryz.ntmps18 rfl rfl ?_
 intro Q hret hnorm hP a hA
 refine wp_seq_k (fun K1 hK1 => ?_)
 refine wp_region_lit ?_
 refine s_new (vs := [.int .i64 (((n : Nat) : Int)), .bool bg, .bool sg]) (t := 43) hA hM rfl rfl rfl (fun g => .pointer (some ⟨g, 0, none⟩)) (does_box rfl rfl) (by decide) ?_
 intro g2 w3 hM a hA
 refine s_new (vs := [.bool q.b1, .slice o1 q.t1.length c1, .slice o2 q.q1.length c2, .bool q.b2, .slice o3 q.t2.length c3, .slice o4 q.q2.length c4]) (t := 27) hA hM rfl rfl rfl (fun g => .pointer (some ⟨g, 0, none⟩)) (does_box rfl rfl) (by decide) ?_
 intro g4 w5 hM a hA
 refine seq_do hA rfl rfl rfl (does_assign rfl) fun a hA => ?_
 refine seq_do hA rfl rfl rfl (does_assign rfl) fun a hA => ?_
 refine seq_end ?_
 refine hK1 _ _ ?_
 refine wp_seq_k (fun K6 hK6 => ?_)
 refine wp_region_lit ?_
 refine seq_do hA rfl rfl rfl (m_loadS hM ByQ_isS_27 rfl 0 rfl (cs := [.bool q.b1, .slice o1 q.t1.length c1, .slice o2 q.q1.length c2, .bool q.b2, .slice o3 q.t2.length c3, .slice o4 q.q2.length c4]) rfl rfl) fun a hA => ?_
 refine seq_call hA rfl rfl rfl (enters_func rfl rfl (fun w => by kernel_rfl)) (lengthPE_any (nm_below ha hM.bel) hl hw) ?_
 rintro _ w8 ⟨rfl, hb7⟩
 replace hM := hM.call hb7
 refine ⟨_, rfl, ?_⟩
 intro a hA
 refine seq_do hA rfl rfl rfl (does_move rfl) fun a hA => ?_
 refine seq_do (v := .int .i64 ((lengthQ q).1)) hA rfl rfl rfl (does_extract (vs := [.int .i64 ((lengthQ q).1), .int .i64 ((lengthQ q).2)]) rfl rfl) fun a hA => ?_
 refine seq_do (v := .int .i64 ((lengthQ q).2)) hA rfl rfl rfl (does_extract (vs := [.int .i64 ((lengthQ q).1), .int .i64 ((lengthQ q).2)]) rfl rfl) fun a hA => ?_
 refine seq_do hA rfl rfl rfl (does_assign rfl) fun a hA => ?_
 refine seq_do hA rfl rfl rfl (does_assign rfl) fun a hA => ?_
 refine seq_end ?_
 refine hK6 _ _ ?_
 refine wp_seq_k (fun K9 hK9 => ?_)
 refine wp_seq_k (fun K10 hK10 => ?_)
 refine wp_region_lit ?_
 refine seq_do hA rfl rfl rfl (does_move rfl) fun a hA => ?_
 refine seq_do (v := .bool true) hA rfl rfl rfl (does_bin rfl rfl (fun w => (bin_neq w).trans (by rw [show (((lengthQ q).2 != 0)) = true from (by rw [e9]; exact hw)]))) fun a hA => ?_
 refine seq_end ?_
 refine hK10 _ _ ?_
 refine wp_cond_true (hA.ev rfl) ?_
 refine wp_seq_k (fun K11 hK11 => ?_)
 refine wp_region_lit ?_
 refine seq_do hA rfl rfl rfl (does_move rfl) fun a hA => ?_
 refine seq_do hA rfl rfl rfl (does_assign rfl) fun a hA => ?_
 refine seq_do hA rfl rfl rfl (does_assign rfl) fun a hA => ?_
 refine seq_end ?_
 refine hK11 _ _ ?_
 refine wp_ret ?_
 refine hret _ _ ?_
 refine ends (v := .tuple #[.slice none 0 0, .int .i64 ((lengthQ q).2)]) hA rfl (.cons (res_tmp rfl) (.cons (res_tmp rfl) .nil)) rfl ?_
 rw [← e9]
 exact ⟨rfl, hM.bel⟩
theorem laid_large_true {w : World} {b : Bool} {x n : Nat} {o1 o2 o3 o4 : Option Addr} {c1 c2 c3 c4 : Nat} (ha : Nm w (Q6.whole b x) o1 c1 o2 c2 o3 c3 o4 c4) (hx : (words x).length ≤ 512) (hbx : b.toNat ≤ x) (h1 : 1 ≤ n) (h64 : n ≤ 64) {bg : Bool} {ln : Nat} (hln : bl (x - b.toNat) = ln) (hroom : n * 8 - 1 < ln) : Calls Tryz.prog 18 #[.agg #[.int .i64 ((n : Nat) : Int), .bool bg, .bool true], numV (Q6.whole b x) o1 c1 o2 c2 o3 c3 o4 c4] w fun e w' => e = .returned (.tuple #[.slice none 0 0, .int .i64 4]) ∧ Below w.heap.size w w' := by
 have hw := want_ok hx hbx
 have hM : Mg w w ([]) := Mg.start w
 refine walk_of (l := [(0, .agg #[.int .i64 (((n : Nat) : Int)), .bool bg, .bool true]), (1, .agg #[.bool b, .slice o1 ((words x).length) c1, .slice o2 1 c2, .bool false, .slice o3 0 c3, .slice o4 1 c4])]) Tryz.func18 rfl Tryz.ntmps18 rfl rfl ?_
 intro Q hret hnorm hP a hA
 refine wp_seq_k (fun K1 hK1 => ?_)
 refine wp_region_lit ?_
 refine s_new (vs := [.int .i64 (((n : Nat) : Int)), .bool bg, .bool true]) (t := 43) hA hM rfl rfl rfl (fun g => .pointer (some ⟨g, 0, none⟩)) (does_box rfl rfl) (by decide) ?_
 intro g2 w3 hM a hA
 refine s_new (vs := [.bool b, .slice o1 ((words x).length) c1, .slice o2 1 c2, .bool false, .slice o3 0 c3, .slice o4 1 c4]) (t := 27) hA hM rfl rfl rfl (fun g => .pointer (some ⟨g, 0, none⟩)) (does_box rfl rfl) (by decide) ?_
 intro g4 w5 hM a hA
 refine seq_do hA rfl rfl rfl (does_assign rfl) fun a hA => ?_
 refine seq_do hA rfl rfl rfl (does_assign rfl) fun a hA => ?_
 refine seq_end ?_
 refine hK1 _ _ ?_
 refine wp_seq_k (fun K6 hK6 => ?_)
 refine wp_region_lit ?_
 refine seq_do hA rfl rfl rfl (m_loadS hM ByQ_isS_27 rfl 0 rfl (cs := [.bool b, .slice o1 ((words x).length) c1, .slice o2 1 c2, .bool false, .slice o3 0 c3, .slice o4 1 c4]) rfl rfl) fun a hA => ?_
 refine seq_call hA rfl rfl rfl (enters_func rfl rfl (fun w => by kernel_rfl)) ((by have h9 := lengthPW_any (w := w5) (nm_below ha hM.bel) (lenQ_whole hx) hw hx hbx; rw [lengthQ_whole hw, hln] at h9; exact h9)) ?_
 rintro _ w8 ⟨rfl, hb7⟩
 replace hM := hM.call hb7
 refine ⟨_, rfl, ?_⟩
 intro a hA
 refine seq_do hA rfl rfl rfl (does_move rfl) fun a hA => ?_
 refine seq_do (v := .int .i64 (((ln : Nat) : Int))) hA rfl rfl rfl (does_extract (vs := [.int .i64 (((ln : Nat) : Int)), .int .i64 0]) rfl rfl) fun a hA => ?_
 refine seq_do (v := .int .i64 0) hA rfl rfl rfl (does_extract (vs := [.int .i64 (((ln : Nat) : Int)), .int .i64 0]) rfl rfl) fun a hA => ?_
 refine seq_do hA rfl rfl rfl (does_assign rfl) fun a hA => ?_
 refine seq_do hA rfl rfl rfl (does_assign rfl) fun a hA => ?_
 refine seq_end ?_
 refine hK6 _ _ ?_
 refine wp_seq_k (fun K9 hK9 => ?_)
 refine wp_seq_k (fun K10 hK10 => ?_)
 refine wp_region_lit ?_
 refine seq_do hA rfl rfl rfl (does_move rfl) fun a hA => ?_
 refine seq_do (v := .bool false) hA rfl rfl rfl (does_bin rfl rfl (fun w => by kernel_rfl)) fun a hA => ?_
 refine seq_end ?_
 refine hK10 _ _ ?_
 refine wp_cond_false (hA.ev rfl) ?_
 refine wp_skip ?_
 refine hK9 _ _ ?_
 refine wp_seq_k (fun K11 hK11 => ?_)
 refine wp_seq_k (fun K12 hK12 => ?_)
 refine wp_region_lit ?_
 refine seq_do (v := .pointer (some ⟨g4, 0, none⟩)) hA rfl rfl rfl (does_field ByQ_fld_27_0 rfl rfl) fun a hA => ?_
 refine seq_do (v := .pointer (some ⟨g4, 0, none⟩)) hA rfl rfl rfl (does_field ByQ_fld_25_0 rfl rfl) fun a hA => ?_
 refine seq_do hA rfl rfl rfl (m_load1 hM ByQ_is1_4 rfl 0 rfl rfl) fun a hA => ?_
 refine seq_do hA rfl rfl rfl (does_move rfl) fun a hA => ?_
 rcases b with _ | _
 ·
  refine seq_skip hA rfl rfl rfl fun a hA => ?_
  refine seq_skip hA rfl rfl rfl fun a hA => ?_
  refine seq_skip hA rfl rfl rfl fun a hA => ?_
  refine seq_do (v := .bool false) hA rfl rfl rfl (does_pick rfl rfl rfl rfl) fun a hA => ?_
  refine seq_do hA rfl rfl rfl (does_move rfl) fun a hA => ?_
  refine seq_do hA rfl rfl rfl (does_move rfl) fun a hA => ?_
  refine seq_do hA rfl rfl rfl (m_loadS hM ByQ_isS_43 rfl 1 rfl (cs := [.int .i64 (((n : Nat) : Int)), .bool bg, .bool true]) rfl rfl) fun a hA => ?_
  refine seq_call hA rfl rfl rfl (enters_func rfl rfl (fun w => by kernel_rfl)) (room_true h1 h64) ?_
  rintro _ w14 ⟨rfl, hb13⟩
  replace hM := hM.call hb13
  refine ⟨_, rfl, ?_⟩
  intro a hA
  refine seq_do (v := .bool true) hA rfl rfl rfl (does_bin rfl rfl (fun w => (bin_gtr w).trans (by rw [show (decide (((n * 8 - 1 : Nat) : Int) < ((ln : Nat) : Int))) = true from (decide_eq_true (by first | omega | (rcases hroom with h9 | h9; omega; cases h9)))]))) fun a hA => ?_
  refine seq_do (v := .bool true) hA rfl rfl rfl (does_pick rfl rfl rfl rfl) fun a hA => ?_
  refine seq_end ?_
  refine hK12 _ _ ?_
  refine wp_cond_true (hA.ev rfl) ?_
  refine wp_seq_k (fun K15 hK15 => ?_)
  refine wp_region_lit ?_
  refine seq_do hA rfl rfl rfl (does_assign rfl) fun a hA => ?_
  refine seq_do hA rfl rfl rfl (does_assign rfl) fun a hA => ?_
  refine seq_end ?_
  refine hK15 _ _ ?_
  refine wp_ret ?_
  refine hret _ _ ?_
  refine ends (v := .tuple #[.slice none 0 0, .int .i64 4]) hA rfl (.cons (res_tmp rfl) (.cons (res_tmp rfl) .nil)) rfl ?_
  exact ⟨rfl, hM.bel⟩
 ·
  refine seq_do (v := .pointer (some ⟨g2, 2, none⟩)) hA rfl rfl rfl (does_field ByQ_fld_43_2 rfl rfl) fun a hA => ?_
  refine seq_do hA rfl rfl rfl (m_load1 hM ByQ_is1_4 rfl 1 rfl rfl) fun a hA => ?_
  refine seq_do (v := .bool false) hA rfl rfl rfl (does_un rfl un_not) fun a hA => ?_
  refine seq_do (v := .bool false) hA rfl rfl rfl (does_pick rfl rfl rfl rfl) fun a hA => ?_
  refine seq_do hA rfl rfl rfl (does_move rfl) fun a hA => ?_
  refine seq_do hA rfl rfl rfl (does_move rfl) fun a hA => ?_
  refine seq_do hA rfl rfl rfl (m_loadS hM ByQ_isS_43 rfl 1 rfl (cs := [.int .i64 (((n : Nat) : Int)), .bool bg, .bool true]) rfl rfl) fun a hA => ?_
  refine seq_call hA rfl rfl rfl (enters_func rfl rfl (fun w => by kernel_rfl)) (room_true h1 h64) ?_
  rintro _ w17 ⟨rfl, hb16⟩
  replace hM := hM.call hb16
  refine ⟨_, rfl, ?_⟩
  intro a hA
  refine seq_do (v := .bool true) hA rfl rfl rfl (does_bin rfl rfl (fun w => (bin_gtr w).trans (by rw [show (decide (((n * 8 - 1 : Nat) : Int) < ((ln : Nat) : Int))) = true from (decide_eq_true (by first | omega | (rcases hroom with h9 | h9; omega; cases h9)))]))) fun a hA => ?_
  refine seq_do (v := .bool true) hA rfl rfl rfl (does_pick rfl rfl rfl rfl) fun a hA => ?_
  refine seq_end ?_
  refine hK12 _ _ ?_
  refine wp_cond_true (hA.ev rfl) ?_
  refine wp_seq_k (fun K18 hK18 => ?_)
  refine wp_region_lit ?_
  refine seq_do hA rfl rfl rfl (does_assign rfl) fun a hA => ?_
  refine seq_do hA rfl rfl rfl (does_assign rfl) fun a hA => ?_
  refine seq_end ?_
  refine hK18 _ _ ?_
  refine wp_ret ?_
  refine hret _ _ ?_
  refine ends (v := .tuple #[.slice none 0 0, .int .i64 4]) hA rfl (.cons (res_tmp rfl) (.cons (res_tmp rfl) .nil)) rfl ?_
  exact ⟨rfl, hM.bel⟩
theorem laid_large_false {w : World} {b : Bool} {x n : Nat} {o1 o2 o3 o4 : Option Addr} {c1 c2 c3 c4 : Nat} (ha : Nm w (Q6.whole b x) o1 c1 o2 c2 o3 c3 o4 c4) (hx : (words x).length ≤ 512) (hbx : b.toNat ≤ x) (h1 : 1 ≤ n) (h64 : n ≤ 64) {bg : Bool} {ln : Nat} (hln : bl (x - b.toNat) = ln) (hroom : n * 8 < ln ∨ b = true) : Calls Tryz.prog 18 #[.agg #[.int .i64 ((n : Nat) : Int), .bool bg, .bool false], numV (Q6.whole b x) o1 c1 o2 c2 o3 c3 o4 c4] w fun e w' => e = .returned (.tuple #[.slice none 0 0, .int .i64 4]) ∧ Below w.heap.size w w' := by
 have hw := want_ok hx hbx
 have hM : Mg w w ([]) := Mg.start w
 refine walk_of (l := [(0, .agg #[.int .i64 (((n : Nat) : Int)), .bool bg, .bool false]), (1, .agg #[.bool b, .slice o1 ((words x).length) c1, .slice o2 1 c2, .bool false, .slice o3 0 c3, .slice o4 1 c4])]) Tryz.func18 rfl Tryz.ntmps18 rfl rfl ?_
 intro Q hret hnorm hP a hA
 refine wp_seq_k (fun K1 hK1 => ?_)
 refine wp_region_lit ?_
 refine s_new (vs := [.int .i64 (((n : Nat) : Int)), .bool bg, .bool false]) (t := 43) hA hM rfl rfl rfl (fun g => .pointer (some ⟨g, 0, none⟩)) (does_box rfl rfl) (by decide) ?_
 intro g2 w3 hM a hA
 refine s_new (vs := [.bool b, .slice o1 ((words x).length) c1, .slice o2 1 c2, .bool false, .slice o3 0 c3, .slice o4 1 c4]) (t := 27) hA hM rfl rfl rfl (fun g => .pointer (some ⟨g, 0, none⟩)) (does_box rfl rfl) (by decide) ?_
 intro g4 w5 hM a hA
 refine seq_do hA rfl rfl rfl (does_assign rfl) fun a hA => ?_
 refine seq_do hA rfl rfl rfl (does_assign rfl) fun a hA => ?_
 refine seq_end ?_
 refine hK1 _ _ ?_
 refine wp_seq_k (fun K6 hK6 => ?_)
 refine wp_region_lit ?_
 refine seq_do hA rfl rfl rfl (m_loadS hM ByQ_isS_27 rfl 0 rfl (cs := [.bool b, .slice o1 ((words x).length) c1, .slice o2 1 c2, .bool false, .slice o3 0 c3, .slice o4 1 c4]) rfl rfl) fun a hA => ?_
 refine seq_call hA rfl rfl rfl (enters_func rfl rfl (fun w => by kernel_rfl)) ((by have h9 := lengthPW_any (w := w5) (nm_below ha hM.bel) (lenQ_whole hx) hw hx hbx; rw [lengthQ_whole hw, hln] at h9; exact h9)) ?_
 rintro _ w8 ⟨rfl, hb7⟩
 replace hM := hM.call hb7
 refine ⟨_, rfl, ?_⟩
 intro a hA
 refine seq_do hA rfl rfl rfl (does_move rfl) fun a hA => ?_
 refine seq_do (v := .int .i64 (((ln : Nat) : Int))) hA rfl rfl rfl (does_extract (vs := [.int .i64 (((ln : Nat) : Int)), .int .i64 0]) rfl rfl) fun a hA => ?_
 refine seq_do (v := .int .i64 0) hA rfl rfl rfl (does_extract (vs := [.int .i64 (((ln : Nat) : Int)), .int .i64 0]) rfl rfl) fun a hA => ?_
 refine seq_do hA rfl rfl rfl (does_assign rfl) fun a hA => ?_
 refine seq_do hA rfl rfl rfl (does_assign rfl) fun a hA => ?_
 refine seq_end ?_
 refine hK6 _ _ ?_
 refine wp_seq_k (fun K9 hK9 => ?_)
 refine wp_seq_k (fun K10 hK10 => ?_)
 refine wp_region_lit ?_
 refine seq_do hA rfl rfl rfl (does_move rfl) fun a hA => ?_
 refine seq_do (v := .bool false) hA rfl rfl rfl (does_bin rfl rfl (fun w => by kernel_rfl)) fun a hA => ?_
 refine seq_end ?_
 refine hK10 _ _ ?_
 refine wp_cond_false (hA.ev rfl) ?_
 refine wp_skip ?_
 refine hK9 _ _ ?_
 refine wp_seq_k (fun K11 hK11 => ?_)
 refine wp_seq_k (fun K12 hK12 => ?_)
 refine wp_region_lit ?_
 refine seq_do (v := .pointer (some ⟨g4, 0, none⟩)) hA rfl rfl rfl (does_field ByQ_fld_27_0 rfl rfl) fun a hA => ?_
 refine seq_do (v := .pointer (some ⟨g4, 0, none⟩)) hA rfl rfl rfl (does_field ByQ_fld_25_0 rfl rfl) fun a hA => ?_
 refine seq_do hA rfl rfl rfl (m_load1 hM ByQ_is1_4 rfl 0 rfl rfl) fun a hA => ?_
 refine seq_do hA rfl rfl rfl (does_move rfl) fun a hA => ?_
 rcases b with _ | _
 ·
  refine seq_skip hA rfl rfl rfl fun a hA => ?_
  refine seq_skip hA rfl rfl rfl fun a hA => ?_
  refine seq_skip hA rfl rfl rfl fun a hA => ?_
  refine seq_do (v := .bool false) hA rfl rfl rfl (does_pick rfl rfl rfl rfl) fun a hA => ?_
  refine seq_do hA rfl rfl rfl (does_move rfl) fun a hA => ?_
  refine seq_do hA rfl rfl rfl (does_move rfl) fun a hA => ?_
  refine seq_do hA rfl rfl rfl (m_loadS hM ByQ_isS_43 rfl 1 rfl (cs := [.int .i64 (((n : Nat) : Int)), .bool bg, .bool false]) rfl rfl) fun a hA => ?_
  refine seq_call hA rfl rfl rfl (enters_func rfl rfl (fun w => by kernel_rfl)) (room_false h1 h64) ?_
  rintro _ w14 ⟨rfl, hb13⟩
  replace hM := hM.call hb13
  refine ⟨_, rfl, ?_⟩
  intro a hA
  refine seq_do (v := .bool true) hA rfl rfl rfl (does_bin rfl rfl (fun w => (bin_gtr w).trans (by rw [show (decide (((n * 8 : Nat) : Int) < ((ln : Nat) : Int))) = true from (decide_eq_true (by first | omega | (rcases hroom with h9 | h9; omega; cases h9)))]))) fun a hA => ?_
  refine seq_do (v := .bool true) hA rfl rfl rfl (does_pick rfl rfl rfl rfl) fun a hA => ?_
  refine seq_end ?_
  refine hK12 _ _ ?_
  refine wp_cond_true (hA.ev rfl) ?_
  refine wp_seq_k (fun K15 hK15 => ?_)
  refine wp_region_lit ?_
  refine seq_do hA rfl rfl rfl (does_assign rfl) fun a hA => ?_
  refine seq_do hA rfl rfl rfl (does_assign rfl) fun a hA => ?_
  refine seq_end ?_
  refine hK15 _ _ ?_
  refine wp_ret ?_
  refine hret _ _ ?_
  refine ends (v := .tuple #[.slice none 0 0, .int .i64 4]) hA rfl (.cons (res_tmp rfl) (.cons (res_tmp rfl) .nil)) rfl ?_
  exact ⟨rfl, hM.bel⟩
 ·
  refine seq_do (v := .pointer (some ⟨g2, 2, none⟩)) hA rfl rfl rfl (does_field ByQ_fld_43_2 rfl rfl) fun a hA => ?_
  refine seq_do hA rfl rfl rfl (m_load1 hM ByQ_is1_4 rfl 1 rfl rfl) fun a hA => ?_
  refine seq_do (v := .bool true) hA rfl rfl rfl (does_un rfl un_not) fun a hA => ?_
  refine seq_do (v := .bool true) hA rfl rfl rfl (does_pick rfl rfl rfl rfl) fun a hA => ?_
  refine seq_do hA rfl rfl rfl (does_move rfl) fun a hA => ?_
  refine seq_skip hA rfl rfl rfl fun a hA => ?_
  refine seq_skip hA rfl rfl rfl fun a hA => ?_
  refine seq_skip hA rfl rfl rfl fun a hA => ?_
  refine seq_skip hA rfl rfl rfl fun a hA => ?_
  refine seq_do (v := .bool true) hA rfl rfl rfl (does_pick rfl rfl rfl rfl) fun a hA => ?_
  refine seq_end ?_
  refine hK12 _ _ ?_
  refine wp_cond_true (hA.ev rfl) ?_
  refine wp_seq_k (fun K16 hK16 => ?_)
  refine wp_region_lit ?_
  refine seq_do hA rfl rfl rfl (does_assign rfl) fun a hA => ?_
  refine seq_do hA rfl rfl rfl (does_assign rfl) fun a hA => ?_
  refine seq_end ?_
  refine hK16 _ _ ?_
  refine wp_ret ?_
  refine hret _ _ ?_
  refine ends (v := .tuple #[.slice none 0 0, .int .i64 4]) hA rfl (.cons (res_tmp rfl) (.cons (res_tmp rfl) .nil)) rfl ?_
  exact ⟨rfl, hM.bel⟩
theorem laid_large {w : World} {b : Bool} {x n : Nat} {o1 o2 o3 o4 : Option Addr} {c1 c2 c3 c4 : Nat} (ha : Nm w (Q6.whole b x) o1 c1 o2 c2 o3 c3 o4 c4) (hx : (words x).length ≤ 512) (hbx : b.toNat ≤ x) (h1 : 1 ≤ n) (h64 : n ≤ 64) (bg sg : Bool) (hlarge : roomN n sg < bl (x - b.toNat) ∨ (b = true ∧ sg = false)) : Calls Tryz.prog 18 #[.agg #[.int .i64 ((n : Nat) : Int), .bool bg, .bool sg], numV (Q6.whole b x) o1 c1 o2 c2 o3 c3 o4 c4] w fun e w' => e = .returned (.tuple #[.slice none 0 0, .int .i64 4]) ∧ Below w.heap.size w w' := by
 cases sg
 ·
  exact laid_large_false ha hx hbx h1 h64 rfl (hlarge.imp id And.left)
 ·
  exact laid_large_true ha hx hbx h1 h64 rfl (hlarge.resolve_right (fun k => by cases k.2))
theorem allowed_as {w : World} {size : Int} {bg sg : Bool} {c : Bool} (h : okSize size = c) : Calls Tryz.prog 16 #[.agg #[.int .i64 size, .bool bg, .bool sg]] w fun e w' => e = .returned (.bool c) ∧ Below w.heap.size w w' := h ▸ allowed_any
theorem put_no1 {w : World} {so : Option Addr} {ca : Nat} {l : List UInt8} (hb : Rb w so l) (hca : l.length ≤ ca) (hl : l.length ≤ 140737488351232) {ap size : Int} (hap0 : -9223372036854775808 ≤ ap) (hap1 : ap ≤ 9223372036854775807) (hsize0 : -9223372036854775808 ≤ size) (hsize1 : size ≤ 9223372036854775807) (bg sg : Bool) {q : Q6} {o1 o2 o3 o4 : Option Addr} {c1 c2 c3 c4 : Nat} (k1 : okSize size = false) : Calls Tryz.prog 5 #[.slice so l.length ca, .int .i64 ap, .int .i64 size, .bool bg, .bool sg, numV q o1 c1 o2 c2 o3 c3 o4 c4] w fun e w' => e = .returned (.tuple #[.slice none 0 0, .int .i64 1]) ∧ Below w.heap.size w w' := by
 have hM : Mg w w ([]) := Mg.start w
 refine walk_of (l := [(0, .slice so l.length ca), (1, .int .i64 ap), (2, .int .i64 size), (3, .bool bg), (4, .bool sg), (5, .agg #[.bool q.b1, .slice o1 q.t1.length c1, .slice o2 q.q1.length c2, .bool q.b2, .slice o3 q.t2.length c3, .slice o4 q.q2.length c4])]) Tryz.func5 rfl Tryz.ntmps5 rfl rfl ?_
 intro Q hret hnorm hP a hA
 refine wp_seq_k (fun K1 hK1 => ?_)
 refine wp_region_lit ?_
 refine s_new (vs := [.bool q.b1, .slice o1 q.t1.length c1, .slice o2 q.q1.length c2, .bool q.b2, .slice o3 q.t2.length c3, .slice o4 q.q2.length c4]) (t := 27) hA hM rfl rfl rfl (fun g => .pointer (some ⟨g, 0, none⟩)) (does_box rfl rfl) (by decide) ?_
 intro g2 w3 hM a hA
 refine seq_do hA rfl rfl rfl (does_assign rfl) fun a hA => ?_
 refine seq_do hA rfl rfl rfl (does_assign rfl) fun a hA => ?_
 refine seq_end ?_
 refine hK1 _ _ ?_
 refine wp_seq_k (fun K4 hK4 => ?_)
 refine wp_region_lit ?_
 refine seq_do hA rfl rfl rfl (does_move rfl) fun a hA => ?_
 refine seq_do hA rfl rfl rfl (does_move rfl) fun a hA => ?_
 refine seq_do hA rfl rfl rfl (does_move rfl) fun a hA => ?_
 refine seq_do (v := .agg #[.int .i64 size, .bool bg, .bool sg]) hA rfl rfl rfl (does_build rfl (fun w => by kernel_rfl)) fun a hA => ?_
 refine s_new (vs := [.int .i64 0, .bool false, .bool false]) (t := 43) hA hM rfl rfl rfl (fun g => .pointer (some ⟨g, 0, none⟩)) (does_alloc (z := .agg #[.int .i64 0, .bool false, .bool false]) (by kernel_rfl) rfl) (by decide) ?_
 intro g5 w6 hM a hA
 refine s_store (us := [.int .i64 size, .bool bg, .bool sg]) (L' := (.obj g5 (.cells #[.int .i64 size, .bool bg, .bool sg] 43) :: .obj g2 (.cells #[.bool q.b1, .slice o1 q.t1.length c1, .slice o2 q.q1.length c2, .bool q.b2, .slice o3 q.t2.length c3, .slice o4 q.q2.length c4] 27) :: [])) hA hM rfl rfl (m_store rfl rfl rfl (by kernel_rfl) hM 0 rfl rfl rfl) 0 rfl rfl rfl ?_
 intro w7 hM
 refine seq_end ?_
 refine hK4 _ _ ?_
 refine wp_seq_k (fun K8 hK8 => ?_)
 refine wp_seq_k (fun K9 hK9 => ?_)
 refine wp_region_lit ?_
 refine seq_do hA rfl rfl rfl (m_loadS hM ByQ_isS_43 rfl 0 rfl (cs := [.int .i64 size, .bool bg, .bool sg]) rfl rfl) fun a hA => ?_
 refine seq_call hA rfl rfl rfl (enters_func rfl rfl (fun w => by kernel_rfl)) (allowed_as k1) ?_
 rintro _ w11 ⟨rfl, hb10⟩
 replace hM := hM.call hb10
 refine ⟨_, rfl, ?_⟩
 intro a hA
 refine seq_do (v := .bool true) hA rfl rfl rfl (does_un rfl un_not) fun a hA => ?_
 refine seq_do hA rfl rfl rfl (does_move rfl) fun a hA => ?_
 refine seq_skip hA rfl rfl rfl fun a hA => ?_
 refine seq_skip hA rfl rfl rfl fun a hA => ?_
 refine seq_skip hA rfl rfl rfl fun a hA => ?_
 refine seq_skip hA rfl rfl rfl fun a hA => ?_
 refine seq_skip hA rfl rfl rfl fun a hA => ?_
 refine seq_do (v := .bool true) hA rfl rfl rfl (does_pick rfl rfl rfl rfl) fun a hA => ?_
 refine seq_end ?_
 refine hK9 _ _ ?_
 refine wp_cond_true (hA.ev rfl) ?_
 refine wp_seq_k (fun K12 hK12 => ?_)
 refine wp_region_lit ?_
 refine seq_do hA rfl rfl rfl (does_assign rfl) fun a hA => ?_
 refine seq_do hA rfl rfl rfl (does_assign rfl) fun a hA => ?_
 refine seq_end ?_
 refine hK12 _ _ ?_
 refine wp_ret ?_
 refine hret _ _ ?_
 refine ends (v := .tuple #[.slice none 0 0, .int .i64 1]) hA rfl (.cons (res_tmp rfl) (.cons (res_tmp rfl) .nil)) rfl ?_
 exact ⟨rfl, hM.bel⟩
theorem put_no2 {w : World} {so : Option Addr} {ca : Nat} {l : List UInt8} (hb : Rb w so l) (hca : l.length ≤ ca) (hl : l.length ≤ 140737488351232) {ap size : Int} (hap0 : -9223372036854775808 ≤ ap) (hap1 : ap ≤ 9223372036854775807) (hsize0 : -9223372036854775808 ≤ size) (hsize1 : size ≤ 9223372036854775807) (bg sg : Bool) {q : Q6} {o1 o2 o3 o4 : Option Addr} {c1 c2 c3 c4 : Nat} (k1 : okSize size = true) (k2 : inB l.length ap size = false) : Calls Tryz.prog 5 #[.slice so l.length ca, .int .i64 ap, .int .i64 size, .bool bg, .bool sg, numV q o1 c1 o2 c2 o3 c3 o4 c4] w fun e w' => e = .returned (.tuple #[.slice none 0 0, .int .i64 1]) ∧ Below w.heap.size w w' := by
 have hM : Mg w w ([]) := Mg.start w
 refine walk_of (l := [(0, .slice so l.length ca), (1, .int .i64 ap), (2, .int .i64 size), (3, .bool bg), (4, .bool sg), (5, .agg #[.bool q.b1, .slice o1 q.t1.length c1, .slice o2 q.q1.length c2, .bool q.b2, .slice o3 q.t2.length c3, .slice o4 q.q2.length c4])]) Tryz.func5 rfl Tryz.ntmps5 rfl rfl ?_
 intro Q hret hnorm hP a hA
 refine wp_seq_k (fun K1 hK1 => ?_)
 refine wp_region_lit ?_
 refine s_new (vs := [.bool q.b1, .slice o1 q.t1.length c1, .slice o2 q.q1.length c2, .bool q.b2, .slice o3 q.t2.length c3, .slice o4 q.q2.length c4]) (t := 27) hA hM rfl rfl rfl (fun g => .pointer (some ⟨g, 0, none⟩)) (does_box rfl rfl) (by decide) ?_
 intro g2 w3 hM a hA
 refine seq_do hA rfl rfl rfl (does_assign rfl) fun a hA => ?_
 refine seq_do hA rfl rfl rfl (does_assign rfl) fun a hA => ?_
 refine seq_end ?_
 refine hK1 _ _ ?_
 refine wp_seq_k (fun K4 hK4 => ?_)
 refine wp_region_lit ?_
 refine seq_do hA rfl rfl rfl (does_move rfl) fun a hA => ?_
 refine seq_do hA rfl rfl rfl (does_move rfl) fun a hA => ?_
 refine seq_do hA rfl rfl rfl (does_move rfl) fun a hA => ?_
 refine seq_do (v := .agg #[.int .i64 size, .bool bg, .bool sg]) hA rfl rfl rfl (does_build rfl (fun w => by kernel_rfl)) fun a hA => ?_
 refine s_new (vs := [.int .i64 0, .bool false, .bool false]) (t := 43) hA hM rfl rfl rfl (fun g => .pointer (some ⟨g, 0, none⟩)) (does_alloc (z := .agg #[.int .i64 0, .bool false, .bool false]) (by kernel_rfl) rfl) (by decide) ?_
 intro g5 w6 hM a hA
 refine s_store (us := [.int .i64 size, .bool bg, .bool sg]) (L' := (.obj g5 (.cells #[.int .i64 size, .bool bg, .bool sg] 43) :: .obj g2 (.cells #[.bool q.b1, .slice o1 q.t1.length c1, .slice o2 q.q1.length c2, .bool q.b2, .slice o3 q.t2.length c3, .slice o4 q.q2.length c4] 27) :: [])) hA hM rfl rfl (m_store rfl rfl rfl (by kernel_rfl) hM 0 rfl rfl rfl) 0 rfl rfl rfl ?_
 intro w7 hM
 refine seq_end ?_
 refine hK4 _ _ ?_
 refine wp_seq_k (fun K8 hK8 => ?_)
 refine wp_seq_k (fun K9 hK9 => ?_)
 refine wp_region_lit ?_
 refine seq_do hA rfl rfl rfl (m_loadS hM ByQ_isS_43 rfl 0 rfl (cs := [.int .i64 size, .bool bg, .bool sg]) rfl rfl) fun a hA => ?_
 refine seq_call hA rfl rfl rfl (enters_func rfl rfl (fun w => by kernel_rfl)) (allowed_as k1) ?_
 rintro _ w11 ⟨rfl, hb10⟩
 replace hM := hM.call hb10
 refine ⟨_, rfl, ?_⟩
 intro a hA
 refine seq_do (v := .bool false) hA rfl rfl rfl (does_un rfl un_not) fun a hA => ?_
 refine seq_do hA rfl rfl rfl (does_move rfl) fun a hA => ?_
 refine seq_do hA rfl rfl rfl (does_move rfl) fun a hA => ?_
 refine seq_do hA rfl rfl rfl (does_move rfl) fun a hA => ?_
 refine seq_do hA rfl rfl rfl (does_move rfl) fun a hA => ?_
 refine seq_call hA rfl rfl rfl (enters_func rfl rfl (fun w => by kernel_rfl)) (within_as hl (by omega) (by omega) (by omega) (by omega) k2) ?_
 rintro _ w13 ⟨rfl, hb12⟩
 replace hM := hM.call hb12
 refine ⟨_, rfl, ?_⟩
 intro a hA
 refine seq_do (v := .bool true) hA rfl rfl rfl (does_un rfl un_not) fun a hA => ?_
 refine seq_do (v := .bool true) hA rfl rfl rfl (does_pick rfl rfl rfl rfl) fun a hA => ?_
 refine seq_end ?_
 refine hK9 _ _ ?_
 refine wp_cond_true (hA.ev rfl) ?_
 refine wp_seq_k (fun K14 hK14 => ?_)
 refine wp_region_lit ?_
 refine seq_do hA rfl rfl rfl (does_assign rfl) fun a hA => ?_
 refine seq_do hA rfl rfl rfl (does_assign rfl) fun a hA => ?_
 refine seq_end ?_
 refine hK14 _ _ ?_
 refine wp_ret ?_
 refine hret _ _ ?_
 refine ends (v := .tuple #[.slice none 0 0, .int .i64 1]) hA rfl (.cons (res_tmp rfl) (.cons (res_tmp rfl) .nil)) rfl ?_
 exact ⟨rfl, hM.bel⟩
theorem put_err {w : World} {so : Option Addr} {ca : Nat} {l : List UInt8} (hb : Rb w so l) (hca : l.length ≤ ca) (hl : l.length ≤ 140737488351232) {an n : Nat} (h1 : 1 ≤ n) (h64 : n ≤ 64) (hle : an + n ≤ l.length) (bg sg : Bool) {q : Q6} {o1 o2 o3 o4 : Option Addr} {c1 c2 c3 c4 : Nat} {ec : Int} (hec : ec ≠ 0) (hlaid : ∀ W, Below w.heap.size w W → Calls Tryz.prog 18 #[.agg #[.int .i64 ((n : Nat) : Int), .bool bg, .bool sg], numV q o1 c1 o2 c2 o3 c3 o4 c4] W fun e w' => e = .returned (.tuple #[.slice none 0 0, .int .i64 ec]) ∧ Below W.heap.size W w') : Calls Tryz.prog 5 #[.slice so l.length ca, .int .i64 ((an : Nat) : Int), .int .i64 ((n : Nat) : Int), .bool bg, .bool sg, numV q o1 c1 o2 c2 o3 c3 o4 c4] w fun e w' => e = .returned (.tuple #[.slice none 0 0, .int .i64 ec]) ∧ Below w.heap.size w w' := by
 have k1 : okSize ((n : Nat) : Int) = true := by unfold okSize; apply decide_eq_true; omega
 have k2 : inB l.length ((an : Nat) : Int) ((n : Nat) : Int) = true := by unfold inB; apply decide_eq_true; omega
 have hM : Mg w w ([]) := Mg.start w
 refine walk_of (l := [(0, .slice so l.length ca), (1, .int .i64 (((an : Nat) : Int))), (2, .int .i64 (((n : Nat) : Int))), (3, .bool bg), (4, .bool sg), (5, .agg #[.bool q.b1, .slice o1 q.t1.length c1, .slice o2 q.q1.length c2, .bool q.b2, .slice o3 q.t2.length c3, .slice o4 q.q2.length c4])]) Tryz.func5 rfl Tryz.ntmps5 rfl rfl ?_
 intro Q hret hnorm hP a hA
 refine wp_seq_k (fun K1 hK1 => ?_)
 refine wp_region_lit ?_
 refine s_new (vs := [.bool q.b1, .slice o1 q.t1.length c1, .slice o2 q.q1.length c2, .bool q.b2, .slice o3 q.t2.length c3, .slice o4 q.q2.length c4]) (t := 27) hA hM rfl rfl rfl (fun g => .pointer (some ⟨g, 0, none⟩)) (does_box rfl rfl) (by decide) ?_
 intro g2 w3 hM a hA
 refine seq_do hA rfl rfl rfl (does_assign rfl) fun a hA => ?_
 refine seq_do hA rfl rfl rfl (does_assign rfl) fun a hA => ?_
 refine seq_end ?_
 refine hK1 _ _ ?_
 refine wp_seq_k (fun K4 hK4 => ?_)
 refine wp_region_lit ?_
 refine seq_do hA rfl rfl rfl (does_move rfl) fun a hA => ?_
 refine seq_do hA rfl rfl rfl (does_move rfl) fun a hA => ?_
 refine seq_do hA rfl rfl rfl (does_move rfl) fun a hA => ?_
 refine seq_do (v := .agg #[.int .i64 (((n : Nat) : Int)), .bool bg, .bool sg]) hA rfl rfl rfl (does_build rfl (fun w => by kernel_rfl)) fun a hA => ?_
 refine s_new (vs := [.int .i64 0, .bool false, .bool false]) (t := 43) hA hM rfl rfl rfl (fun g => .pointer (some ⟨g, 0, none⟩)) (does_alloc (z := .agg #[.int .i64 0, .bool false, .bool false]) (by kernel_rfl) rfl) (by decide) ?_
 intro g5 w6 hM a hA
 refine s_store (us := [.int .i64 (((n : Nat) : Int)), .bool bg, .bool sg]) (L' := (.obj g5 (.cells #[.int .i64 (((n : Nat) : Int)), .bool bg, .bool sg] 43) :: .obj g2 (.cells #[.bool q.b1, .slice o1 q.t1.length c1, .slice o2 q.q1.length c2, .bool q.b2, .slice o3 q.t2.length c3, .slice o4 q.q2.length c4] 27) :: [])) hA hM rfl rfl (m_store rfl rfl rfl (by kernel_rfl) hM 0 rfl rfl rfl) 0 rfl rfl rfl ?_
 intro w7 hM
 refine seq_end ?_
 refine hK4 _ _ ?_
 refine wp_seq_k (fun K8 hK8 => ?_)
 refine wp_seq_k (fun K9 hK9 => ?_)
 refine wp_region_lit ?_
 refine seq_do hA rfl rfl rfl (m_loadS hM ByQ_isS_43 rfl 0 rfl (cs := [.int .i64 (((n : Nat) : Int)), .bool bg, .bool sg]) rfl rfl) fun a hA => ?_
 refine seq_call hA rfl rfl rfl (enters_func rfl rfl (fun w => by kernel_rfl)) (allowed_as k1) ?_
 rintro _ w11 ⟨rfl, hb10⟩
 replace hM := hM.call hb10
 refine ⟨_, rfl, ?_⟩
 intro a hA
 refine seq_do (v := .bool false) hA rfl rfl rfl (does_un rfl un_not) fun a hA => ?_
 refine seq_do hA rfl rfl rfl (does_move rfl) fun a hA => ?_
 refine seq_do hA rfl rfl rfl (does_move rfl) fun a hA => ?_
 refine seq_do hA rfl rfl rfl (does_move rfl) fun a hA => ?_
 refine seq_do hA rfl rfl rfl (does_move rfl) fun a hA => ?_
 refine seq_call hA rfl rfl rfl (enters_func rfl rfl (fun w => by kernel_rfl)) (within_as hl (by omega) (by omega) (by omega) (by omega) k2) ?_
 rintro _ w13 ⟨rfl, hb12⟩
 replace hM := hM.call hb12
 refine ⟨_, rfl, ?_⟩
 intro a hA
 refine seq_do (v := .bool false) hA rfl rfl rfl (does_un rfl un_not) fun a hA => ?_
 refine seq_do (v := .bool false) hA rfl rfl rfl (does_pick rfl rfl rfl rfl) fun a hA => ?_
 refine seq_end ?_
 refine hK9 _ _ ?_
 refine wp_cond_false (hA.ev rfl) ?_
 refine wp_skip ?_
 refine hK8 _ _ ?_
 refine wp_seq_k (fun K14 hK14 => ?_)
 refine wp_region_lit ?_
 refine seq_do hA rfl rfl rfl (m_loadS hM ByQ_isS_43 rfl 0 rfl (cs := [.int .i64 (((n : Nat) : Int)), .bool bg, .bool sg]) rfl rfl) fun a hA => ?_
 refine seq_do hA rfl rfl rfl (m_loadS hM ByQ_isS_27 rfl 1 rfl (cs := [.bool q.b1, .slice o1 q.t1.length c1, .slice o2 q.q1.length c2, .bool q.b2, .slice o3 q.t2.length c3, .slice o4 q.q2.length c4]) rfl rfl) fun a hA => ?_
 refine seq_call hA rfl rfl rfl (enters_func rfl rfl (fun w => by kernel_rfl)) (hlaid _ hM.bel) ?_
 rintro _ w16 ⟨rfl, hb15⟩
 replace hM := hM.call hb15
 refine ⟨_, rfl, ?_⟩
 intro a hA
 refine seq_do hA rfl rfl rfl (does_move rfl) fun a hA => ?_
 refine seq_do (v := .slice none 0 0) hA rfl rfl rfl (does_extract (vs := [.slice none 0 0, .int .i64 ec]) rfl rfl) fun a hA => ?_
 refine seq_do (v := .int .i64 ec) hA rfl rfl rfl (does_extract (vs := [.slice none 0 0, .int .i64 ec]) rfl rfl) fun a hA => ?_
 refine seq_do hA rfl rfl rfl (does_assign rfl) fun a hA => ?_
 refine seq_do hA rfl rfl rfl (does_assign rfl) fun a hA => ?_
 refine seq_end ?_
 refine hK14 _ _ ?_
 refine wp_seq_k (fun K17 hK17 => ?_)
 refine wp_seq_k (fun K18 hK18 => ?_)
 refine wp_region_lit ?_
 refine seq_do hA rfl rfl rfl (does_move rfl) fun a hA => ?_
 refine seq_do (v := .bool true) hA rfl rfl rfl (does_bin rfl rfl (fun w => (bin_neq w).trans (by rw [show ((ec != 0)) = true from (bne_iff_ne.2 hec)]))) fun a hA => ?_
 refine seq_end ?_
 refine hK18 _ _ ?_
 refine wp_cond_true (hA.ev rfl) ?_
 refine wp_seq_k (fun K19 hK19 => ?_)
 refine wp_region_lit ?_
 refine seq_do hA rfl rfl rfl (does_move rfl) fun a hA => ?_
 refine seq_do hA rfl rfl rfl (does_assign rfl) fun a hA => ?_
 refine seq_do hA rfl rfl rfl (does_assign rfl) fun a hA => ?_
 refine seq_end ?_
 refine hK19 _ _ ?_
 refine wp_ret ?_
 refine hret _ _ ?_
 refine ends (v := .tuple #[.slice none 0 0, .int .i64 ec]) hA rfl (.cons (res_tmp rfl) (.cons (res_tmp rfl) .nil)) rfl ?_
 exact ⟨rfl, hM.bel⟩
theorem put_ok {w : World} {so : Option Addr} {ca : Nat} {l : List UInt8} (hb : Rb w so l) (hca : l.length ≤ ca) (hl : l.length ≤ 140737488351232) {an n : Nat} (h1 : 1 ≤ n) (h64 : n ≤ 64) (hle : an + n ≤ l.length) (bg sg : Bool) {q : Q6} {o1 o2 o3 o4 : Option Addr} {c1 c2 c3 c4 : Nat} {pl : List UInt8} (hpl : pl.length = n) (hlaid : ∀ W, Below w.heap.size w W → Calls Tryz.prog 18 #[.agg #[.int .i64 ((n : Nat) : Int), .bool bg, .bool sg], numV q o1 c1 o2 c2 o3 c3 o4 c4] W fun e w' => ∃ g, e = .returned (.tuple #[.slice (some ⟨g, 0, none⟩) n n, .int .i64 0]) ∧ Mg W w' [.row BY 1 (.slice (some ⟨g, 0, none⟩) n n) n (Lib.byteCells pl)]) : Calls Tryz.prog 5 #[.slice so l.length ca, .int .i64 ((an : Nat) : Int), .int .i64 ((n : Nat) : Int), .bool bg, .bool sg, numV q o1 c1 o2 c2 o3 c3 o4 c4] w fun e w' => ∃ v, e = .returned (.tuple #[v, .int .i64 0]) ∧ Mg w w' [.row BY 1 v (ovl an pl l).length (Lib.byteCells (ovl an pl l))] := by
 have k1 : okSize ((n : Nat) : Int) = true := by unfold okSize; apply decide_eq_true; omega
 have k2 : inB l.length ((an : Nat) : Int) ((n : Nat) : Int) = true := by unfold inB; apply decide_eq_true; omega
 have hM : Mg w w ([]) := Mg.start w
 refine walk_of (l := [(0, .slice so l.length ca), (1, .int .i64 (((an : Nat) : Int))), (2, .int .i64 (((n : Nat) : Int))), (3, .bool bg), (4, .bool sg), (5, .agg #[.bool q.b1, .slice o1 q.t1.length c1, .slice o2 q.q1.length c2, .bool q.b2, .slice o3 q.t2.length c3, .slice o4 q.q2.length c4])]) Tryz.func5 rfl Tryz.ntmps5 rfl rfl ?_
 intro Q hret hnorm hP a hA
 refine wp_seq_k (fun K1 hK1 => ?_)
 refine wp_region_lit ?_
 refine s_new (vs := [.bool q.b1, .slice o1 q.t1.length c1, .slice o2 q.q1.length c2, .bool q.b2, .slice o3 q.t2.length c3, .slice o4 q.q2.length c4]) (t := 27) hA hM rfl rfl rfl (fun g => .pointer (some ⟨g, 0, none⟩)) (does_box rfl rfl) (by decide) ?_
 intro g2 w3 hM a hA
 refine seq_do hA rfl rfl rfl (does_assign rfl) fun a hA => ?_
 refine seq_do hA rfl rfl rfl (does_assign rfl) fun a hA => ?_
 refine seq_end ?_
 refine hK1 _ _ ?_
 refine wp_seq_k (fun K4 hK4 => ?_)
 refine wp_region_lit ?_
 refine seq_do hA rfl rfl rfl (does_move rfl) fun a hA => ?_
 refine seq_do hA rfl rfl rfl (does_move rfl) fun a hA => ?_
 refine seq_do hA rfl rfl rfl (does_move rfl) fun a hA => ?_
 refine seq_do (v := .agg #[.int .i64 (((n : Nat) : Int)), .bool bg, .bool sg]) hA rfl rfl rfl (does_build rfl (fun w => by kernel_rfl)) fun a hA => ?_
 refine s_new (vs := [.int .i64 0, .bool false, .bool false]) (t := 43) hA hM rfl rfl rfl (fun g => .pointer (some ⟨g, 0, none⟩)) (does_alloc (z := .agg #[.int .i64 0, .bool false, .bool false]) (by kernel_rfl) rfl) (by decide) ?_
 intro g5 w6 hM a hA
 refine s_store (us := [.int .i64 (((n : Nat) : Int)), .bool bg, .bool sg]) (L' := (.obj g5 (.cells #[.int .i64 (((n : Nat) : Int)), .bool bg, .bool sg] 43) :: .obj g2 (.cells #[.bool q.b1, .slice o1 q.t1.length c1, .slice o2 q.q1.length c2, .bool q.b2, .slice o3 q.t2.length c3, .slice o4 q.q2.length c4] 27) :: [])) hA hM rfl rfl (m_store rfl rfl rfl (by kernel_rfl) hM 0 rfl rfl rfl) 0 rfl rfl rfl ?_
 intro w7 hM
 refine seq_end ?_
 refine hK4 _ _ ?_
 refine wp_seq_k (fun K8 hK8 => ?_)
 refine wp_seq_k (fun K9 hK9 => ?_)
 refine wp_region_lit ?_
 refine seq_do hA rfl rfl rfl (m_loadS hM ByQ_isS_43 rfl 0 rfl (cs := [.int .i64 (((n : Nat) : Int)), .bool bg, .bool sg]) rfl rfl) fun a hA => ?_
 refine seq_call hA rfl rfl rfl (enters_func rfl rfl (fun w => by kernel_rfl)) (allowed_as k1) ?_
 rintro _ w11 ⟨rfl, hb10⟩
 replace hM := hM.call hb10
 refine ⟨_, rfl, ?_⟩
 intro a hA
 refine seq_do (v := .bool false) hA rfl rfl rfl (does_un rfl un_not) fun a hA => ?_
 refine seq_do hA rfl rfl rfl (does_move rfl) fun a hA => ?_
 refine seq_do hA rfl rfl rfl (does_move rfl) fun a hA => ?_
 refine seq_do hA rfl rfl rfl (does_move rfl) fun a hA => ?_
 refine seq_do hA rfl rfl rfl (does_move rfl) fun a hA => ?_
 refine seq_call hA rfl rfl rfl (enters_func rfl rfl (fun w => by kernel_rfl)) (within_as hl (by omega) (by omega) (by omega) (by omega) k2) ?_
 rintro _ w13 ⟨rfl, hb12⟩
 replace hM := hM.call hb12
 refine ⟨_, rfl, ?_⟩
 intro a hA
 refine seq_do (v := .bool false) hA rfl rfl rfl (does_un rfl un_not) fun a hA => ?_
 refine seq_do (v := .bool false) hA rfl rfl rfl (does_pick rfl rfl rfl rfl) fun a hA => ?_
 refine seq_end ?_
 refine hK9 _ _ ?_
 refine wp_cond_false (hA.ev rfl) ?_
 refine wp_skip ?_
 refine hK8 _ _ ?_
 refine wp_seq_k (fun K14 hK14 => ?_)
 refine wp_region_lit ?_
 refine seq_do hA rfl rfl rfl (m_loadS hM ByQ_isS_43 rfl 0 rfl (cs := [.int .i64 (((n : Nat) : Int)), .bool bg, .bool sg]) rfl rfl) fun a hA => ?_
 refine seq_do hA rfl rfl rfl (m_loadS hM ByQ_isS_27 rfl 1 rfl (cs := [.bool q.b1, .slice o1 q.t1.length c1, .slice o2 q.q1.length c2, .bool q.b2, .slice o3 q.t2.length c3, .slice o4 q.q2.length c4]) rfl rfl) fun a hA => ?_
 refine seq_call hA rfl rfl rfl (enters_func rfl rfl (fun w => by kernel_rfl)) (hlaid _ hM.bel) ?_
 rintro _ w17 ⟨g15, rfl, hM16⟩
 replace hM : Mg w w17 (.row BY 1 (.slice (some ⟨g15, 0, none⟩) n n) n ((Lib.byteCells pl)) :: .obj g5 (.cells #[.int .i64 (((n : Nat) : Int)), .bool bg, .bool sg] 43) :: .obj g2 (.cells #[.bool q.b1, .slice o1 q.t1.length c1, .slice o2 q.q1.length c2, .bool q.b2, .slice o3 q.t2.length c3, .slice o4 q.q2.length c4] 27) :: []) := (hM.both hM16 (noBld_cons (by simp) (noBld_cons (by simp) (noBld_quiet quietL_nil))) (noBld_cons (by simp) (noBld_quiet quietL_nil)))
 refine ⟨_, rfl, ?_⟩
 intro a hA
 refine seq_do hA rfl rfl rfl (does_move rfl) fun a hA => ?_
 refine seq_do (v := .slice (some ⟨g15, 0, none⟩) n n) hA rfl rfl rfl (does_extract (vs := [.slice (some ⟨g15, 0, none⟩) n n, .int .i64 0]) rfl rfl) fun a hA => ?_
 refine seq_do (v := .int .i64 0) hA rfl rfl rfl (does_extract (vs := [.slice (some ⟨g15, 0, none⟩) n n, .int .i64 0]) rfl rfl) fun a hA => ?_
 refine seq_do hA rfl rfl rfl (does_assign rfl) fun a hA => ?_
 refine seq_do hA rfl rfl rfl (does_assign rfl) fun a hA => ?_
 refine seq_end ?_
 refine hK14 _ _ ?_
 refine wp_seq_k (fun K18 hK18 => ?_)
 refine wp_seq_k (fun K19 hK19 => ?_)
 refine wp_region_lit ?_
 refine seq_do hA rfl rfl rfl (does_move rfl) fun a hA => ?_
 refine seq_do (v := .bool false) hA rfl rfl rfl (does_bin rfl rfl (fun w => by kernel_rfl)) fun a hA => ?_
 refine seq_end ?_
 refine hK19 _ _ ?_
 refine wp_cond_false (hA.ev rfl) ?_
 refine wp_skip ?_
 refine hK18 _ _ ?_
 refine wp_seq_k (fun K20 hK20 => ?_)
 refine wp_region_lit ?_
 refine seq_do hA rfl rfl rfl (does_move rfl) fun a hA => ?_
 refine seq_do hA rfl rfl rfl (does_move rfl) fun a hA => ?_
 refine seq_do hA rfl rfl rfl (does_move rfl) fun a hA => ?_
 refine seq_call hA rfl rfl rfl (enters_func rfl rfl (fun w => by kernel_rfl)) ((by have h9 := overlaid_any (w := w17) (an := an) (ca := ca) (cp := n) (l := l) (p := pl) (hb.below hM.bel) (rb_row (bs := pl) hM 0 rfl).1 hl (by omega); rw [hpl] at h9; exact h9)) ?_
 rintro _ w23 ⟨v21, rfl, hM22⟩
 replace hM : Mg w w23 (.row BY 1 (v21) ((ovl an pl l).length) ((Lib.byteCells (ovl an pl l))) :: .row BY 1 (.slice (some ⟨g15, 0, none⟩) n n) n ((Lib.byteCells pl)) :: .obj g5 (.cells #[.int .i64 (((n : Nat) : Int)), .bool bg, .bool sg] 43) :: .obj g2 (.cells #[.bool q.b1, .slice o1 q.t1.length c1, .slice o2 q.q1.length c2, .bool q.b2, .slice o3 q.t2.length c3, .slice o4 q.q2.length c4] 27) :: []) := (hM.both hM22 (noBld_cons (by simp) (noBld_cons (by simp) (noBld_cons (by simp) (noBld_quiet quietL_nil)))) (noBld_cons (by simp) (noBld_quiet quietL_nil)))
 refine ⟨_, rfl, ?_⟩
 intro a hA
 refine seq_do hA rfl rfl rfl (does_assign rfl) fun a hA => ?_
 refine seq_do hA rfl rfl rfl (does_assign rfl) fun a hA => ?_
 refine seq_end ?_
 refine hK20 _ _ ?_
 refine wp_ret ?_
 refine hret _ _ ?_
 refine ends (v := .tuple #[v21, .int .i64 0]) hA rfl (.cons (res_tmp rfl) (.cons (res_tmp rfl) .nil)) rfl ?_
 exact ⟨_, rfl, hM.sub (.cons_cons _ (.cons _ (.cons _ (.cons _ (.refl _)))))⟩
end Go.Proofs.YtbajcflbimmnhaaGreatDoor.G
namespace Go.Proofs.YtbajcflbimmnhaaGreatDoor
open Go.RowKit
set_option linter.unusedVariables false
set_option linter.unusedSimpArgs false

theorem ovl_get {an : Nat} {p l : List UInt8} {n : Nat} (hp : p.length = n) (hle : an + n ≤ l.length) : ((G.ovl an p l).drop an).take n = p := by
  unfold G.ovl
  rw [List.append_assoc, List.drop_append_of_le_length (by rw [List.length_take]; omega), List.drop_take, Nat.sub_self, List.take_zero, List.nil_append, ← hp, List.take_left]
theorem fld_whole {b : Bool} {x n : Nat} (h1 : 1 ≤ n) (hb : b.toNat ≤ x) (hroom : bl (x - b.toNat) ≤ n * 8 - 1) : (b = false ∧ fld b (x - b.toNat) 0 (n * 8) = x ∧ x < 2 ^ (n * 8 - 1)) ∨ (b = true ∧ fld b (x - b.toNat) 0 (n * 8) = 256 ^ n - x ∧ 1 ≤ x ∧ x ≤ 2 ^ (n * 8 - 1)) := by
  have hz := zrow_mod b (x - b.toNat) (n * 8)
  have hlt := bl_le.1 hroom
  have hp : 2 ^ (n * 8) = 2 * 2 ^ (n * 8 - 1) := by rw [← Nat.pow_succ']; congr 1; omega
  have h256 : 256 ^ n = 2 ^ (n * 8) := by rw [Nat.mul_comm, pow_8]
  cases b with
  | false =>
    left
    refine ⟨rfl, ?_, by simpa using hlt⟩
    simp only [Bool.toNat_false, Nat.sub_zero] at hz hlt ⊢
    unfold zrow at hz
    rw [if_neg (by decide)] at hz
    have e : ((x : Nat) : Int) % ((2 ^ (n * 8) : Nat) : Int) = ((x % 2 ^ (n * 8) : Nat) : Int) := rfl
    rw [e, Nat.mod_eq_of_lt (by omega)] at hz
    exact (Int.ofNat.inj hz).symm
  | true =>
    right
    simp only [Bool.toNat_true] at hz hlt hb
    refine ⟨rfl, ?_, hb, by omega⟩
    show fld true (x - 1) 0 (n * 8) = _
    unfold zrow at hz
    rw [if_pos rfl] at hz
    have e : -((((x - 1 : Nat) : Int)) + 1) = (((2 ^ (n * 8) - x : Nat)) : Int) + ((2 ^ (n * 8) : Nat) : Int) * (-1) := by omega
    rw [e, Int.add_mul_emod_self_left] at hz
    have e2 : (((2 ^ (n * 8) - x : Nat)) : Int) % ((2 ^ (n * 8) : Nat) : Int) = (((2 ^ (n * 8) - x) % 2 ^ (n * 8) : Nat) : Int) := rfl
    have hpos : 0 < 2 ^ (n * 8 - 1) := Nat.two_pow_pos _
    rw [e2, Nat.mod_eq_of_lt (by omega)] at hz
    rw [h256]
    exact (Int.ofNat.inj hz).symm
theorem round_trip {b : Bool} {x n : Nat} (bg : Bool) (h1 : 1 ≤ n) (hb : b.toNat ≤ x) (hroom : bl (x - b.toNat) ≤ n * 8 - 1) : G.numQ bg true (G.lowB bg (G.leB n (fld b (x - b.toNat) 0 (n * 8)))) = Q6.whole b x := by
  have h256 : 256 ^ n = 2 ^ (n * 8) := by rw [Nat.mul_comm, pow_8]
  have hp : 2 ^ (n * 8) = 2 * 2 ^ (n * 8 - 1) := by rw [← Nat.pow_succ']; congr 1; omega
  have hpos : 0 < 2 ^ (n * 8 - 1) := Nat.two_pow_pos _
  have hlen : (G.lowB bg (G.leB n (fld b (x - b.toNat) 0 (n * 8)))).length = n := by rw [G.low_len, G.leB_len]
  unfold G.numQ
  rw [hlen, G.low_low]
  have htop := top_bit (l := G.leB n (fld b (x - b.toNat) 0 (n * 8))) (G.leB_len _ _) h1
  rcases fld_whole h1 hb hroom with ⟨rfl, hF, hx⟩ | ⟨rfl, hF, hx1, hx2⟩
  · rw [hF] at htop ⊢
    have hN : G.leN (G.leB n x) = x := G.leN_leB n x (by omega)
    rw [hN] at htop ⊢
    have hbl : bl x ≤ n * 8 - 1 := bl_le.2 hx
    rw [if_neg (fun k => by have := htop.2 k.2; omega)]
  · rw [hF] at htop ⊢
    have hN : G.leN (G.leB n (256 ^ n - x)) = 256 ^ n - x := G.leN_leB n _ (by omega)
    rw [hN] at htop ⊢
    have hbl : bl (256 ^ n - x) = 8 * n := by
      have h4 := bl_eq (x := 256 ^ n - x) (n := n * 8 - 1) (by omega) (by rw [show n * 8 - 1 + 1 = n * 8 from by omega]; omega)
      omega
    rw [if_pos ⟨rfl, htop.1 hbl⟩, show 256 ^ n - (256 ^ n - x) = x from by omega]
end Go.Proofs.YtbajcflbimmnhaaGreatDoor
