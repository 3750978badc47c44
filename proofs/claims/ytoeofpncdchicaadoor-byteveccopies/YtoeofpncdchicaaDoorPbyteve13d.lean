/- The walk of the fixed fact of the laws of bytevec. -/
import Derived.Test.YtoeofpncdchicaaDoorPbyteve13c
import Derived.Test.YtoeofpncdchicaaDoorPbyteve13a
namespace Go.Proofs.YtoeofpncdchicaaDoor.G
open Go.RowKit
set_option linter.unusedVariables false
set_option linter.unusedSimpArgs false
set_option maxRecDepth 100000
theorem ByW_is1_4 : Is1 Tryd.prog 4 := ⟨⟨_, Tryd.underlying4, rfl⟩, by kernel_rfl⟩
theorem ByW_is1_5 : Is1 Tryd.prog 5 := ⟨⟨_, Tryd.underlying5, rfl⟩, by kernel_rfl⟩
theorem ByW_is1_52 : Is1 Tryd.prog 52 := ⟨⟨_, Tryd.underlying52, rfl⟩, by kernel_rfl⟩
theorem ByW_fld_25_1 : FieldAt Tryd.prog 25 1 1 := ⟨_, _, Tryd.underlying25, rfl, rfl, by kernel_rfl⟩
theorem ByW_fld_27_0 : FieldAt Tryd.prog 27 0 0 := ⟨_, _, Tryd.underlying27, rfl, rfl, by kernel_rfl⟩
theorem ByW_fld_47_2 : FieldAt Tryd.prog 47 2 2 := ⟨_, _, Tryd.underlying47, rfl, rfl, by kernel_rfl⟩
theorem ByW_isS_27 : IsS Tryd.prog 27 6 := ⟨⟨_, Tryd.underlying27⟩, by kernel_rfl⟩
theorem ByW_isS_47 : IsS Tryd.prog 47 3 := ⟨⟨_, Tryd.underlying47⟩, by kernel_rfl⟩
theorem made_one : (madeCells (Value.int .u32 0).cells (1 * 1)).toList = [Value.int .u32 0] := by
  unfold madeCells
  rw [Array.toList_map, Array.toList_range]
  rfl
theorem words_258 : words 258 = [258] := by rw [words_pos (by omega)]; simp [words_zero]
theorem len_258 : (words 258).length ≤ 512 := by rw [words_258]; decide
/-- A word of a row of the call's own. -/
theorem rd_row {w0 w : World} {L : List Ck} (hM : Mg w0 w L) (k : Nat) {g cap x : Nat} (hk : L[k]? = some (.row 52 1 (.slice (some ⟨g, 0, none⟩) 1 cap) 1 [.int .u32 ((x : Nat) : Int)])) (hx : x < 4294967296) : Sc w (some ⟨g, 0, none⟩) cap [x] := by
  have hr : w.ownsRow w0.heap.size 52 1 (.slice (some ⟨g, 0, none⟩) 1 cap) 1 [.int .u32 ((x : Nat) : Int)] := hM.has k hk
  refine ⟨⟨fun y hy => by rw [List.mem_singleton] at hy; omega, fun _ => ⟨g, 0, rfl, ?_, fun j hj => ?_⟩⟩, (fun h => (by cases h)), ?_⟩
  · rcases hr.2 with ⟨he, _⟩ | ⟨g', c', cur, he, h1, h2, _⟩
    · cases he
    · cases he; exact (Array.getElem?_eq_some_iff.1 h2).1
  · have e : j = 0 := by simp at hj; omega
    subst e
    rw [World.ownsRow.cellAt hr 0 (by decide)]
    rfl
  · rcases hr.2 with ⟨he, _⟩ | ⟨g', c', cur, he, _, _, h3, _⟩
    · cases he
    · cases he; exact h3
theorem row_cellsZ {w0 w : World} {L : List Ck} (hM : Mg w0 w L) (k : Nat) {e : TypeId} {sz g n cap : Nat} {xs : List Value} (hk : L[k]? = some (.row e sz (.slice (some ⟨g, 0, none⟩) n cap) n xs)) : ∀ j u, xs[j]? = some u → w.cell? ⟨g, j, none⟩ = some u := by
  intro j u hj
  have hr : w.ownsRow w0.heap.size e sz (.slice (some ⟨g, 0, none⟩) n cap) n xs := hM.has k hk
  have hlt := (List.getElem?_eq_some_iff.1 hj).1
  rw [World.ownsRow.cellAt hr j (by rw [← hr.1]; exact hlt)]
  exact hj
theorem row_ltZ {w0 w : World} {L : List Ck} (hM : Mg w0 w L) (k : Nat) {e : TypeId} {sz g n cap : Nat} {xs : List Value} (hk : L[k]? = some (.row e sz (.slice (some ⟨g, 0, none⟩) n cap) n xs)) : g < w.heap.size := by
  have hr : w.ownsRow w0.heap.size e sz (.slice (some ⟨g, 0, none⟩) n cap) n xs := hM.has k hk
  rcases hr.2 with ⟨he, _⟩ | ⟨g', c', cur, he, h1, h2, _⟩
  · cases he
  · cases he; exact (Array.getElem?_eq_some_iff.1 h2).1
theorem trim_fix0 {w : World} {so : Option Addr} {bq oq : Nat} (hq1 : so = some ⟨bq, oq, none⟩) (hq2 : bq < w.heap.size) (hq3 : w.cell? ⟨bq, oq + 0, none⟩ = some (.int .u32 0)) (hq4 : w.cell? ⟨bq, oq + 1, none⟩ = some (.int .u32 0)) : Calls Tryd.prog 92 #[.slice so 2 2] w fun e w' => e = .returned (.slice so 0 2) ∧ Below w.heap.size w w' := by
 have hM : Mg w w ([]) := Mg.start w
 refine walk_of (l := [(0, .slice so 2 2)]) Tryd.func92 rfl Tryd.ntmps92 rfl rfl ?_
 intro Q hret hnorm hP a hA
 refine wp_seq_k (fun K1 hK1 => ?_)
 refine wp_region_lit ?_
 refine seq_do hA rfl rfl rfl (does_assign rfl) ?_
 intro a hA
 refine seq_end ?_
 refine hK1 _ _ ?_
 refine wp_seq_k (fun K2 hK2 => ?_)
 refine wp_block ?_
 refine wp_loop_rounds 3 ?_
 refine rounds_k ?_
 intro K3 hK3
 refine wp_seq_k (fun K4 hK4 => ?_)
 refine wp_seq_k (fun K5 hK5 => ?_)
 refine wp_region_lit ?_
 refine seq_do hA rfl rfl rfl (does_move rfl) ?_
 intro a hA
 refine seq_do (v := .int .i64 2) hA rfl rfl rfl (does_len Tryd.underlying23 rfl) ?_
 intro a hA
 refine seq_do (v := .bool true) hA rfl rfl rfl (does_bin rfl rfl (fun w => by kernel_rfl)) ?_
 intro a hA
 refine seq_do hA rfl rfl rfl (does_move rfl) ?_
 intro a hA
 refine seq_do hA rfl rfl rfl (does_move rfl) ?_
 intro a hA
 refine seq_do hA rfl rfl rfl (does_move rfl) ?_
 intro a hA
 refine seq_do (v := .int .i64 2) hA rfl rfl rfl (does_len Tryd.underlying23 rfl) ?_
 intro a hA
 refine seq_do (v := .int .i64 1) hA rfl rfl rfl (does_bin rfl rfl (fun w => by kernel_rfl)) ?_
 intro a hA
 refine seq_do (v := .pointer (some ⟨bq, oq + 1, none⟩)) hA rfl rfl rfl (does_indexRow (k := 1) Tryd.underlying23 (by kernel_rfl) rfl rfl rfl hq1 (by decide)) ?_
 intro a hA
 refine seq_do (v := .int .u32 0) hA rfl rfl rfl (m_loadR hM hq2 hq4 ByW_is1_52 rfl) ?_
 intro a hA
 refine seq_do (v := .bool true) hA rfl rfl rfl (does_bin rfl rfl (fun w => by kernel_rfl)) ?_
 intro a hA
 refine seq_do (v := .bool true) hA rfl rfl rfl (does_pick rfl rfl rfl rfl) ?_
 intro a hA
 refine seq_end ?_
 refine hK5 _ _ ?_
 refine wp_cond_true (hA.ev rfl) ?_
 refine wp_skip ?_
 refine hK4 _ _ ?_
 refine wp_block ?_
 refine wp_region_lit ?_
 refine seq_do hA rfl rfl rfl (does_move rfl) ?_
 intro a hA
 refine seq_do hA rfl rfl rfl (does_move rfl) ?_
 intro a hA
 refine seq_do (v := .int .i64 2) hA rfl rfl rfl (does_len Tryd.underlying23 rfl) ?_
 intro a hA
 refine seq_do (v := .int .i64 1) hA rfl rfl rfl (does_bin rfl rfl (fun w => by kernel_rfl)) ?_
 intro a hA
 refine seq_do (v := .slice so 1 2) hA rfl rfl rfl (does_upto (sz := 1) (hi := 1) Tryd.underlying23 (by kernel_rfl) rfl rfl rfl (by decide)) ?_
 intro a hA
 refine seq_do hA rfl rfl rfl (does_assign rfl) ?_
 intro a hA
 refine seq_end ?_
 refine hK3 _ _ ?_
 refine rounds_k ?_
 intro K6 hK6
 refine wp_seq_k (fun K7 hK7 => ?_)
 refine wp_seq_k (fun K8 hK8 => ?_)
 refine wp_region_lit ?_
 refine seq_do hA rfl rfl rfl (does_move rfl) ?_
 intro a hA
 refine seq_do (v := .int .i64 1) hA rfl rfl rfl (does_len Tryd.underlying23 rfl) ?_
 intro a hA
 refine seq_do (v := .bool true) hA rfl rfl rfl (does_bin rfl rfl (fun w => by kernel_rfl)) ?_
 intro a hA
 refine seq_do hA rfl rfl rfl (does_move rfl) ?_
 intro a hA
 refine seq_do hA rfl rfl rfl (does_move rfl) ?_
 intro a hA
 refine seq_do hA rfl rfl rfl (does_move rfl) ?_
 intro a hA
 refine seq_do (v := .int .i64 1) hA rfl rfl rfl (does_len Tryd.underlying23 rfl) ?_
 intro a hA
 refine seq_do (v := .int .i64 0) hA rfl rfl rfl (does_bin rfl rfl (fun w => by kernel_rfl)) ?_
 intro a hA
 refine seq_do (v := .pointer (some ⟨bq, oq + 0, none⟩)) hA rfl rfl rfl (does_indexRow (k := 0) Tryd.underlying23 (by kernel_rfl) rfl rfl rfl hq1 (by decide)) ?_
 intro a hA
 refine seq_do (v := .int .u32 0) hA rfl rfl rfl (m_loadR hM hq2 hq3 ByW_is1_52 rfl) ?_
 intro a hA
 refine seq_do (v := .bool true) hA rfl rfl rfl (does_bin rfl rfl (fun w => by kernel_rfl)) ?_
 intro a hA
 refine seq_do (v := .bool true) hA rfl rfl rfl (does_pick rfl rfl rfl rfl) ?_
 intro a hA
 refine seq_end ?_
 refine hK8 _ _ ?_
 refine wp_cond_true (hA.ev rfl) ?_
 refine wp_skip ?_
 refine hK7 _ _ ?_
 refine wp_block ?_
 refine wp_region_lit ?_
 refine seq_do hA rfl rfl rfl (does_move rfl) ?_
 intro a hA
 refine seq_do hA rfl rfl rfl (does_move rfl) ?_
 intro a hA
 refine seq_do (v := .int .i64 1) hA rfl rfl rfl (does_len Tryd.underlying23 rfl) ?_
 intro a hA
 refine seq_do (v := .int .i64 0) hA rfl rfl rfl (does_bin rfl rfl (fun w => by kernel_rfl)) ?_
 intro a hA
 refine seq_do (v := .slice so 0 2) hA rfl rfl rfl (does_upto (sz := 1) (hi := 0) Tryd.underlying23 (by kernel_rfl) rfl rfl rfl (by decide)) ?_
 intro a hA
 refine seq_do hA rfl rfl rfl (does_assign rfl) ?_
 intro a hA
 refine seq_end ?_
 refine hK6 _ _ ?_
 refine rounds_k ?_
 intro K9 hK9
 refine wp_seq_k (fun K10 hK10 => ?_)
 refine wp_seq_k (fun K11 hK11 => ?_)
 refine wp_region_lit ?_
 refine seq_do hA rfl rfl rfl (does_move rfl) ?_
 intro a hA
 refine seq_do (v := .int .i64 0) hA rfl rfl rfl (does_len Tryd.underlying23 rfl) ?_
 intro a hA
 refine seq_do (v := .bool false) hA rfl rfl rfl (does_bin rfl rfl (fun w => by kernel_rfl)) ?_
 intro a hA
 refine seq_do hA rfl rfl rfl (does_move rfl) ?_
 intro a hA
 refine seq_skip hA rfl rfl rfl ?_
 intro a hA
 refine seq_skip hA rfl rfl rfl ?_
 intro a hA
 refine seq_skip hA rfl rfl rfl ?_
 intro a hA
 refine seq_skip hA rfl rfl rfl ?_
 intro a hA
 refine seq_skip hA rfl rfl rfl ?_
 intro a hA
 refine seq_skip hA rfl rfl rfl ?_
 intro a hA
 refine seq_skip hA rfl rfl rfl ?_
 intro a hA
 refine seq_do (v := .bool false) hA rfl rfl rfl (does_pick rfl rfl rfl rfl) ?_
 intro a hA
 refine seq_end ?_
 refine hK11 _ _ ?_
 refine wp_cond_false (hA.ev rfl) ?_
 refine wp_exit ?_
 refine hK2 _ _ ?_
 refine wp_seq_k (fun K12 hK12 => ?_)
 refine wp_region_lit ?_
 refine seq_do hA rfl rfl rfl (does_move rfl) ?_
 intro a hA
 refine seq_do hA rfl rfl rfl (does_assign rfl) ?_
 intro a hA
 refine seq_end ?_
 refine hK12 _ _ ?_
 refine wp_ret ?_
 refine hret _ _ ?_
 refine ends (v := .slice so 0 2) hA rfl (.cons (res_tmp rfl) .nil) rfl ?_
 exact ⟨rfl, hM.bel⟩
theorem wof_fix0 {w : World} : Calls Tryd.prog 70 #[.int .u64 0] w fun e w' => ∃ g, e = .returned (.slice (some ⟨g, 0, none⟩) 0 2) ∧ Mg w w' [.row 52 1 (.slice (some ⟨g, 0, none⟩) 0 2) 0 []] := by
 have hM : Mg w w ([]) := Mg.start w
 refine walk_of (l := [(0, .int .u64 0)]) Tryd.func70 rfl Tryd.ntmps70 rfl rfl ?_
 intro Q hret hnorm hP a hA
 refine wp_seq_k (fun K1 hK1 => ?_)
 refine wp_region_lit ?_
 refine seq_do hA rfl rfl rfl (does_assign rfl) ?_
 intro a hA
 refine seq_end ?_
 refine hK1 _ _ ?_
 refine wp_seq_k (fun K2 hK2 => ?_)
 refine wp_region_lit ?_
 refine seq_do hA rfl rfl rfl (does_move rfl) ?_
 intro a hA
 refine seq_do (v := .int .u32 0) hA rfl rfl rfl (does_convert rfl (fun w => by kernel_rfl)) ?_
 intro a hA
 refine seq_do hA rfl rfl rfl (does_move rfl) ?_
 intro a hA
 refine seq_do (v := .int .u64 0) hA rfl rfl rfl (does_bin rfl rfl (fun w => by kernel_rfl)) ?_
 intro a hA
 refine seq_do (v := .int .u32 0) hA rfl rfl rfl (does_convert rfl (fun w => by kernel_rfl)) ?_
 intro a hA
 refine s_litE (e := 52) (sz := 1) (m := 2) (vs := [.int .u32 0, .int .u32 0]) hA hM rfl rfl rfl (does_buildSlice rfl (by kernel_rfl)) rfl rfl (.inl (by decide)) ?_
 intro g3 w4 hM a hA
 have hr9 : _ := hM.has 0 rfl
 have hc9 : ∀ j u, ([.int .u32 0, .int .u32 0] : List Value)[j]? = some u → World.cell? _ ⟨g3, j, none⟩ = some u := row_cellsZ hM 0 rfl
 refine seq_call hA rfl rfl rfl (enters_func rfl rfl (fun w => by kernel_rfl)) (trim_fix0 (so := some ⟨g3, 0, none⟩) rfl (row_ltZ hM 0 rfl) (hc9 0 _ rfl) (hc9 1 _ rfl)) ?_
 rintro _ w6 ⟨rfl, hb5⟩
 replace hM := hM.call hb5
 refine ⟨_, rfl, ?_⟩
 intro a hA
 refine seq_do hA rfl rfl rfl (does_assign rfl) ?_
 intro a hA
 refine seq_end ?_
 refine hK2 _ _ ?_
 refine wp_ret ?_
 refine hret _ _ ?_
 refine ends (v := .slice (some ⟨g3, 0, none⟩) 0 2) hA rfl (.cons (res_tmp rfl) .nil) rfl ?_
 have h9 := hM.rowCut 0 rfl (m := 0) (by decide)
 exact ⟨g3, rfl, h9⟩
theorem nof_fix0 {w : World} : Calls Tryd.prog 40 #[.int .u64 0] w fun e w' => ∃ g, e = .returned (.slice (some ⟨g, 0, none⟩) 0 2) ∧ Mg w w' [.row 52 1 (.slice (some ⟨g, 0, none⟩) 0 2) 0 []] := by
 have hM : Mg w w ([]) := Mg.start w
 refine walk_of (l := [(0, .int .u64 0)]) Tryd.func40 rfl Tryd.ntmps40 rfl rfl ?_
 intro Q hret hnorm hP a hA
 refine wp_seq_k (fun K1 hK1 => ?_)
 refine wp_region_lit ?_
 refine seq_do hA rfl rfl rfl (does_assign rfl) ?_
 intro a hA
 refine seq_end ?_
 refine hK1 _ _ ?_
 refine wp_seq_k (fun K2 hK2 => ?_)
 refine wp_region_lit ?_
 refine seq_do hA rfl rfl rfl (does_move rfl) ?_
 intro a hA
 refine seq_call hA rfl rfl rfl (enters_func rfl rfl (fun w => by kernel_rfl)) (wof_fix0) ?_
 rintro _ w5 ⟨g3, rfl, hM4⟩
 replace hM : Mg w w5 (.row 52 1 (.slice (some ⟨g3, 0, none⟩) 0 2) 0 ([]) :: []) := (hM.both hM4 (noBld_quiet quietL_nil) (noBld_cons (by simp) (noBld_quiet quietL_nil)))
 refine ⟨_, rfl, ?_⟩
 intro a hA
 refine seq_do hA rfl rfl rfl (does_assign rfl) ?_
 intro a hA
 refine seq_end ?_
 refine hK2 _ _ ?_
 refine wp_ret ?_
 refine hret _ _ ?_
 refine ends (v := .slice (some ⟨g3, 0, none⟩) 0 2) hA rfl (.cons (res_tmp rfl) .nil) rfl ?_
 exact ⟨_, rfl, hM⟩
theorem trim_fix1 {w : World} {so : Option Addr} {bq oq : Nat} (hq1 : so = some ⟨bq, oq, none⟩) (hq2 : bq < w.heap.size) (hq3 : w.cell? ⟨bq, oq + 0, none⟩ = some (.int .u32 1)) (hq4 : w.cell? ⟨bq, oq + 1, none⟩ = some (.int .u32 0)) : Calls Tryd.prog 92 #[.slice so 2 2] w fun e w' => e = .returned (.slice so 1 2) ∧ Below w.heap.size w w' := by
 have hM : Mg w w ([]) := Mg.start w
 refine walk_of (l := [(0, .slice so 2 2)]) Tryd.func92 rfl Tryd.ntmps92 rfl rfl ?_
 intro Q hret hnorm hP a hA
 refine wp_seq_k (fun K1 hK1 => ?_)
 refine wp_region_lit ?_
 refine seq_do hA rfl rfl rfl (does_assign rfl) ?_
 intro a hA
 refine seq_end ?_
 refine hK1 _ _ ?_
 refine wp_seq_k (fun K2 hK2 => ?_)
 refine wp_block ?_
 refine wp_loop_rounds 3 ?_
 refine rounds_k ?_
 intro K3 hK3
 refine wp_seq_k (fun K4 hK4 => ?_)
 refine wp_seq_k (fun K5 hK5 => ?_)
 refine wp_region_lit ?_
 refine seq_do hA rfl rfl rfl (does_move rfl) ?_
 intro a hA
 refine seq_do (v := .int .i64 2) hA rfl rfl rfl (does_len Tryd.underlying23 rfl) ?_
 intro a hA
 refine seq_do (v := .bool true) hA rfl rfl rfl (does_bin rfl rfl (fun w => by kernel_rfl)) ?_
 intro a hA
 refine seq_do hA rfl rfl rfl (does_move rfl) ?_
 intro a hA
 refine seq_do hA rfl rfl rfl (does_move rfl) ?_
 intro a hA
 refine seq_do hA rfl rfl rfl (does_move rfl) ?_
 intro a hA
 refine seq_do (v := .int .i64 2) hA rfl rfl rfl (does_len Tryd.underlying23 rfl) ?_
 intro a hA
 refine seq_do (v := .int .i64 1) hA rfl rfl rfl (does_bin rfl rfl (fun w => by kernel_rfl)) ?_
 intro a hA
 refine seq_do (v := .pointer (some ⟨bq, oq + 1, none⟩)) hA rfl rfl rfl (does_indexRow (k := 1) Tryd.underlying23 (by kernel_rfl) rfl rfl rfl hq1 (by decide)) ?_
 intro a hA
 refine seq_do (v := .int .u32 0) hA rfl rfl rfl (m_loadR hM hq2 hq4 ByW_is1_52 rfl) ?_
 intro a hA
 refine seq_do (v := .bool true) hA rfl rfl rfl (does_bin rfl rfl (fun w => by kernel_rfl)) ?_
 intro a hA
 refine seq_do (v := .bool true) hA rfl rfl rfl (does_pick rfl rfl rfl rfl) ?_
 intro a hA
 refine seq_end ?_
 refine hK5 _ _ ?_
 refine wp_cond_true (hA.ev rfl) ?_
 refine wp_skip ?_
 refine hK4 _ _ ?_
 refine wp_block ?_
 refine wp_region_lit ?_
 refine seq_do hA rfl rfl rfl (does_move rfl) ?_
 intro a hA
 refine seq_do hA rfl rfl rfl (does_move rfl) ?_
 intro a hA
 refine seq_do (v := .int .i64 2) hA rfl rfl rfl (does_len Tryd.underlying23 rfl) ?_
 intro a hA
 refine seq_do (v := .int .i64 1) hA rfl rfl rfl (does_bin rfl rfl (fun w => by kernel_rfl)) ?_
 intro a hA
 refine seq_do (v := .slice so 1 2) hA rfl rfl rfl (does_upto (sz := 1) (hi := 1) Tryd.underlying23 (by kernel_rfl) rfl rfl rfl (by decide)) ?_
 intro a hA
 refine seq_do hA rfl rfl rfl (does_assign rfl) ?_
 intro a hA
 refine seq_end ?_
 refine hK3 _ _ ?_
 refine rounds_k ?_
 intro K6 hK6
 refine wp_seq_k (fun K7 hK7 => ?_)
 refine wp_seq_k (fun K8 hK8 => ?_)
 refine wp_region_lit ?_
 refine seq_do hA rfl rfl rfl (does_move rfl) ?_
 intro a hA
 refine seq_do (v := .int .i64 1) hA rfl rfl rfl (does_len Tryd.underlying23 rfl) ?_
 intro a hA
 refine seq_do (v := .bool true) hA rfl rfl rfl (does_bin rfl rfl (fun w => by kernel_rfl)) ?_
 intro a hA
 refine seq_do hA rfl rfl rfl (does_move rfl) ?_
 intro a hA
 refine seq_do hA rfl rfl rfl (does_move rfl) ?_
 intro a hA
 refine seq_do hA rfl rfl rfl (does_move rfl) ?_
 intro a hA
 refine seq_do (v := .int .i64 1) hA rfl rfl rfl (does_len Tryd.underlying23 rfl) ?_
 intro a hA
 refine seq_do (v := .int .i64 0) hA rfl rfl rfl (does_bin rfl rfl (fun w => by kernel_rfl)) ?_
 intro a hA
 refine seq_do (v := .pointer (some ⟨bq, oq + 0, none⟩)) hA rfl rfl rfl (does_indexRow (k := 0) Tryd.underlying23 (by kernel_rfl) rfl rfl rfl hq1 (by decide)) ?_
 intro a hA
 refine seq_do (v := .int .u32 1) hA rfl rfl rfl (m_loadR hM hq2 hq3 ByW_is1_52 rfl) ?_
 intro a hA
 refine seq_do (v := .bool false) hA rfl rfl rfl (does_bin rfl rfl (fun w => by kernel_rfl)) ?_
 intro a hA
 refine seq_do (v := .bool false) hA rfl rfl rfl (does_pick rfl rfl rfl rfl) ?_
 intro a hA
 refine seq_end ?_
 refine hK8 _ _ ?_
 refine wp_cond_false (hA.ev rfl) ?_
 refine wp_exit ?_
 refine hK2 _ _ ?_
 refine wp_seq_k (fun K9 hK9 => ?_)
 refine wp_region_lit ?_
 refine seq_do hA rfl rfl rfl (does_move rfl) ?_
 intro a hA
 refine seq_do hA rfl rfl rfl (does_assign rfl) ?_
 intro a hA
 refine seq_end ?_
 refine hK9 _ _ ?_
 refine wp_ret ?_
 refine hret _ _ ?_
 refine ends (v := .slice so 1 2) hA rfl (.cons (res_tmp rfl) .nil) rfl ?_
 exact ⟨rfl, hM.bel⟩
theorem wof_fix1 {w : World} : Calls Tryd.prog 70 #[.int .u64 1] w fun e w' => ∃ g, e = .returned (.slice (some ⟨g, 0, none⟩) 1 2) ∧ Mg w w' [.row 52 1 (.slice (some ⟨g, 0, none⟩) 1 2) 1 [.int .u32 1]] := by
 have hM : Mg w w ([]) := Mg.start w
 refine walk_of (l := [(0, .int .u64 1)]) Tryd.func70 rfl Tryd.ntmps70 rfl rfl ?_
 intro Q hret hnorm hP a hA
 refine wp_seq_k (fun K1 hK1 => ?_)
 refine wp_region_lit ?_
 refine seq_do hA rfl rfl rfl (does_assign rfl) ?_
 intro a hA
 refine seq_end ?_
 refine hK1 _ _ ?_
 refine wp_seq_k (fun K2 hK2 => ?_)
 refine wp_region_lit ?_
 refine seq_do hA rfl rfl rfl (does_move rfl) ?_
 intro a hA
 refine seq_do (v := .int .u32 1) hA rfl rfl rfl (does_convert rfl (fun w => by kernel_rfl)) ?_
 intro a hA
 refine seq_do hA rfl rfl rfl (does_move rfl) ?_
 intro a hA
 refine seq_do (v := .int .u64 0) hA rfl rfl rfl (does_bin rfl rfl (fun w => by kernel_rfl)) ?_
 intro a hA
 refine seq_do (v := .int .u32 0) hA rfl rfl rfl (does_convert rfl (fun w => by kernel_rfl)) ?_
 intro a hA
 refine s_litE (e := 52) (sz := 1) (m := 2) (vs := [.int .u32 1, .int .u32 0]) hA hM rfl rfl rfl (does_buildSlice rfl (by kernel_rfl)) rfl rfl (.inl (by decide)) ?_
 intro g3 w4 hM a hA
 have hr9 : _ := hM.has 0 rfl
 have hc9 : ∀ j u, ([.int .u32 1, .int .u32 0] : List Value)[j]? = some u → World.cell? _ ⟨g3, j, none⟩ = some u := row_cellsZ hM 0 rfl
 refine seq_call hA rfl rfl rfl (enters_func rfl rfl (fun w => by kernel_rfl)) (trim_fix1 (so := some ⟨g3, 0, none⟩) rfl (row_ltZ hM 0 rfl) (hc9 0 _ rfl) (hc9 1 _ rfl)) ?_
 rintro _ w6 ⟨rfl, hb5⟩
 replace hM := hM.call hb5
 refine ⟨_, rfl, ?_⟩
 intro a hA
 refine seq_do hA rfl rfl rfl (does_assign rfl) ?_
 intro a hA
 refine seq_end ?_
 refine hK2 _ _ ?_
 refine wp_ret ?_
 refine hret _ _ ?_
 refine ends (v := .slice (some ⟨g3, 0, none⟩) 1 2) hA rfl (.cons (res_tmp rfl) .nil) rfl ?_
 have h9 := hM.rowCut 0 rfl (m := 1) (by decide)
 exact ⟨g3, rfl, h9⟩
theorem nof_fix1 {w : World} : Calls Tryd.prog 40 #[.int .u64 1] w fun e w' => ∃ g, e = .returned (.slice (some ⟨g, 0, none⟩) 1 2) ∧ Mg w w' [.row 52 1 (.slice (some ⟨g, 0, none⟩) 1 2) 1 [.int .u32 1]] := by
 have hM : Mg w w ([]) := Mg.start w
 refine walk_of (l := [(0, .int .u64 1)]) Tryd.func40 rfl Tryd.ntmps40 rfl rfl ?_
 intro Q hret hnorm hP a hA
 refine wp_seq_k (fun K1 hK1 => ?_)
 refine wp_region_lit ?_
 refine seq_do hA rfl rfl rfl (does_assign rfl) ?_
 intro a hA
 refine seq_end ?_
 refine hK1 _ _ ?_
 refine wp_seq_k (fun K2 hK2 => ?_)
 refine wp_region_lit ?_
 refine seq_do hA rfl rfl rfl (does_move rfl) ?_
 intro a hA
 refine seq_call hA rfl rfl rfl (enters_func rfl rfl (fun w => by kernel_rfl)) (wof_fix1) ?_
 rintro _ w5 ⟨g3, rfl, hM4⟩
 replace hM : Mg w w5 (.row 52 1 (.slice (some ⟨g3, 0, none⟩) 1 2) 1 ([.int .u32 1]) :: []) := (hM.both hM4 (noBld_quiet quietL_nil) (noBld_cons (by simp) (noBld_quiet quietL_nil)))
 refine ⟨_, rfl, ?_⟩
 intro a hA
 refine seq_do hA rfl rfl rfl (does_assign rfl) ?_
 intro a hA
 refine seq_end ?_
 refine hK2 _ _ ?_
 refine wp_ret ?_
 refine hret _ _ ?_
 refine ends (v := .slice (some ⟨g3, 0, none⟩) 1 2) hA rfl (.cons (res_tmp rfl) .nil) rfl ?_
 exact ⟨_, rfl, hM⟩
theorem trim_fix258 {w : World} {so : Option Addr} {bq oq : Nat} (hq1 : so = some ⟨bq, oq, none⟩) (hq2 : bq < w.heap.size) (hq3 : w.cell? ⟨bq, oq + 0, none⟩ = some (.int .u32 258)) (hq4 : w.cell? ⟨bq, oq + 1, none⟩ = some (.int .u32 0)) : Calls Tryd.prog 92 #[.slice so 2 2] w fun e w' => e = .returned (.slice so 1 2) ∧ Below w.heap.size w w' := by
 have hM : Mg w w ([]) := Mg.start w
 refine walk_of (l := [(0, .slice so 2 2)]) Tryd.func92 rfl Tryd.ntmps92 rfl rfl ?_
 intro Q hret hnorm hP a hA
 refine wp_seq_k (fun K1 hK1 => ?_)
 refine wp_region_lit ?_
 refine seq_do hA rfl rfl rfl (does_assign rfl) ?_
 intro a hA
 refine seq_end ?_
 refine hK1 _ _ ?_
 refine wp_seq_k (fun K2 hK2 => ?_)
 refine wp_block ?_
 refine wp_loop_rounds 3 ?_
 refine rounds_k ?_
 intro K3 hK3
 refine wp_seq_k (fun K4 hK4 => ?_)
 refine wp_seq_k (fun K5 hK5 => ?_)
 refine wp_region_lit ?_
 refine seq_do hA rfl rfl rfl (does_move rfl) ?_
 intro a hA
 refine seq_do (v := .int .i64 2) hA rfl rfl rfl (does_len Tryd.underlying23 rfl) ?_
 intro a hA
 refine seq_do (v := .bool true) hA rfl rfl rfl (does_bin rfl rfl (fun w => by kernel_rfl)) ?_
 intro a hA
 refine seq_do hA rfl rfl rfl (does_move rfl) ?_
 intro a hA
 refine seq_do hA rfl rfl rfl (does_move rfl) ?_
 intro a hA
 refine seq_do hA rfl rfl rfl (does_move rfl) ?_
 intro a hA
 refine seq_do (v := .int .i64 2) hA rfl rfl rfl (does_len Tryd.underlying23 rfl) ?_
 intro a hA
 refine seq_do (v := .int .i64 1) hA rfl rfl rfl (does_bin rfl rfl (fun w => by kernel_rfl)) ?_
 intro a hA
 refine seq_do (v := .pointer (some ⟨bq, oq + 1, none⟩)) hA rfl rfl rfl (does_indexRow (k := 1) Tryd.underlying23 (by kernel_rfl) rfl rfl rfl hq1 (by decide)) ?_
 intro a hA
 refine seq_do (v := .int .u32 0) hA rfl rfl rfl (m_loadR hM hq2 hq4 ByW_is1_52 rfl) ?_
 intro a hA
 refine seq_do (v := .bool true) hA rfl rfl rfl (does_bin rfl rfl (fun w => by kernel_rfl)) ?_
 intro a hA
 refine seq_do (v := .bool true) hA rfl rfl rfl (does_pick rfl rfl rfl rfl) ?_
 intro a hA
 refine seq_end ?_
 refine hK5 _ _ ?_
 refine wp_cond_true (hA.ev rfl) ?_
 refine wp_skip ?_
 refine hK4 _ _ ?_
 refine wp_block ?_
 refine wp_region_lit ?_
 refine seq_do hA rfl rfl rfl (does_move rfl) ?_
 intro a hA
 refine seq_do hA rfl rfl rfl (does_move rfl) ?_
 intro a hA
 refine seq_do (v := .int .i64 2) hA rfl rfl rfl (does_len Tryd.underlying23 rfl) ?_
 intro a hA
 refine seq_do (v := .int .i64 1) hA rfl rfl rfl (does_bin rfl rfl (fun w => by kernel_rfl)) ?_
 intro a hA
 refine seq_do (v := .slice so 1 2) hA rfl rfl rfl (does_upto (sz := 1) (hi := 1) Tryd.underlying23 (by kernel_rfl) rfl rfl rfl (by decide)) ?_
 intro a hA
 refine seq_do hA rfl rfl rfl (does_assign rfl) ?_
 intro a hA
 refine seq_end ?_
 refine hK3 _ _ ?_
 refine rounds_k ?_
 intro K6 hK6
 refine wp_seq_k (fun K7 hK7 => ?_)
 refine wp_seq_k (fun K8 hK8 => ?_)
 refine wp_region_lit ?_
 refine seq_do hA rfl rfl rfl (does_move rfl) ?_
 intro a hA
 refine seq_do (v := .int .i64 1) hA rfl rfl rfl (does_len Tryd.underlying23 rfl) ?_
 intro a hA
 refine seq_do (v := .bool true) hA rfl rfl rfl (does_bin rfl rfl (fun w => by kernel_rfl)) ?_
 intro a hA
 refine seq_do hA rfl rfl rfl (does_move rfl) ?_
 intro a hA
 refine seq_do hA rfl rfl rfl (does_move rfl) ?_
 intro a hA
 refine seq_do hA rfl rfl rfl (does_move rfl) ?_
 intro a hA
 refine seq_do (v := .int .i64 1) hA rfl rfl rfl (does_len Tryd.underlying23 rfl) ?_
 intro a hA
 refine seq_do (v := .int .i64 0) hA rfl rfl rfl (does_bin rfl rfl (fun w => by kernel_rfl)) ?_
 intro a hA
 refine seq_do (v := .pointer (some ⟨bq, oq + 0, none⟩)) hA rfl rfl rfl (does_indexRow (k := 0) Tryd.underlying23 (by kernel_rfl) rfl rfl rfl hq1 (by decide)) ?_
 intro a hA
 refine seq_do (v := .int .u32 258) hA rfl rfl rfl (m_loadR hM hq2 hq3 ByW_is1_52 rfl) ?_
 intro a hA
 refine seq_do (v := .bool false) hA rfl rfl rfl (does_bin rfl rfl (fun w => by kernel_rfl)) ?_
 intro a hA
 refine seq_do (v := .bool false) hA rfl rfl rfl (does_pick rfl rfl rfl rfl) ?_
 intro a hA
 refine seq_end ?_
 refine hK8 _ _ ?_
 refine wp_cond_false (hA.ev rfl) ?_
 refine wp_exit ?_
 refine hK2 _ _ ?_
 refine wp_seq_k (fun K9 hK9 => ?_)
 refine wp_region_lit ?_
 refine seq_do hA rfl rfl rfl (does_move rfl) ?_
 intro a hA
 refine seq_do hA rfl rfl rfl (does_assign rfl) ?_
 intro a hA
 refine seq_end ?_
 refine hK9 _ _ ?_
 refine wp_ret ?_
 refine hret _ _ ?_
 refine ends (v := .slice so 1 2) hA rfl (.cons (res_tmp rfl) .nil) rfl ?_
 exact ⟨rfl, hM.bel⟩
theorem wof_fix258 {w : World} : Calls Tryd.prog 70 #[.int .u64 258] w fun e w' => ∃ g, e = .returned (.slice (some ⟨g, 0, none⟩) 1 2) ∧ Mg w w' [.row 52 1 (.slice (some ⟨g, 0, none⟩) 1 2) 1 [.int .u32 258]] := by
 have hM : Mg w w ([]) := Mg.start w
 refine walk_of (l := [(0, .int .u64 258)]) Tryd.func70 rfl Tryd.ntmps70 rfl rfl ?_
 intro Q hret hnorm hP a hA
 refine wp_seq_k (fun K1 hK1 => ?_)
 refine wp_region_lit ?_
 refine seq_do hA rfl rfl rfl (does_assign rfl) ?_
 intro a hA
 refine seq_end ?_
 refine hK1 _ _ ?_
 refine wp_seq_k (fun K2 hK2 => ?_)
 refine wp_region_lit ?_
 refine seq_do hA rfl rfl rfl (does_move rfl) ?_
 intro a hA
 refine seq_do (v := .int .u32 258) hA rfl rfl rfl (does_convert rfl (fun w => by kernel_rfl)) ?_
 intro a hA
 refine seq_do hA rfl rfl rfl (does_move rfl) ?_
 intro a hA
 refine seq_do (v := .int .u64 0) hA rfl rfl rfl (does_bin rfl rfl (fun w => by kernel_rfl)) ?_
 intro a hA
 refine seq_do (v := .int .u32 0) hA rfl rfl rfl (does_convert rfl (fun w => by kernel_rfl)) ?_
 intro a hA
 refine s_litE (e := 52) (sz := 1) (m := 2) (vs := [.int .u32 258, .int .u32 0]) hA hM rfl rfl rfl (does_buildSlice rfl (by kernel_rfl)) rfl rfl (.inl (by decide)) ?_
 intro g3 w4 hM a hA
 have hr9 : _ := hM.has 0 rfl
 have hc9 : ∀ j u, ([.int .u32 258, .int .u32 0] : List Value)[j]? = some u → World.cell? _ ⟨g3, j, none⟩ = some u := row_cellsZ hM 0 rfl
 refine seq_call hA rfl rfl rfl (enters_func rfl rfl (fun w => by kernel_rfl)) (trim_fix258 (so := some ⟨g3, 0, none⟩) rfl (row_ltZ hM 0 rfl) (hc9 0 _ rfl) (hc9 1 _ rfl)) ?_
 rintro _ w6 ⟨rfl, hb5⟩
 replace hM := hM.call hb5
 refine ⟨_, rfl, ?_⟩
 intro a hA
 refine seq_do hA rfl rfl rfl (does_assign rfl) ?_
 intro a hA
 refine seq_end ?_
 refine hK2 _ _ ?_
 refine wp_ret ?_
 refine hret _ _ ?_
 refine ends (v := .slice (some ⟨g3, 0, none⟩) 1 2) hA rfl (.cons (res_tmp rfl) .nil) rfl ?_
 have h9 := hM.rowCut 0 rfl (m := 1) (by decide)
 exact ⟨g3, rfl, h9⟩
theorem nof_fix258 {w : World} : Calls Tryd.prog 40 #[.int .u64 258] w fun e w' => ∃ g, e = .returned (.slice (some ⟨g, 0, none⟩) 1 2) ∧ Mg w w' [.row 52 1 (.slice (some ⟨g, 0, none⟩) 1 2) 1 [.int .u32 258]] := by
 have hM : Mg w w ([]) := Mg.start w
 refine walk_of (l := [(0, .int .u64 258)]) Tryd.func40 rfl Tryd.ntmps40 rfl rfl ?_
 intro Q hret hnorm hP a hA
 refine wp_seq_k (fun K1 hK1 => ?_)
 refine wp_region_lit ?_
 refine seq_do hA rfl rfl rfl (does_assign rfl) ?_
 intro a hA
 refine seq_end ?_
 refine hK1 _ _ ?_
 refine wp_seq_k (fun K2 hK2 => ?_)
 refine wp_region_lit ?_
 refine seq_do hA rfl rfl rfl (does_move rfl) ?_
 intro a hA
 refine seq_call hA rfl rfl rfl (enters_func rfl rfl (fun w => by kernel_rfl)) (wof_fix258) ?_
 rintro _ w5 ⟨g3, rfl, hM4⟩
 replace hM : Mg w w5 (.row 52 1 (.slice (some ⟨g3, 0, none⟩) 1 2) 1 ([.int .u32 258]) :: []) := (hM.both hM4 (noBld_quiet quietL_nil) (noBld_cons (by simp) (noBld_quiet quietL_nil)))
 refine ⟨_, rfl, ?_⟩
 intro a hA
 refine seq_do hA rfl rfl rfl (does_assign rfl) ?_
 intro a hA
 refine seq_end ?_
 refine hK2 _ _ ?_
 refine wp_ret ?_
 refine hret _ _ ?_
 refine ends (v := .slice (some ⟨g3, 0, none⟩) 1 2) hA rfl (.cons (res_tmp rfl) .nil) rfl ?_
 exact ⟨_, rfl, hM⟩
theorem int_fix0 {w : World} : Calls Tryd.prog 15 #[.int .i64 0] w fun e w' => ∃ g1 g2 g3, e = .returned (.agg #[.bool false, .slice (some ⟨g1, 0, none⟩) 0 2, .slice (some ⟨g2, 0, none⟩) 1 2, .bool false, .slice none 0 0, .slice (some ⟨g3, 0, none⟩) 1 2]) ∧ Mg w w' [.row 52 1 (.slice (some ⟨g1, 0, none⟩) 0 2) 0 [], .row 52 1 (.slice (some ⟨g2, 0, none⟩) 1 2) 1 [.int .u32 1], .row 52 1 (.slice (some ⟨g3, 0, none⟩) 1 2) 1 [.int .u32 1]] := by
 have hM : Mg w w ([]) := Mg.start w
 refine walk_of (l := [(0, .int .i64 0)]) Tryd.func15 rfl Tryd.ntmps15 rfl rfl ?_
 intro Q hret hnorm hP a hA
 refine wp_seq_k (fun K1 hK1 => ?_)
 refine wp_region_lit ?_
 refine s_new (vs := [.bool false, .slice none 0 0, .slice none 0 0, .bool false, .slice none 0 0, .slice none 0 0]) (t := 27) hA hM rfl rfl rfl (fun g => .pointer (some ⟨g, 0, none⟩)) (does_alloc (z := .agg #[.bool false, .slice none 0 0, .slice none 0 0, .bool false, .slice none 0 0, .slice none 0 0]) (by kernel_rfl) rfl) (by decide) ?_
 intro g2 w3 hM a hA
 refine seq_end ?_
 refine hK1 _ _ ?_
 refine wp_seq_k (fun K4 hK4 => ?_)
 refine wp_region_lit ?_
 refine seq_do hA rfl rfl rfl (does_move rfl) ?_
 intro a hA
 refine seq_do (v := .int .u64 0) hA rfl rfl rfl (does_convert rfl (fun w => by kernel_rfl)) ?_
 intro a hA
 refine seq_do hA rfl rfl rfl (does_assign rfl) ?_
 intro a hA
 refine seq_end ?_
 refine hK4 _ _ ?_
 refine wp_seq_k (fun K5 hK5 => ?_)
 refine wp_seq_k (fun K6 hK6 => ?_)
 refine wp_region_lit ?_
 refine seq_do hA rfl rfl rfl (does_move rfl) ?_
 intro a hA
 refine seq_do (v := .bool false) hA rfl rfl rfl (does_bin rfl rfl (fun w => by kernel_rfl)) ?_
 intro a hA
 refine seq_end ?_
 refine hK6 _ _ ?_
 refine wp_cond_false (hA.ev rfl) ?_
 refine wp_skip ?_
 refine hK5 _ _ ?_
 refine wp_seq_k (fun K7 hK7 => ?_)
 refine wp_region_lit ?_
 refine seq_do hA rfl rfl rfl (does_move rfl) ?_
 intro a hA
 refine seq_do (v := .bool false) hA rfl rfl rfl (does_bin rfl rfl (fun w => by kernel_rfl)) ?_
 intro a hA
 refine seq_do hA rfl rfl rfl (does_move rfl) ?_
 intro a hA
 refine seq_call hA rfl rfl rfl (enters_func rfl rfl (fun w => by kernel_rfl)) (nof_fix0) ?_
 rintro _ w10 ⟨g8, rfl, hM9⟩
 replace hM : Mg w w10 (.row 52 1 (.slice (some ⟨g8, 0, none⟩) 0 2) 0 ([]) :: .obj g2 (.cells #[.bool false, .slice none 0 0, .slice none 0 0, .bool false, .slice none 0 0, .slice none 0 0] 27) :: []) := (hM.both hM9 (noBld_cons (by simp) (noBld_quiet quietL_nil)) (noBld_cons (by simp) (noBld_quiet quietL_nil)))
 refine ⟨_, rfl, ?_⟩
 intro a hA
 refine seq_call hA rfl rfl rfl (enters_func rfl rfl (fun w => by kernel_rfl)) (nof_fix1) ?_
 rintro _ w13 ⟨g11, rfl, hM12⟩
 replace hM : Mg w w13 (.row 52 1 (.slice (some ⟨g11, 0, none⟩) 1 2) 1 ([.int .u32 1]) :: .row 52 1 (.slice (some ⟨g8, 0, none⟩) 0 2) 0 ([]) :: .obj g2 (.cells #[.bool false, .slice none 0 0, .slice none 0 0, .bool false, .slice none 0 0, .slice none 0 0] 27) :: []) := (hM.both hM12 (noBld_cons (by simp) (noBld_cons (by simp) (noBld_quiet quietL_nil))) (noBld_cons (by simp) (noBld_quiet quietL_nil)))
 refine ⟨_, rfl, ?_⟩
 intro a hA
 refine seq_do (v := .agg #[.bool false, .slice (some ⟨g8, 0, none⟩) 0 2, .slice (some ⟨g11, 0, none⟩) 1 2]) hA rfl rfl rfl (does_build rfl (fun w => by kernel_rfl)) ?_
 intro a hA
 refine seq_call hA rfl rfl rfl (enters_func rfl rfl (fun w => by kernel_rfl)) (nof_fix1) ?_
 rintro _ w16 ⟨g14, rfl, hM15⟩
 replace hM : Mg w w16 (.row 52 1 (.slice (some ⟨g14, 0, none⟩) 1 2) 1 ([.int .u32 1]) :: .row 52 1 (.slice (some ⟨g11, 0, none⟩) 1 2) 1 ([.int .u32 1]) :: .row 52 1 (.slice (some ⟨g8, 0, none⟩) 0 2) 0 ([]) :: .obj g2 (.cells #[.bool false, .slice none 0 0, .slice none 0 0, .bool false, .slice none 0 0, .slice none 0 0] 27) :: []) := (hM.both hM15 (noBld_cons (by simp) (noBld_cons (by simp) (noBld_cons (by simp) (noBld_quiet quietL_nil)))) (noBld_cons (by simp) (noBld_quiet quietL_nil)))
 refine ⟨_, rfl, ?_⟩
 intro a hA
 refine seq_do (v := .agg #[.bool false, .slice none 0 0, .slice (some ⟨g14, 0, none⟩) 1 2]) hA rfl rfl rfl (does_build rfl (fun w => by kernel_rfl)) ?_
 intro a hA
 refine seq_do (v := .agg #[.bool false, .slice (some ⟨g8, 0, none⟩) 0 2, .slice (some ⟨g11, 0, none⟩) 1 2, .bool false, .slice none 0 0, .slice (some ⟨g14, 0, none⟩) 1 2]) hA rfl rfl rfl (does_build rfl (fun w => by kernel_rfl)) ?_
 intro a hA
 refine s_store (us := [.bool false, .slice (some ⟨g8, 0, none⟩) 0 2, .slice (some ⟨g11, 0, none⟩) 1 2, .bool false, .slice none 0 0, .slice (some ⟨g14, 0, none⟩) 1 2]) (L' := (.row 52 1 (.slice (some ⟨g14, 0, none⟩) 1 2) 1 ([.int .u32 1]) :: .row 52 1 (.slice (some ⟨g11, 0, none⟩) 1 2) 1 ([.int .u32 1]) :: .row 52 1 (.slice (some ⟨g8, 0, none⟩) 0 2) 0 ([]) :: .obj g2 (.cells #[.bool false, .slice (some ⟨g8, 0, none⟩) 0 2, .slice (some ⟨g11, 0, none⟩) 1 2, .bool false, .slice none 0 0, .slice (some ⟨g14, 0, none⟩) 1 2] 27) :: [])) hA hM rfl rfl (m_store rfl rfl rfl (by kernel_rfl) hM 3 rfl rfl rfl) 3 rfl rfl rfl ?_
 intro w17 hM
 refine seq_end ?_
 refine hK7 _ _ ?_
 refine wp_ret ?_
 refine hret _ _ ?_
 refine ends (v := .agg #[.bool false, .slice (some ⟨g8, 0, none⟩) 0 2, .slice (some ⟨g11, 0, none⟩) 1 2, .bool false, .slice none 0 0, .slice (some ⟨g14, 0, none⟩) 1 2]) hA rfl (.cons (res_cellS hM ByW_isS_27 rfl 3 rfl (cs := [.bool false, .slice (some ⟨g8, 0, none⟩) 0 2, .slice (some ⟨g11, 0, none⟩) 1 2, .bool false, .slice none 0 0, .slice (some ⟨g14, 0, none⟩) 1 2]) rfl rfl) .nil) rfl ?_
 replace hM : Mg w w17 (.row 52 1 (.slice (some ⟨g14, 0, none⟩) 1 2) 1 ([.int .u32 1]) :: .row 52 1 (.slice (some ⟨g11, 0, none⟩) 1 2) 1 ([.int .u32 1]) :: .row 52 1 (.slice (some ⟨g8, 0, none⟩) 0 2) 0 ([]) :: []) := by
   have h9 := hM.sub (.cons_cons _ (.cons_cons _ (.cons_cons _ (.cons _ (.refl _)))))
   exact h9
 replace hM : Mg w w17 (.row 52 1 (.slice (some ⟨g11, 0, none⟩) 1 2) 1 ([.int .u32 1]) :: .row 52 1 (.slice (some ⟨g14, 0, none⟩) 1 2) 1 ([.int .u32 1]) :: .row 52 1 (.slice (some ⟨g8, 0, none⟩) 0 2) 0 ([]) :: []) := hM.perm (List.perm_middle (l₁ := [_]))
 replace hM : Mg w w17 (.row 52 1 (.slice (some ⟨g8, 0, none⟩) 0 2) 0 ([]) :: .row 52 1 (.slice (some ⟨g11, 0, none⟩) 1 2) 1 ([.int .u32 1]) :: .row 52 1 (.slice (some ⟨g14, 0, none⟩) 1 2) 1 ([.int .u32 1]) :: []) := hM.perm (List.perm_middle (l₁ := [_, _]))
 exact ⟨g8, g11, g14, rfl, hM⟩
theorem int_fix258 {w : World} : Calls Tryd.prog 15 #[.int .i64 258] w fun e w' => ∃ g1 g2 g3, e = .returned (.agg #[.bool false, .slice (some ⟨g1, 0, none⟩) 1 2, .slice (some ⟨g2, 0, none⟩) 1 2, .bool false, .slice none 0 0, .slice (some ⟨g3, 0, none⟩) 1 2]) ∧ Mg w w' [.row 52 1 (.slice (some ⟨g1, 0, none⟩) 1 2) 1 [.int .u32 258], .row 52 1 (.slice (some ⟨g2, 0, none⟩) 1 2) 1 [.int .u32 1], .row 52 1 (.slice (some ⟨g3, 0, none⟩) 1 2) 1 [.int .u32 1]] := by
 have hM : Mg w w ([]) := Mg.start w
 refine walk_of (l := [(0, .int .i64 258)]) Tryd.func15 rfl Tryd.ntmps15 rfl rfl ?_
 intro Q hret hnorm hP a hA
 refine wp_seq_k (fun K1 hK1 => ?_)
 refine wp_region_lit ?_
 refine s_new (vs := [.bool false, .slice none 0 0, .slice none 0 0, .bool false, .slice none 0 0, .slice none 0 0]) (t := 27) hA hM rfl rfl rfl (fun g => .pointer (some ⟨g, 0, none⟩)) (does_alloc (z := .agg #[.bool false, .slice none 0 0, .slice none 0 0, .bool false, .slice none 0 0, .slice none 0 0]) (by kernel_rfl) rfl) (by decide) ?_
 intro g2 w3 hM a hA
 refine seq_end ?_
 refine hK1 _ _ ?_
 refine wp_seq_k (fun K4 hK4 => ?_)
 refine wp_region_lit ?_
 refine seq_do hA rfl rfl rfl (does_move rfl) ?_
 intro a hA
 refine seq_do (v := .int .u64 258) hA rfl rfl rfl (does_convert rfl (fun w => by kernel_rfl)) ?_
 intro a hA
 refine seq_do hA rfl rfl rfl (does_assign rfl) ?_
 intro a hA
 refine seq_end ?_
 refine hK4 _ _ ?_
 refine wp_seq_k (fun K5 hK5 => ?_)
 refine wp_seq_k (fun K6 hK6 => ?_)
 refine wp_region_lit ?_
 refine seq_do hA rfl rfl rfl (does_move rfl) ?_
 intro a hA
 refine seq_do (v := .bool false) hA rfl rfl rfl (does_bin rfl rfl (fun w => by kernel_rfl)) ?_
 intro a hA
 refine seq_end ?_
 refine hK6 _ _ ?_
 refine wp_cond_false (hA.ev rfl) ?_
 refine wp_skip ?_
 refine hK5 _ _ ?_
 refine wp_seq_k (fun K7 hK7 => ?_)
 refine wp_region_lit ?_
 refine seq_do hA rfl rfl rfl (does_move rfl) ?_
 intro a hA
 refine seq_do (v := .bool false) hA rfl rfl rfl (does_bin rfl rfl (fun w => by kernel_rfl)) ?_
 intro a hA
 refine seq_do hA rfl rfl rfl (does_move rfl) ?_
 intro a hA
 refine seq_call hA rfl rfl rfl (enters_func rfl rfl (fun w => by kernel_rfl)) (nof_fix258) ?_
 rintro _ w10 ⟨g8, rfl, hM9⟩
 replace hM : Mg w w10 (.row 52 1 (.slice (some ⟨g8, 0, none⟩) 1 2) 1 ([.int .u32 258]) :: .obj g2 (.cells #[.bool false, .slice none 0 0, .slice none 0 0, .bool false, .slice none 0 0, .slice none 0 0] 27) :: []) := (hM.both hM9 (noBld_cons (by simp) (noBld_quiet quietL_nil)) (noBld_cons (by simp) (noBld_quiet quietL_nil)))
 refine ⟨_, rfl, ?_⟩
 intro a hA
 refine seq_call hA rfl rfl rfl (enters_func rfl rfl (fun w => by kernel_rfl)) (nof_fix1) ?_
 rintro _ w13 ⟨g11, rfl, hM12⟩
 replace hM : Mg w w13 (.row 52 1 (.slice (some ⟨g11, 0, none⟩) 1 2) 1 ([.int .u32 1]) :: .row 52 1 (.slice (some ⟨g8, 0, none⟩) 1 2) 1 ([.int .u32 258]) :: .obj g2 (.cells #[.bool false, .slice none 0 0, .slice none 0 0, .bool false, .slice none 0 0, .slice none 0 0] 27) :: []) := (hM.both hM12 (noBld_cons (by simp) (noBld_cons (by simp) (noBld_quiet quietL_nil))) (noBld_cons (by simp) (noBld_quiet quietL_nil)))
 refine ⟨_, rfl, ?_⟩
 intro a hA
 refine seq_do (v := .agg #[.bool false, .slice (some ⟨g8, 0, none⟩) 1 2, .slice (some ⟨g11, 0, none⟩) 1 2]) hA rfl rfl rfl (does_build rfl (fun w => by kernel_rfl)) ?_
 intro a hA
 refine seq_call hA rfl rfl rfl (enters_func rfl rfl (fun w => by kernel_rfl)) (nof_fix1) ?_
 rintro _ w16 ⟨g14, rfl, hM15⟩
 replace hM : Mg w w16 (.row 52 1 (.slice (some ⟨g14, 0, none⟩) 1 2) 1 ([.int .u32 1]) :: .row 52 1 (.slice (some ⟨g11, 0, none⟩) 1 2) 1 ([.int .u32 1]) :: .row 52 1 (.slice (some ⟨g8, 0, none⟩) 1 2) 1 ([.int .u32 258]) :: .obj g2 (.cells #[.bool false, .slice none 0 0, .slice none 0 0, .bool false, .slice none 0 0, .slice none 0 0] 27) :: []) := (hM.both hM15 (noBld_cons (by simp) (noBld_cons (by simp) (noBld_cons (by simp) (noBld_quiet quietL_nil)))) (noBld_cons (by simp) (noBld_quiet quietL_nil)))
 refine ⟨_, rfl, ?_⟩
 intro a hA
 refine seq_do (v := .agg #[.bool false, .slice none 0 0, .slice (some ⟨g14, 0, none⟩) 1 2]) hA rfl rfl rfl (does_build rfl (fun w => by kernel_rfl)) ?_
 intro a hA
 refine seq_do (v := .agg #[.bool false, .slice (some ⟨g8, 0, none⟩) 1 2, .slice (some ⟨g11, 0, none⟩) 1 2, .bool false, .slice none 0 0, .slice (some ⟨g14, 0, none⟩) 1 2]) hA rfl rfl rfl (does_build rfl (fun w => by kernel_rfl)) ?_
 intro a hA
 refine s_store (us := [.bool false, .slice (some ⟨g8, 0, none⟩) 1 2, .slice (some ⟨g11, 0, none⟩) 1 2, .bool false, .slice none 0 0, .slice (some ⟨g14, 0, none⟩) 1 2]) (L' := (.row 52 1 (.slice (some ⟨g14, 0, none⟩) 1 2) 1 ([.int .u32 1]) :: .row 52 1 (.slice (some ⟨g11, 0, none⟩) 1 2) 1 ([.int .u32 1]) :: .row 52 1 (.slice (some ⟨g8, 0, none⟩) 1 2) 1 ([.int .u32 258]) :: .obj g2 (.cells #[.bool false, .slice (some ⟨g8, 0, none⟩) 1 2, .slice (some ⟨g11, 0, none⟩) 1 2, .bool false, .slice none 0 0, .slice (some ⟨g14, 0, none⟩) 1 2] 27) :: [])) hA hM rfl rfl (m_store rfl rfl rfl (by kernel_rfl) hM 3 rfl rfl rfl) 3 rfl rfl rfl ?_
 intro w17 hM
 refine seq_end ?_
 refine hK7 _ _ ?_
 refine wp_ret ?_
 refine hret _ _ ?_
 refine ends (v := .agg #[.bool false, .slice (some ⟨g8, 0, none⟩) 1 2, .slice (some ⟨g11, 0, none⟩) 1 2, .bool false, .slice none 0 0, .slice (some ⟨g14, 0, none⟩) 1 2]) hA rfl (.cons (res_cellS hM ByW_isS_27 rfl 3 rfl (cs := [.bool false, .slice (some ⟨g8, 0, none⟩) 1 2, .slice (some ⟨g11, 0, none⟩) 1 2, .bool false, .slice none 0 0, .slice (some ⟨g14, 0, none⟩) 1 2]) rfl rfl) .nil) rfl ?_
 replace hM : Mg w w17 (.row 52 1 (.slice (some ⟨g14, 0, none⟩) 1 2) 1 ([.int .u32 1]) :: .row 52 1 (.slice (some ⟨g11, 0, none⟩) 1 2) 1 ([.int .u32 1]) :: .row 52 1 (.slice (some ⟨g8, 0, none⟩) 1 2) 1 ([.int .u32 258]) :: []) := by
   have h9 := hM.sub (.cons_cons _ (.cons_cons _ (.cons_cons _ (.cons _ (.refl _)))))
   exact h9
 replace hM : Mg w w17 (.row 52 1 (.slice (some ⟨g11, 0, none⟩) 1 2) 1 ([.int .u32 1]) :: .row 52 1 (.slice (some ⟨g14, 0, none⟩) 1 2) 1 ([.int .u32 1]) :: .row 52 1 (.slice (some ⟨g8, 0, none⟩) 1 2) 1 ([.int .u32 258]) :: []) := hM.perm (List.perm_middle (l₁ := [_]))
 replace hM : Mg w w17 (.row 52 1 (.slice (some ⟨g8, 0, none⟩) 1 2) 1 ([.int .u32 258]) :: .row 52 1 (.slice (some ⟨g11, 0, none⟩) 1 2) 1 ([.int .u32 1]) :: .row 52 1 (.slice (some ⟨g14, 0, none⟩) 1 2) 1 ([.int .u32 1]) :: []) := hM.perm (List.perm_middle (l₁ := [_, _]))
 exact ⟨g8, g11, g14, rfl, hM⟩
theorem natural_fix {w : World} {so : Option Addr} {ca : Nat} (hb : Rb w so [2, 1]) (hca : 2 ≤ ca) : Calls Tryd.prog 49 #[.slice so 2 ca] w fun e w' => ∃ g1 g2 g3, e = .returned (.agg #[.bool false, .slice (some ⟨g1, 0, none⟩) 1 1, .slice (some ⟨g2, 0, none⟩) 1 2, .bool false, .slice none 0 0, .slice (some ⟨g3, 0, none⟩) 1 2]) ∧ Mg w w' [.row 52 1 (.slice (some ⟨g1, 0, none⟩) 1 1) 1 [.int .u32 258], .row 52 1 (.slice (some ⟨g2, 0, none⟩) 1 2) 1 [.int .u32 1], .row 52 1 (.slice (some ⟨g3, 0, none⟩) 1 2) 1 [.int .u32 1]] := by
 have hM : Mg w w ([]) := Mg.start w
 refine walk_of (l := [(0, .slice so 2 ca)]) Tryd.func49 rfl Tryd.ntmps49 rfl rfl ?_
 intro Q hret hnorm hP a hA
 refine wp_seq_k (fun K1 hK1 => ?_)
 refine wp_region_lit ?_
 refine s_new (vs := [.bool false, .slice none 0 0, .slice none 0 0, .bool false, .slice none 0 0, .slice none 0 0]) (t := 27) hA hM rfl rfl rfl (fun g => .pointer (some ⟨g, 0, none⟩)) (does_alloc (z := .agg #[.bool false, .slice none 0 0, .slice none 0 0, .bool false, .slice none 0 0, .slice none 0 0]) (by kernel_rfl) rfl) (by decide) ?_
 intro g2 w3 hM a hA
 refine seq_end ?_
 refine hK1 _ _ ?_
 refine wp_seq_k (fun K4 hK4 => ?_)
 refine wp_region_lit ?_
 refine seq_do hA rfl rfl rfl (does_move rfl) ?_
 intro a hA
 refine seq_call hA rfl rfl rfl (enters_func rfl rfl (fun w => by kernel_rfl)) ((show Calls Tryd.prog 78 _ _ (fun e w' => e = .returned (.slice so 2 ca) ∧ Below _ _ w') from trimRight_any (l := [2, 1]) (hb.below hM.bel) (by decide) hca)) ?_
 rintro _ w6 ⟨rfl, hb5⟩
 replace hM := hM.call hb5
 refine ⟨_, rfl, ?_⟩
 intro a hA
 refine seq_do hA rfl rfl rfl (does_assign rfl) ?_
 intro a hA
 refine seq_end ?_
 refine hK4 _ _ ?_
 refine wp_seq_k (fun K7 hK7 => ?_)
 refine wp_region_lit ?_
 refine seq_do hA rfl rfl rfl (does_move rfl) ?_
 intro a hA
 refine seq_do (v := .int .i64 2) hA rfl rfl rfl (does_len Tryd.underlying22 rfl) ?_
 intro a hA
 refine seq_do (v := .int .i64 6) hA rfl rfl rfl (does_bin rfl rfl (fun w => by kernel_rfl)) ?_
 intro a hA
 refine seq_do (v := .int .i64 5) hA rfl rfl rfl (does_bin rfl rfl (fun w => by kernel_rfl)) ?_
 intro a hA
 refine seq_do (v := .int .i64 1) hA rfl rfl rfl (does_bin rfl rfl (fun w => by kernel_rfl)) ?_
 intro a hA
 refine s_makeE (z := .int .u32 0) (sz := 1) (by_ := 4) (m := 1) hA hM Tryd.underlying23 (by kernel_rfl) rfl rfl rfl rfl rfl rfl (by decide) (by decide) (.inl (by decide)) ?_
 intro gw w8 hM a hA
 rw [made_one] at hM
 refine seq_do hA rfl rfl rfl (does_assign rfl) ?_
 intro a hA
 refine seq_end ?_
 refine hK7 _ _ ?_
 refine wp_seq_k (fun K9 hK9 => ?_)
 refine wp_seq_k (fun K10 hK10 => ?_)
 refine wp_region_lit ?_
 refine seq_do hA rfl rfl rfl (does_move rfl) ?_
 intro a hA
 refine seq_do (v := .int .i64 2) hA rfl rfl rfl (does_len Tryd.underlying22 rfl) ?_
 intro a hA
 refine seq_do hA rfl rfl rfl (does_move rfl) ?_
 intro a hA
 refine seq_end ?_
 refine hK10 _ _ ?_
 refine wp_block ?_
 refine wp_loop_rounds 3 ?_
 refine rounds_k ?_
 intro K11 hK11
 refine wp_seq_k (fun K12 hK12 => ?_)
 refine wp_region_lit ?_
 refine seq_do (v := .bool true) hA rfl rfl rfl (does_bin rfl rfl (fun w => by kernel_rfl)) ?_
 intro a hA
 refine seq_end ?_
 refine hK12 _ _ ?_
 refine wp_seq_k (fun K13 hK13 => ?_)
 refine wp_cond_true (hA.ev rfl) ?_
 refine wp_skip ?_
 refine hK13 _ _ ?_
 refine wp_seq_k (fun K14 hK14 => ?_)
 refine wp_block ?_
 refine wp_seq_k (fun K15 hK15 => ?_)
 refine wp_region_lit ?_
 refine seq_do hA rfl rfl rfl (does_move rfl) ?_
 intro a hA
 obtain ⟨bx, ox, hx1, hx2, hx3⟩ := rb_open (i := 0) hb (by decide)
 refine seq_do (v := .pointer (some ⟨bx, ox + 0, none⟩)) hA rfl rfl rfl (does_indexRow (k := 0) Tryd.underlying22 (by kernel_rfl) rfl rfl rfl hx1 (by decide)) ?_
 intro a hA
 refine seq_do (v := .int .u8 2) hA rfl rfl rfl (m_loadR hM hx2 (hx3 0 (by decide)) ByW_is1_5 rfl) ?_
 intro a hA
 refine seq_do hA rfl rfl rfl (does_assign rfl) ?_
 intro a hA
 refine seq_do hA rfl rfl rfl (does_assign rfl) ?_
 intro a hA
 refine seq_end ?_
 refine hK15 _ _ ?_
 refine wp_draw (S := fun w1 => Mg w w1 ([])) (by kernel_rfl) ?_
 replace hM := hM.drew
 refine any_tk hA 0 rfl rfl rfl rfl hP (hM.sub (.cons _ (.cons _ (List.nil_sublist _)))) (fun w1 hM => does_move rfl) ?_
 intro a hA
 refine any_tk hA 1 rfl rfl rfl rfl hP (hM.sub (.cons _ (.cons _ (List.nil_sublist _)))) (fun w1 hM => does_move rfl) ?_
 intro a hA
 refine any_tk (v := .int .i64 0) hA 2 rfl rfl rfl rfl hP (hM.sub (.cons _ (.cons _ (List.nil_sublist _)))) (fun w1 hM => does_bin rfl rfl (fun w => by kernel_rfl)) ?_
 intro a hA
 refine any_tk (v := .pointer (some ⟨gw, 0 * 1, none⟩)) hA 3 rfl rfl rfl rfl hP (hM.sub (.cons _ (.cons _ (List.nil_sublist _)))) (fun w1 hM => does_indexE (k := 0) Tryd.underlying23 (by kernel_rfl) rfl rfl rfl (by decide)) ?_
 intro a hA
 refine any_tk hA 5 rfl rfl rfl rfl hP (hM.sub (.cons _ (.cons _ (List.nil_sublist _)))) (fun w1 hM => does_move rfl) ?_
 intro a hA
 refine any_tk (v := .int .u32 2) hA 6 rfl rfl rfl rfl hP (hM.sub (.cons _ (.cons _ (List.nil_sublist _)))) (fun w1 hM => does_convert rfl (fun w => by kernel_rfl)) ?_
 intro a hA
 refine any_tk hA 7 rfl rfl rfl rfl hP (hM.sub (.cons _ (.cons _ (List.nil_sublist _)))) (fun w1 hM => does_move rfl) ?_
 intro a hA
 refine any_tk (v := .int .i64 0) hA 8 rfl rfl rfl rfl hP (hM.sub (.cons _ (.cons _ (List.nil_sublist _)))) (fun w1 hM => does_bin rfl rfl (fun w => by kernel_rfl)) ?_
 intro a hA
 refine any_tk (v := .int .i64 0) hA 9 rfl rfl rfl rfl hP (hM.sub (.cons _ (.cons _ (List.nil_sublist _)))) (fun w1 hM => does_bin rfl rfl (fun w => by kernel_rfl)) ?_
 intro a hA
 refine any_tk (v := .int .u32 2) hA 10 rfl rfl rfl rfl hP (hM.sub (.cons _ (.cons _ (List.nil_sublist _)))) (fun w1 hM => does_bin rfl rfl (fun w => by kernel_rfl)) ?_
 intro a hA
 refine any_one (by kernel_rfl) (op_do (v := .int .u32 0) hA 4 rfl rfl rfl rfl (m_loadX hM 0 rfl (show ([.int .u32 0] : List Value)[0 * 1]? = some (.int .u32 0) from rfl) ByW_is1_52 rfl) (hM.sub (.cons _ (.cons _ (List.nil_sublist _)))) ?_)
 intro a hA
 refine any_tk (v := .int .u32 2) hA 11 rfl rfl rfl rfl hP (hM.sub (.cons _ (.cons _ (List.nil_sublist _)))) (fun w1 hM => does_bin rfl rfl (fun w => by kernel_rfl)) ?_
 intro a hA
 refine any_tk (v := .pointer (some ⟨gw, 0 * 1, none⟩)) hA 12 rfl rfl rfl rfl hP (hM.sub (.cons _ (.cons _ (List.nil_sublist _)))) (fun w1 hM => does_indexE (k := 0) Tryd.underlying23 (by kernel_rfl) rfl rfl rfl (by decide)) ?_
 intro a hA
 refine any_one (by kernel_rfl) (g_storeE (cs := [.int .u32 2]) (L' := (.row 52 1 (.slice (some ⟨gw, 0, none⟩) 1 1) 1 ([.int .u32 2]) :: .obj g2 (.cells #[.bool false, .slice none 0 0, .slice none 0 0, .bool false, .slice none 0 0, .slice none 0 0] 27) :: [])) (us := []) hA hM 13 rfl rfl rfl (m_storeE rfl rfl rfl (by kernel_rfl) hM 0 rfl (by decide) rfl) 0 rfl rfl ?_)
 intro w16 hM
 refine ⟨(hM.sub (.cons _ (.cons _ (List.nil_sublist _)))), ?_⟩
 refine any_end (by kernel_rfl) ?_
 refine hK14 _ _ ?_
 refine wp_region_lit ?_
 refine seq_do (v := .int .i64 1) hA rfl rfl rfl (does_bin rfl rfl (fun w => by kernel_rfl)) ?_
 intro a hA
 refine seq_do hA rfl rfl rfl (does_move rfl) ?_
 intro a hA
 refine seq_end ?_
 refine hK11 _ _ ?_
 refine rounds_k ?_
 intro K17 hK17
 refine wp_seq_k (fun K18 hK18 => ?_)
 refine wp_region_lit ?_
 refine seq_do (v := .bool true) hA rfl rfl rfl (does_bin rfl rfl (fun w => by kernel_rfl)) ?_
 intro a hA
 refine seq_end ?_
 refine hK18 _ _ ?_
 refine wp_seq_k (fun K19 hK19 => ?_)
 refine wp_cond_true (hA.ev rfl) ?_
 refine wp_skip ?_
 refine hK19 _ _ ?_
 refine wp_seq_k (fun K20 hK20 => ?_)
 refine wp_block ?_
 refine wp_seq_k (fun K21 hK21 => ?_)
 refine wp_region_lit ?_
 refine seq_do hA rfl rfl rfl (does_move rfl) ?_
 intro a hA
 obtain ⟨bx, ox, hx1, hx2, hx3⟩ := rb_open (i := 1) hb (by decide)
 refine seq_do (v := .pointer (some ⟨bx, ox + 1, none⟩)) hA rfl rfl rfl (does_indexRow (k := 1) Tryd.underlying22 (by kernel_rfl) rfl rfl rfl hx1 (by decide)) ?_
 intro a hA
 refine seq_do (v := .int .u8 1) hA rfl rfl rfl (m_loadR hM hx2 (hx3 1 (by decide)) ByW_is1_5 rfl) ?_
 intro a hA
 refine seq_do hA rfl rfl rfl (does_assign rfl) ?_
 intro a hA
 refine seq_do hA rfl rfl rfl (does_assign rfl) ?_
 intro a hA
 refine seq_end ?_
 refine hK21 _ _ ?_
 refine wp_draw (S := fun w1 => Mg w w1 ([])) (by kernel_rfl) ?_
 replace hM := hM.drew
 refine any_tk hA 0 rfl rfl rfl rfl hP (hM.sub (.cons _ (.cons _ (List.nil_sublist _)))) (fun w1 hM => does_move rfl) ?_
 intro a hA
 refine any_tk hA 1 rfl rfl rfl rfl hP (hM.sub (.cons _ (.cons _ (List.nil_sublist _)))) (fun w1 hM => does_move rfl) ?_
 intro a hA
 refine any_tk (v := .int .i64 0) hA 2 rfl rfl rfl rfl hP (hM.sub (.cons _ (.cons _ (List.nil_sublist _)))) (fun w1 hM => does_bin rfl rfl (fun w => by kernel_rfl)) ?_
 intro a hA
 refine any_tk (v := .pointer (some ⟨gw, 0 * 1, none⟩)) hA 3 rfl rfl rfl rfl hP (hM.sub (.cons _ (.cons _ (List.nil_sublist _)))) (fun w1 hM => does_indexE (k := 0) Tryd.underlying23 (by kernel_rfl) rfl rfl rfl (by decide)) ?_
 intro a hA
 refine any_tk hA 5 rfl rfl rfl rfl hP (hM.sub (.cons _ (.cons _ (List.nil_sublist _)))) (fun w1 hM => does_move rfl) ?_
 intro a hA
 refine any_tk (v := .int .u32 1) hA 6 rfl rfl rfl rfl hP (hM.sub (.cons _ (.cons _ (List.nil_sublist _)))) (fun w1 hM => does_convert rfl (fun w => by kernel_rfl)) ?_
 intro a hA
 refine any_tk hA 7 rfl rfl rfl rfl hP (hM.sub (.cons _ (.cons _ (List.nil_sublist _)))) (fun w1 hM => does_move rfl) ?_
 intro a hA
 refine any_tk (v := .int .i64 1) hA 8 rfl rfl rfl rfl hP (hM.sub (.cons _ (.cons _ (List.nil_sublist _)))) (fun w1 hM => does_bin rfl rfl (fun w => by kernel_rfl)) ?_
 intro a hA
 refine any_tk (v := .int .i64 8) hA 9 rfl rfl rfl rfl hP (hM.sub (.cons _ (.cons _ (List.nil_sublist _)))) (fun w1 hM => does_bin rfl rfl (fun w => by kernel_rfl)) ?_
 intro a hA
 refine any_tk (v := .int .u32 256) hA 10 rfl rfl rfl rfl hP (hM.sub (.cons _ (.cons _ (List.nil_sublist _)))) (fun w1 hM => does_bin rfl rfl (fun w => by kernel_rfl)) ?_
 intro a hA
 refine any_one (by kernel_rfl) (op_do (v := .int .u32 2) hA 4 rfl rfl rfl rfl (m_loadX hM 0 rfl (show ([.int .u32 2] : List Value)[0 * 1]? = some (.int .u32 2) from rfl) ByW_is1_52 rfl) (hM.sub (.cons _ (.cons _ (List.nil_sublist _)))) ?_)
 intro a hA
 refine any_tk (v := .int .u32 258) hA 11 rfl rfl rfl rfl hP (hM.sub (.cons _ (.cons _ (List.nil_sublist _)))) (fun w1 hM => does_bin rfl rfl (fun w => by kernel_rfl)) ?_
 intro a hA
 refine any_tk (v := .pointer (some ⟨gw, 0 * 1, none⟩)) hA 12 rfl rfl rfl rfl hP (hM.sub (.cons _ (.cons _ (List.nil_sublist _)))) (fun w1 hM => does_indexE (k := 0) Tryd.underlying23 (by kernel_rfl) rfl rfl rfl (by decide)) ?_
 intro a hA
 refine any_one (by kernel_rfl) (g_storeE (cs := [.int .u32 258]) (L' := (.row 52 1 (.slice (some ⟨gw, 0, none⟩) 1 1) 1 ([.int .u32 258]) :: .obj g2 (.cells #[.bool false, .slice none 0 0, .slice none 0 0, .bool false, .slice none 0 0, .slice none 0 0] 27) :: [])) (us := []) hA hM 13 rfl rfl rfl (m_storeE rfl rfl rfl (by kernel_rfl) hM 0 rfl (by decide) rfl) 0 rfl rfl ?_)
 intro w22 hM
 refine ⟨(hM.sub (.cons _ (.cons _ (List.nil_sublist _)))), ?_⟩
 refine any_end (by kernel_rfl) ?_
 refine hK20 _ _ ?_
 refine wp_region_lit ?_
 refine seq_do (v := .int .i64 2) hA rfl rfl rfl (does_bin rfl rfl (fun w => by kernel_rfl)) ?_
 intro a hA
 refine seq_do hA rfl rfl rfl (does_move rfl) ?_
 intro a hA
 refine seq_end ?_
 refine hK17 _ _ ?_
 refine rounds_k ?_
 intro K23 hK23
 refine wp_seq_k (fun K24 hK24 => ?_)
 refine wp_region_lit ?_
 refine seq_do (v := .bool false) hA rfl rfl rfl (does_bin rfl rfl (fun w => by kernel_rfl)) ?_
 intro a hA
 refine seq_end ?_
 refine hK24 _ _ ?_
 refine wp_seq_k (fun K25 hK25 => ?_)
 refine wp_cond_false (hA.ev rfl) ?_
 refine wp_exit ?_
 refine hK9 _ _ ?_
 refine wp_seq_k (fun K26 hK26 => ?_)
 refine wp_region_lit ?_
 refine seq_call hA rfl rfl rfl (enters_func rfl rfl (fun w => by kernel_rfl)) (int_fix0) ?_
 rintro _ w31 ⟨g27, g28, g29, rfl, hM30⟩
 replace hM : Mg w w31 (.row 52 1 (.slice (some ⟨g27, 0, none⟩) 0 2) 0 ([]) :: .row 52 1 (.slice (some ⟨g28, 0, none⟩) 1 2) 1 ([.int .u32 1]) :: .row 52 1 (.slice (some ⟨g29, 0, none⟩) 1 2) 1 ([.int .u32 1]) :: .row 52 1 (.slice (some ⟨gw, 0, none⟩) 1 1) 1 ([.int .u32 258]) :: .obj g2 (.cells #[.bool false, .slice none 0 0, .slice none 0 0, .bool false, .slice none 0 0, .slice none 0 0] 27) :: []) := (hM.both hM30 (noBld_cons (by simp) (noBld_cons (by simp) (noBld_quiet quietL_nil))) (noBld_cons (by simp) (noBld_cons (by simp) (noBld_cons (by simp) (noBld_quiet quietL_nil)))))
 refine ⟨_, rfl, ?_⟩
 intro a hA
 refine s_new (vs := [.bool false, .slice none 0 0, .slice none 0 0, .bool false, .slice none 0 0, .slice none 0 0]) (t := 27) hA hM rfl rfl rfl (fun g => .pointer (some ⟨g, 0, none⟩)) (does_alloc (z := .agg #[.bool false, .slice none 0 0, .slice none 0 0, .bool false, .slice none 0 0, .slice none 0 0]) (by kernel_rfl) rfl) (by decide) ?_
 intro g32 w33 hM a hA
 refine s_store (us := [.bool false, .slice (some ⟨g27, 0, none⟩) 0 2, .slice (some ⟨g28, 0, none⟩) 1 2, .bool false, .slice none 0 0, .slice (some ⟨g29, 0, none⟩) 1 2]) (L' := (.obj g32 (.cells #[.bool false, .slice (some ⟨g27, 0, none⟩) 0 2, .slice (some ⟨g28, 0, none⟩) 1 2, .bool false, .slice none 0 0, .slice (some ⟨g29, 0, none⟩) 1 2] 27) :: .row 52 1 (.slice (some ⟨g27, 0, none⟩) 0 2) 0 ([]) :: .row 52 1 (.slice (some ⟨g28, 0, none⟩) 1 2) 1 ([.int .u32 1]) :: .row 52 1 (.slice (some ⟨g29, 0, none⟩) 1 2) 1 ([.int .u32 1]) :: .row 52 1 (.slice (some ⟨gw, 0, none⟩) 1 1) 1 ([.int .u32 258]) :: .obj g2 (.cells #[.bool false, .slice none 0 0, .slice none 0 0, .bool false, .slice none 0 0, .slice none 0 0] 27) :: [])) hA hM rfl rfl (m_store rfl rfl rfl (by kernel_rfl) hM 0 rfl rfl rfl) 0 rfl rfl rfl ?_
 intro w34 hM
 refine seq_end ?_
 refine hK26 _ _ ?_
 refine wp_seq_k (fun K35 hK35 => ?_)
 refine wp_region_lit ?_
 refine seq_do hA rfl rfl rfl (does_move rfl) ?_
 intro a hA
 refine seq_do (v := .pointer (some ⟨g32, 0, none⟩)) hA rfl rfl rfl (does_field ByW_fld_27_0 rfl rfl) ?_
 intro a hA
 refine seq_do (v := .pointer (some ⟨g32, 1, none⟩)) hA rfl rfl rfl (does_field ByW_fld_25_1 rfl rfl) ?_
 intro a hA
 refine s_store (us := [.bool false, .slice (some ⟨gw, 0, none⟩) 1 1, .slice (some ⟨g28, 0, none⟩) 1 2, .bool false, .slice none 0 0, .slice (some ⟨g29, 0, none⟩) 1 2]) (L' := (.obj g32 (.cells #[.bool false, .slice (some ⟨gw, 0, none⟩) 1 1, .slice (some ⟨g28, 0, none⟩) 1 2, .bool false, .slice none 0 0, .slice (some ⟨g29, 0, none⟩) 1 2] 27) :: .row 52 1 (.slice (some ⟨g27, 0, none⟩) 0 2) 0 ([]) :: .row 52 1 (.slice (some ⟨g28, 0, none⟩) 1 2) 1 ([.int .u32 1]) :: .row 52 1 (.slice (some ⟨g29, 0, none⟩) 1 2) 1 ([.int .u32 1]) :: .row 52 1 (.slice (some ⟨gw, 0, none⟩) 1 1) 1 ([.int .u32 258]) :: .obj g2 (.cells #[.bool false, .slice none 0 0, .slice none 0 0, .bool false, .slice none 0 0, .slice none 0 0] 27) :: [])) hA hM rfl rfl (m_store rfl rfl rfl (by kernel_rfl) hM 0 rfl rfl rfl) 0 rfl rfl rfl ?_
 intro w36 hM
 refine seq_end ?_
 refine hK35 _ _ ?_
 refine wp_seq_k (fun K37 hK37 => ?_)
 refine wp_region_lit ?_
 refine seq_do hA rfl rfl rfl (m_loadS hM ByW_isS_27 rfl 0 rfl (cs := [.bool false, .slice (some ⟨gw, 0, none⟩) 1 1, .slice (some ⟨g28, 0, none⟩) 1 2, .bool false, .slice none 0 0, .slice (some ⟨g29, 0, none⟩) 1 2]) rfl rfl) ?_
 intro a hA
 refine s_store (us := [.bool false, .slice (some ⟨gw, 0, none⟩) 1 1, .slice (some ⟨g28, 0, none⟩) 1 2, .bool false, .slice none 0 0, .slice (some ⟨g29, 0, none⟩) 1 2]) (L' := (.obj g32 (.cells #[.bool false, .slice (some ⟨gw, 0, none⟩) 1 1, .slice (some ⟨g28, 0, none⟩) 1 2, .bool false, .slice none 0 0, .slice (some ⟨g29, 0, none⟩) 1 2] 27) :: .row 52 1 (.slice (some ⟨g27, 0, none⟩) 0 2) 0 ([]) :: .row 52 1 (.slice (some ⟨g28, 0, none⟩) 1 2) 1 ([.int .u32 1]) :: .row 52 1 (.slice (some ⟨g29, 0, none⟩) 1 2) 1 ([.int .u32 1]) :: .row 52 1 (.slice (some ⟨gw, 0, none⟩) 1 1) 1 ([.int .u32 258]) :: .obj g2 (.cells #[.bool false, .slice (some ⟨gw, 0, none⟩) 1 1, .slice (some ⟨g28, 0, none⟩) 1 2, .bool false, .slice none 0 0, .slice (some ⟨g29, 0, none⟩) 1 2] 27) :: [])) hA hM rfl rfl (m_store rfl rfl rfl (by kernel_rfl) hM 5 rfl rfl rfl) 5 rfl rfl rfl ?_
 intro w38 hM
 refine seq_end ?_
 refine hK37 _ _ ?_
 refine wp_ret ?_
 refine hret _ _ ?_
 refine ends (v := .agg #[.bool false, .slice (some ⟨gw, 0, none⟩) 1 1, .slice (some ⟨g28, 0, none⟩) 1 2, .bool false, .slice none 0 0, .slice (some ⟨g29, 0, none⟩) 1 2]) hA rfl (.cons (res_cellS hM ByW_isS_27 rfl 5 rfl (cs := [.bool false, .slice (some ⟨gw, 0, none⟩) 1 1, .slice (some ⟨g28, 0, none⟩) 1 2, .bool false, .slice none 0 0, .slice (some ⟨g29, 0, none⟩) 1 2]) rfl rfl) .nil) rfl ?_
 replace hM : Mg w w38 (.row 52 1 (.slice (some ⟨g28, 0, none⟩) 1 2) 1 ([.int .u32 1]) :: .row 52 1 (.slice (some ⟨g29, 0, none⟩) 1 2) 1 ([.int .u32 1]) :: .row 52 1 (.slice (some ⟨gw, 0, none⟩) 1 1) 1 ([.int .u32 258]) :: []) := by
   have h9 := hM.sub (.cons _ (.cons _ (.cons_cons _ (.cons_cons _ (.cons_cons _ (.cons _ (.refl _)))))))
   exact h9
 replace hM : Mg w w38 (.row 52 1 (.slice (some ⟨g29, 0, none⟩) 1 2) 1 ([.int .u32 1]) :: .row 52 1 (.slice (some ⟨g28, 0, none⟩) 1 2) 1 ([.int .u32 1]) :: .row 52 1 (.slice (some ⟨gw, 0, none⟩) 1 1) 1 ([.int .u32 258]) :: []) := hM.perm (List.perm_middle (l₁ := [_]))
 replace hM : Mg w w38 (.row 52 1 (.slice (some ⟨g28, 0, none⟩) 1 2) 1 ([.int .u32 1]) :: .row 52 1 (.slice (some ⟨g29, 0, none⟩) 1 2) 1 ([.int .u32 1]) :: .row 52 1 (.slice (some ⟨gw, 0, none⟩) 1 1) 1 ([.int .u32 258]) :: []) := hM.perm (List.perm_middle (l₁ := [_]))
 replace hM : Mg w w38 (.row 52 1 (.slice (some ⟨gw, 0, none⟩) 1 1) 1 ([.int .u32 258]) :: .row 52 1 (.slice (some ⟨g28, 0, none⟩) 1 2) 1 ([.int .u32 1]) :: .row 52 1 (.slice (some ⟨g29, 0, none⟩) 1 2) 1 ([.int .u32 1]) :: []) := hM.perm (List.perm_middle (l₁ := [_, _]))
 exact ⟨gw, g28, g29, rfl, hM⟩
theorem number_fix {w : World} {sp : Option Addr} {cp : Nat} (hp : Rb w sp [1, 2]) : Calls Tryd.prog 22 #[.agg #[.int .i64 2, .bool true, .bool false], .slice sp 2 cp] w fun e w' => ∃ g1 g2 g3, e = .returned (.agg #[.bool false, .slice (some ⟨g1, 0, none⟩) 1 1, .slice (some ⟨g2, 0, none⟩) 1 2, .bool false, .slice none 0 0, .slice (some ⟨g3, 0, none⟩) 1 2]) ∧ Mg w w' [.row 52 1 (.slice (some ⟨g1, 0, none⟩) 1 1) 1 [.int .u32 258], .row 52 1 (.slice (some ⟨g2, 0, none⟩) 1 2) 1 [.int .u32 1], .row 52 1 (.slice (some ⟨g3, 0, none⟩) 1 2) 1 [.int .u32 1]] := by
 have hM : Mg w w ([]) := Mg.start w
 refine walk_of (l := [(0, .agg #[.int .i64 2, .bool true, .bool false]), (1, .slice sp 2 cp)]) Tryd.func22 rfl Tryd.ntmps22 rfl rfl ?_
 intro Q hret hnorm hP a hA
 refine wp_seq_k (fun K1 hK1 => ?_)
 refine wp_region_lit ?_
 refine s_new (vs := [.int .i64 2, .bool true, .bool false]) (t := 47) hA hM rfl rfl rfl (fun g => .pointer (some ⟨g, 0, none⟩)) (does_box rfl rfl) (by decide) ?_
 intro g2 w3 hM a hA
 refine s_new (vs := [.bool false, .slice none 0 0, .slice none 0 0, .bool false, .slice none 0 0, .slice none 0 0]) (t := 27) hA hM rfl rfl rfl (fun g => .pointer (some ⟨g, 0, none⟩)) (does_alloc (z := .agg #[.bool false, .slice none 0 0, .slice none 0 0, .bool false, .slice none 0 0, .slice none 0 0]) (by kernel_rfl) rfl) (by decide) ?_
 intro g4 w5 hM a hA
 refine seq_end ?_
 refine hK1 _ _ ?_
 refine wp_seq_k (fun K6 hK6 => ?_)
 refine wp_region_lit ?_
 refine seq_do hA rfl rfl rfl (m_loadS hM ByW_isS_47 rfl 1 rfl (cs := [.int .i64 2, .bool true, .bool false]) rfl rfl) ?_
 intro a hA
 refine seq_do hA rfl rfl rfl (does_move rfl) ?_
 intro a hA
 refine seq_call hA rfl rfl rfl (enters_func rfl rfl (fun w => by kernel_rfl)) ((show Calls Tryd.prog 48 _ _ (fun e w' => ∃ g, e = .returned (.slice (some ⟨g, 0, none⟩) 2 2) ∧ Mg _ w' [.row BY 1 (.slice (some ⟨g, 0, none⟩) 2 2) 2 (Lib.byteCells [2, 1])]) from reordered_true (p := [1, 2]) (hp.below hM.bel) (by decide))) ?_
 rintro _ w9 ⟨g7, rfl, hM8⟩
 replace hM : Mg w w9 (.row BY 1 (.slice (some ⟨g7, 0, none⟩) 2 2) 2 ((Lib.byteCells [2, 1])) :: .obj g4 (.cells #[.bool false, .slice none 0 0, .slice none 0 0, .bool false, .slice none 0 0, .slice none 0 0] 27) :: .obj g2 (.cells #[.int .i64 2, .bool true, .bool false] 47) :: []) := (hM.both hM8 (noBld_cons (by simp) (noBld_cons (by simp) (noBld_quiet quietL_nil))) (noBld_cons (by simp) (noBld_quiet quietL_nil)))
 refine ⟨_, rfl, ?_⟩
 intro a hA
 refine seq_do hA rfl rfl rfl (does_assign rfl) ?_
 intro a hA
 refine seq_end ?_
 refine hK6 _ _ ?_
 refine wp_seq_k (fun K10 hK10 => ?_)
 refine wp_seq_k (fun K11 hK11 => ?_)
 refine wp_region_lit ?_
 refine seq_do (v := .pointer (some ⟨g2, 2, none⟩)) hA rfl rfl rfl (does_field ByW_fld_47_2 rfl rfl) ?_
 intro a hA
 refine seq_do hA rfl rfl rfl (m_load1 hM ByW_is1_4 rfl 2 rfl rfl) ?_
 intro a hA
 refine seq_do (v := .bool true) hA rfl rfl rfl (does_un rfl un_not) ?_
 intro a hA
 refine seq_do hA rfl rfl rfl (does_move rfl) ?_
 intro a hA
 refine seq_skip hA rfl rfl rfl ?_
 intro a hA
 refine seq_skip hA rfl rfl rfl ?_
 intro a hA
 refine seq_skip hA rfl rfl rfl ?_
 intro a hA
 refine seq_skip hA rfl rfl rfl ?_
 intro a hA
 refine seq_skip hA rfl rfl rfl ?_
 intro a hA
 refine seq_skip hA rfl rfl rfl ?_
 intro a hA
 refine seq_skip hA rfl rfl rfl ?_
 intro a hA
 refine seq_do (v := .bool true) hA rfl rfl rfl (does_pick rfl rfl rfl rfl) ?_
 intro a hA
 refine seq_end ?_
 refine hK11 _ _ ?_
 refine wp_cond_true (hA.ev rfl) ?_
 refine wp_seq_k (fun K12 hK12 => ?_)
 refine wp_region_lit ?_
 refine seq_do hA rfl rfl rfl (does_move rfl) ?_
 intro a hA
 refine seq_call hA rfl rfl rfl (enters_func rfl rfl (fun w => by kernel_rfl)) (natural_fix (rb_row (bs := [2, 1]) hM 0 rfl).1 (by decide)) ?_
 rintro _ w17 ⟨g13, g14, g15, rfl, hM16⟩
 replace hM : Mg w w17 (.row 52 1 (.slice (some ⟨g13, 0, none⟩) 1 1) 1 ([.int .u32 258]) :: .row 52 1 (.slice (some ⟨g14, 0, none⟩) 1 2) 1 ([.int .u32 1]) :: .row 52 1 (.slice (some ⟨g15, 0, none⟩) 1 2) 1 ([.int .u32 1]) :: .row BY 1 (.slice (some ⟨g7, 0, none⟩) 2 2) 2 ((Lib.byteCells [2, 1])) :: .obj g4 (.cells #[.bool false, .slice none 0 0, .slice none 0 0, .bool false, .slice none 0 0, .slice none 0 0] 27) :: .obj g2 (.cells #[.int .i64 2, .bool true, .bool false] 47) :: []) := (hM.both hM16 (noBld_cons (by simp) (noBld_cons (by simp) (noBld_cons (by simp) (noBld_quiet quietL_nil)))) (noBld_cons (by simp) (noBld_cons (by simp) (noBld_cons (by simp) (noBld_quiet quietL_nil)))))
 refine ⟨_, rfl, ?_⟩
 intro a hA
 refine s_store (us := [.bool false, .slice (some ⟨g13, 0, none⟩) 1 1, .slice (some ⟨g14, 0, none⟩) 1 2, .bool false, .slice none 0 0, .slice (some ⟨g15, 0, none⟩) 1 2]) (L' := (.row 52 1 (.slice (some ⟨g13, 0, none⟩) 1 1) 1 ([.int .u32 258]) :: .row 52 1 (.slice (some ⟨g14, 0, none⟩) 1 2) 1 ([.int .u32 1]) :: .row 52 1 (.slice (some ⟨g15, 0, none⟩) 1 2) 1 ([.int .u32 1]) :: .row BY 1 (.slice (some ⟨g7, 0, none⟩) 2 2) 2 ((Lib.byteCells [2, 1])) :: .obj g4 (.cells #[.bool false, .slice (some ⟨g13, 0, none⟩) 1 1, .slice (some ⟨g14, 0, none⟩) 1 2, .bool false, .slice none 0 0, .slice (some ⟨g15, 0, none⟩) 1 2] 27) :: .obj g2 (.cells #[.int .i64 2, .bool true, .bool false] 47) :: [])) hA hM rfl rfl (m_store rfl rfl rfl (by kernel_rfl) hM 4 rfl rfl rfl) 4 rfl rfl rfl ?_
 intro w18 hM
 refine seq_end ?_
 refine hK12 _ _ ?_
 refine wp_ret ?_
 refine hret _ _ ?_
 refine ends (v := .agg #[.bool false, .slice (some ⟨g13, 0, none⟩) 1 1, .slice (some ⟨g14, 0, none⟩) 1 2, .bool false, .slice none 0 0, .slice (some ⟨g15, 0, none⟩) 1 2]) hA rfl (.cons (res_cellS hM ByW_isS_27 rfl 4 rfl (cs := [.bool false, .slice (some ⟨g13, 0, none⟩) 1 1, .slice (some ⟨g14, 0, none⟩) 1 2, .bool false, .slice none 0 0, .slice (some ⟨g15, 0, none⟩) 1 2]) rfl rfl) .nil) rfl ?_
 replace hM : Mg w w18 (.row 52 1 (.slice (some ⟨g13, 0, none⟩) 1 1) 1 ([.int .u32 258]) :: .row 52 1 (.slice (some ⟨g14, 0, none⟩) 1 2) 1 ([.int .u32 1]) :: .row 52 1 (.slice (some ⟨g15, 0, none⟩) 1 2) 1 ([.int .u32 1]) :: []) := by
   have h9 := hM.sub (.cons_cons _ (.cons_cons _ (.cons_cons _ (.cons _ (.cons _ (.cons _ (.refl _)))))))
   exact h9
 replace hM : Mg w w18 (.row 52 1 (.slice (some ⟨g15, 0, none⟩) 1 2) 1 ([.int .u32 1]) :: .row 52 1 (.slice (some ⟨g13, 0, none⟩) 1 1) 1 ([.int .u32 258]) :: .row 52 1 (.slice (some ⟨g14, 0, none⟩) 1 2) 1 ([.int .u32 1]) :: []) := hM.perm (List.perm_middle (l₁ := [_, _]))
 replace hM : Mg w w18 (.row 52 1 (.slice (some ⟨g14, 0, none⟩) 1 2) 1 ([.int .u32 1]) :: .row 52 1 (.slice (some ⟨g15, 0, none⟩) 1 2) 1 ([.int .u32 1]) :: .row 52 1 (.slice (some ⟨g13, 0, none⟩) 1 1) 1 ([.int .u32 258]) :: []) := hM.perm (List.perm_middle (l₁ := [_, _]))
 replace hM : Mg w w18 (.row 52 1 (.slice (some ⟨g13, 0, none⟩) 1 1) 1 ([.int .u32 258]) :: .row 52 1 (.slice (some ⟨g14, 0, none⟩) 1 2) 1 ([.int .u32 1]) :: .row 52 1 (.slice (some ⟨g15, 0, none⟩) 1 2) 1 ([.int .u32 1]) :: []) := hM.perm (List.perm_middle (l₁ := [_, _]))
 exact ⟨g13, g14, g15, rfl, hM⟩
theorem get_fix {w : World} {so : Option Addr} {ca : Nat} (hb : Rb w so [1, 2]) (hca : 2 ≤ ca) : Calls Tryd.prog 7 #[.slice so 2 ca, .int .i64 0, .int .i64 2, .bool true, .bool false] w fun e w' => ∃ g1 g2 g3, e = .returned (.tuple #[.agg #[.bool false, .slice (some ⟨g1, 0, none⟩) 1 1, .slice (some ⟨g2, 0, none⟩) 1 2, .bool false, .slice none 0 0, .slice (some ⟨g3, 0, none⟩) 1 2], .int .i64 0]) ∧ Mg w w' [.row 52 1 (.slice (some ⟨g1, 0, none⟩) 1 1) 1 [.int .u32 258], .row 52 1 (.slice (some ⟨g2, 0, none⟩) 1 2) 1 [.int .u32 1], .row 52 1 (.slice (some ⟨g3, 0, none⟩) 1 2) 1 [.int .u32 1]] := by
 have hM : Mg w w ([]) := Mg.start w
 refine walk_of (l := [(0, .slice so 2 ca), (1, .int .i64 0), (2, .int .i64 2), (3, .bool true), (4, .bool false)]) Tryd.func7 rfl Tryd.ntmps7 rfl rfl ?_
 intro Q hret hnorm hP a hA
 refine wp_seq_k (fun K1 hK1 => ?_)
 refine wp_region_lit ?_
 refine s_new (vs := [.bool false, .slice none 0 0, .slice none 0 0, .bool false, .slice none 0 0, .slice none 0 0]) (t := 27) hA hM rfl rfl rfl (fun g => .pointer (some ⟨g, 0, none⟩)) (does_alloc (z := .agg #[.bool false, .slice none 0 0, .slice none 0 0, .bool false, .slice none 0 0, .slice none 0 0]) (by kernel_rfl) rfl) (by decide) ?_
 intro g2 w3 hM a hA
 refine seq_do hA rfl rfl rfl (does_assign rfl) ?_
 intro a hA
 refine seq_end ?_
 refine hK1 _ _ ?_
 refine wp_seq_k (fun K4 hK4 => ?_)
 refine wp_region_lit ?_
 refine seq_do hA rfl rfl rfl (does_move rfl) ?_
 intro a hA
 refine seq_do hA rfl rfl rfl (does_move rfl) ?_
 intro a hA
 refine seq_do hA rfl rfl rfl (does_move rfl) ?_
 intro a hA
 refine seq_do (v := .agg #[.int .i64 2, .bool true, .bool false]) hA rfl rfl rfl (does_build rfl (fun w => by kernel_rfl)) ?_
 intro a hA
 refine s_new (vs := [.int .i64 0, .bool false, .bool false]) (t := 47) hA hM rfl rfl rfl (fun g => .pointer (some ⟨g, 0, none⟩)) (does_alloc (z := .agg #[.int .i64 0, .bool false, .bool false]) (by kernel_rfl) rfl) (by decide) ?_
 intro g5 w6 hM a hA
 refine s_store (us := [.int .i64 2, .bool true, .bool false]) (L' := (.obj g5 (.cells #[.int .i64 2, .bool true, .bool false] 47) :: .obj g2 (.cells #[.bool false, .slice none 0 0, .slice none 0 0, .bool false, .slice none 0 0, .slice none 0 0] 27) :: [])) hA hM rfl rfl (m_store rfl rfl rfl (by kernel_rfl) hM 0 rfl rfl rfl) 0 rfl rfl rfl ?_
 intro w7 hM
 refine seq_end ?_
 refine hK4 _ _ ?_
 refine wp_seq_k (fun K8 hK8 => ?_)
 refine wp_seq_k (fun K9 hK9 => ?_)
 refine wp_region_lit ?_
 refine seq_do hA rfl rfl rfl (m_loadS hM ByW_isS_47 rfl 0 rfl (cs := [.int .i64 2, .bool true, .bool false]) rfl rfl) ?_
 intro a hA
 refine seq_call hA rfl rfl rfl (enters_func rfl rfl (fun w => by kernel_rfl)) ((show Calls Tryd.prog 20 _ _ (fun e w' => e = .returned (.bool true) ∧ Below _ _ w') from allowed_any (size := 2) (bg := true) (sg := false))) ?_
 rintro _ w11 ⟨rfl, hb10⟩
 replace hM := hM.call hb10
 refine ⟨_, rfl, ?_⟩
 intro a hA
 refine seq_do (v := .bool false) hA rfl rfl rfl (does_un rfl un_not) ?_
 intro a hA
 refine seq_do hA rfl rfl rfl (does_move rfl) ?_
 intro a hA
 refine seq_do hA rfl rfl rfl (does_move rfl) ?_
 intro a hA
 refine seq_do hA rfl rfl rfl (does_move rfl) ?_
 intro a hA
 refine seq_do hA rfl rfl rfl (does_move rfl) ?_
 intro a hA
 refine seq_call hA rfl rfl rfl (enters_func rfl rfl (fun w => by kernel_rfl)) ((show Calls Tryd.prog 21 _ _ (fun e w' => e = .returned (.bool true) ∧ Below _ _ w') from within_any (l := [1, 2]) (ap := 0) (n := 2) (by decide) (by decide) (by decide) (by decide) (by decide))) ?_
 rintro _ w13 ⟨rfl, hb12⟩
 replace hM := hM.call hb12
 refine ⟨_, rfl, ?_⟩
 intro a hA
 refine seq_do (v := .bool false) hA rfl rfl rfl (does_un rfl un_not) ?_
 intro a hA
 refine seq_do (v := .bool false) hA rfl rfl rfl (does_pick rfl rfl rfl rfl) ?_
 intro a hA
 refine seq_end ?_
 refine hK9 _ _ ?_
 refine wp_cond_false (hA.ev rfl) ?_
 refine wp_skip ?_
 refine hK8 _ _ ?_
 refine wp_seq_k (fun K14 hK14 => ?_)
 refine wp_draw (S := fun w1 => Mg w w1 (.obj g5 (.cells #[.int .i64 2, .bool true, .bool false] 47) :: [])) (by kernel_rfl) ?_
 replace hM := hM.drew
 refine any_tk hA 0 rfl rfl rfl rfl hP (hM.sub (.cons_cons _ (.cons _ (List.nil_sublist _)))) (fun w1 hM => m_loadS hM ByW_isS_47 rfl 0 rfl (cs := [.int .i64 2, .bool true, .bool false]) rfl rfl) ?_
 intro a hA
 refine any_tk hA 1 rfl rfl rfl rfl hP (hM.sub (.cons_cons _ (.cons _ (List.nil_sublist _)))) (fun w1 hM => does_move rfl) ?_
 intro a hA
 refine any_tk hA 2 rfl rfl rfl rfl hP (hM.sub (.cons_cons _ (.cons _ (List.nil_sublist _)))) (fun w1 hM => does_move rfl) ?_
 intro a hA
 refine any_tk hA 3 rfl rfl rfl rfl hP (hM.sub (.cons_cons _ (.cons _ (List.nil_sublist _)))) (fun w1 hM => does_move rfl) ?_
 intro a hA
 refine any_tk hA 4 rfl rfl rfl rfl hP (hM.sub (.cons_cons _ (.cons _ (List.nil_sublist _)))) (fun w1 hM => does_move rfl) ?_
 intro a hA
 refine any_tk (v := .int .i64 2) hA 5 rfl rfl rfl rfl hP (hM.sub (.cons_cons _ (.cons _ (List.nil_sublist _)))) (fun w1 hM => does_bin rfl rfl (fun w => by kernel_rfl)) ?_
 intro a hA
 refine any_tk (v := .slice ((dropA so ca 0)) 2 ((ca - 0))) hA 6 rfl rfl rfl rfl hP (hM.sub (.cons_cons _ (.cons _ (List.nil_sublist _)))) (fun w1 hM => does_lh (lo := 0) (hi := 2) Tryd.underlying22 (by kernel_rfl) rfl rfl rfl rfl rfl (by decide) hca rfl) ?_
 intro a hA
 refine any_one (by kernel_rfl) (op_call hA 7 rfl rfl rfl rfl (enters_func rfl rfl (fun w => by kernel_rfl)) (number_fix (show Rb _ _ [1, 2] from ((hb.drop ca 0 hca).below hM.bel))) ?_)
 rintro _ w19 ⟨g15, g16, g17, rfl, hM18⟩
 replace hM : Mg w w19 (.row 52 1 (.slice (some ⟨g15, 0, none⟩) 1 1) 1 ([.int .u32 258]) :: .row 52 1 (.slice (some ⟨g16, 0, none⟩) 1 2) 1 ([.int .u32 1]) :: .row 52 1 (.slice (some ⟨g17, 0, none⟩) 1 2) 1 ([.int .u32 1]) :: .obj g5 (.cells #[.int .i64 2, .bool true, .bool false] 47) :: .obj g2 (.cells #[.bool false, .slice none 0 0, .slice none 0 0, .bool false, .slice none 0 0, .slice none 0 0] 27) :: []) := (hM.both hM18 (noBld_cons (by simp) (noBld_cons (by simp) (noBld_quiet quietL_nil))) (noBld_cons (by simp) (noBld_cons (by simp) (noBld_cons (by simp) (noBld_quiet quietL_nil)))))
 refine ⟨_, rfl, (hM.sub (.cons _ (.cons _ (.cons _ (.cons_cons _ (.cons _ (List.nil_sublist _))))))), ?_⟩
 intro a hA
 refine any_one (by kernel_rfl) (g_store (us := [.bool false, .slice (some ⟨g15, 0, none⟩) 1 1, .slice (some ⟨g16, 0, none⟩) 1 2, .bool false, .slice none 0 0, .slice (some ⟨g17, 0, none⟩) 1 2]) (L' := (.row 52 1 (.slice (some ⟨g15, 0, none⟩) 1 1) 1 ([.int .u32 258]) :: .row 52 1 (.slice (some ⟨g16, 0, none⟩) 1 2) 1 ([.int .u32 1]) :: .row 52 1 (.slice (some ⟨g17, 0, none⟩) 1 2) 1 ([.int .u32 1]) :: .obj g5 (.cells #[.int .i64 2, .bool true, .bool false] 47) :: .obj g2 (.cells #[.bool false, .slice (some ⟨g15, 0, none⟩) 1 1, .slice (some ⟨g16, 0, none⟩) 1 2, .bool false, .slice none 0 0, .slice (some ⟨g17, 0, none⟩) 1 2] 27) :: [])) hA hM 8 rfl rfl rfl (m_store rfl rfl rfl (by kernel_rfl) hM 4 rfl rfl rfl) 4 rfl rfl rfl ?_)
 intro w20 hM
 refine ⟨(hM.sub (.cons _ (.cons _ (.cons _ (.cons_cons _ (.cons _ (List.nil_sublist _))))))), ?_⟩
 refine any_tk hA 9 rfl rfl rfl rfl hP (hM.sub (.cons _ (.cons _ (.cons _ (.cons_cons _ (.cons _ (List.nil_sublist _))))))) (fun w1 hM => does_assign rfl) ?_
 intro a hA
 refine any_end (by kernel_rfl) ?_
 refine hK14 _ _ ?_
 refine wp_ret ?_
 refine hret _ _ ?_
 refine ends (v := .tuple #[.agg #[.bool false, .slice (some ⟨g15, 0, none⟩) 1 1, .slice (some ⟨g16, 0, none⟩) 1 2, .bool false, .slice none 0 0, .slice (some ⟨g17, 0, none⟩) 1 2], .int .i64 0]) hA rfl (.cons (res_cellS hM ByW_isS_27 rfl 4 rfl (cs := [.bool false, .slice (some ⟨g15, 0, none⟩) 1 1, .slice (some ⟨g16, 0, none⟩) 1 2, .bool false, .slice none 0 0, .slice (some ⟨g17, 0, none⟩) 1 2]) rfl rfl) (.cons (res_tmp rfl) .nil)) rfl ?_
 replace hM : Mg w w20 (.row 52 1 (.slice (some ⟨g15, 0, none⟩) 1 1) 1 ([.int .u32 258]) :: .row 52 1 (.slice (some ⟨g16, 0, none⟩) 1 2) 1 ([.int .u32 1]) :: .row 52 1 (.slice (some ⟨g17, 0, none⟩) 1 2) 1 ([.int .u32 1]) :: []) := by
   have h9 := hM.sub (.cons_cons _ (.cons_cons _ (.cons_cons _ (.cons _ (.cons _ (.refl _))))))
   exact h9
 replace hM : Mg w w20 (.row 52 1 (.slice (some ⟨g17, 0, none⟩) 1 2) 1 ([.int .u32 1]) :: .row 52 1 (.slice (some ⟨g15, 0, none⟩) 1 1) 1 ([.int .u32 258]) :: .row 52 1 (.slice (some ⟨g16, 0, none⟩) 1 2) 1 ([.int .u32 1]) :: []) := hM.perm (List.perm_middle (l₁ := [_, _]))
 replace hM : Mg w w20 (.row 52 1 (.slice (some ⟨g16, 0, none⟩) 1 2) 1 ([.int .u32 1]) :: .row 52 1 (.slice (some ⟨g17, 0, none⟩) 1 2) 1 ([.int .u32 1]) :: .row 52 1 (.slice (some ⟨g15, 0, none⟩) 1 1) 1 ([.int .u32 258]) :: []) := hM.perm (List.perm_middle (l₁ := [_, _]))
 replace hM : Mg w w20 (.row 52 1 (.slice (some ⟨g15, 0, none⟩) 1 1) 1 ([.int .u32 258]) :: .row 52 1 (.slice (some ⟨g16, 0, none⟩) 1 2) 1 ([.int .u32 1]) :: .row 52 1 (.slice (some ⟨g17, 0, none⟩) 1 2) 1 ([.int .u32 1]) :: []) := hM.perm (List.perm_middle (l₁ := [_, _]))
 exact ⟨g15, g16, g17, rfl, hM⟩
theorem sc_nil {w : World} : Sc w none 0 [] := ⟨⟨fun x hx => (by cases hx), fun h => absurd rfl h⟩, fun _ => rfl, Nat.le_refl _⟩
theorem same_fix {w : World} {o1 o2 o3 o4 u1 u2 u3 u4 : Option Addr} {c1 c2 c3 c4 d1 d2 d3 d4 : Nat} (ha : Nm w (Q6.whole false 258) o1 c1 o2 c2 o3 c3 o4 c4) (hu : Nm w (Q6.whole false 258) u1 d1 u2 d2 u3 d3 u4 d4) : Calls Tryd.prog 18 #[.agg #[.bool false, .slice o1 1 c1, .slice o2 1 c2, .bool false, .slice o3 0 c3, .slice o4 1 c4], .agg #[.bool false, .slice u1 1 d1, .slice u2 1 d2, .bool false, .slice u3 0 d3, .slice u4 1 d4]] w fun e w' => e = .returned (.bool true) ∧ Below w.heap.size w w' := by
  have h := sameQ_any ha (lenQ_whole len_258) hu (lenQ_whole len_258) (sameQ_self (soundQ_whole len_258 (by decide)))
  have e : ∀ p1 b1 p2 b2 p3 b3 p4 b4, numV (Q6.whole false 258) p1 b1 p2 b2 p3 b3 p4 b4 = .agg #[.bool false, .slice p1 1 b1, .slice p2 1 b2, .bool false, .slice p3 0 b3, .slice p4 1 b4] := by
    intro p1 b1 p2 b2 p3 b3 p4 b4
    unfold numV Q6.whole
    rw [words_258]
    rfl
  rw [e, e] at h
  exact h
theorem awake5_any {w : World} : Calls Tryd.prog 9 #[] w fun e w' => e = .returned (.bool true) ∧ Below w.heap.size w w' := by
 have hM : Mg w w ([]) := Mg.start w
 refine walk_of (l := []) Tryd.func9 rfl Tryd.ntmps9 rfl rfl ?_
 intro Q hret hnorm hP a hA
 refine wp_seq_k (fun K1 hK1 => ?_)
 refine wp_region_lit ?_
 refine seq_do hA rfl rfl rfl (does_assign rfl) ?_
 intro a hA
 refine seq_end ?_
 refine hK1 _ _ ?_
 refine wp_seq_k (fun K2 hK2 => ?_)
 refine wp_region_lit ?_
 refine s_lit (vs := [.int .u8 1, .int .u8 2]) hA hM rfl rfl rfl (does_buildSlice rfl (by kernel_rfl)) rfl rfl (noBld_quiet quietL_nil) ?_
 intro g3 w4 hM a hA
 replace hM : Mg w w4 (.row BY 1 (.slice (some ⟨g3, 0, none⟩) 2 2) 2 ((Lib.byteCells [1, 2])) :: []) := hM
 refine seq_call hA rfl rfl rfl (enters_func rfl rfl (fun w => by kernel_rfl)) (get_fix (rb_row (bs := [1, 2]) hM 0 rfl).1 (by decide)) ?_
 rintro _ w9 ⟨g5, g6, g7, rfl, hM8⟩
 replace hM : Mg w w9 (.row 52 1 (.slice (some ⟨g5, 0, none⟩) 1 1) 1 ([.int .u32 258]) :: .row 52 1 (.slice (some ⟨g6, 0, none⟩) 1 2) 1 ([.int .u32 1]) :: .row 52 1 (.slice (some ⟨g7, 0, none⟩) 1 2) 1 ([.int .u32 1]) :: .row BY 1 (.slice (some ⟨g3, 0, none⟩) 2 2) 2 ((Lib.byteCells [1, 2])) :: []) := (hM.both hM8 (noBld_cons (by simp) (noBld_quiet quietL_nil)) (noBld_cons (by simp) (noBld_cons (by simp) (noBld_cons (by simp) (noBld_quiet quietL_nil)))))
 refine ⟨_, rfl, ?_⟩
 intro a hA
 refine seq_do hA rfl rfl rfl (does_move rfl) ?_
 intro a hA
 refine seq_do (v := .agg #[.bool false, .slice (some ⟨g5, 0, none⟩) 1 1, .slice (some ⟨g6, 0, none⟩) 1 2, .bool false, .slice none 0 0, .slice (some ⟨g7, 0, none⟩) 1 2]) hA rfl rfl rfl (does_extract (vs := [.agg #[.bool false, .slice (some ⟨g5, 0, none⟩) 1 1, .slice (some ⟨g6, 0, none⟩) 1 2, .bool false, .slice none 0 0, .slice (some ⟨g7, 0, none⟩) 1 2], .int .i64 0]) rfl rfl) ?_
 intro a hA
 refine seq_do (v := .int .i64 0) hA rfl rfl rfl (does_extract (vs := [.agg #[.bool false, .slice (some ⟨g5, 0, none⟩) 1 1, .slice (some ⟨g6, 0, none⟩) 1 2, .bool false, .slice none 0 0, .slice (some ⟨g7, 0, none⟩) 1 2], .int .i64 0]) rfl rfl) ?_
 intro a hA
 refine s_new (vs := [.bool false, .slice none 0 0, .slice none 0 0, .bool false, .slice none 0 0, .slice none 0 0]) (t := 27) hA hM rfl rfl rfl (fun g => .pointer (some ⟨g, 0, none⟩)) (does_alloc (z := .agg #[.bool false, .slice none 0 0, .slice none 0 0, .bool false, .slice none 0 0, .slice none 0 0]) (by kernel_rfl) rfl) (by decide) ?_
 intro g10 w11 hM a hA
 refine s_store (us := [.bool false, .slice (some ⟨g5, 0, none⟩) 1 1, .slice (some ⟨g6, 0, none⟩) 1 2, .bool false, .slice none 0 0, .slice (some ⟨g7, 0, none⟩) 1 2]) (L' := (.obj g10 (.cells #[.bool false, .slice (some ⟨g5, 0, none⟩) 1 1, .slice (some ⟨g6, 0, none⟩) 1 2, .bool false, .slice none 0 0, .slice (some ⟨g7, 0, none⟩) 1 2] 27) :: .row 52 1 (.slice (some ⟨g5, 0, none⟩) 1 1) 1 ([.int .u32 258]) :: .row 52 1 (.slice (some ⟨g6, 0, none⟩) 1 2) 1 ([.int .u32 1]) :: .row 52 1 (.slice (some ⟨g7, 0, none⟩) 1 2) 1 ([.int .u32 1]) :: .row BY 1 (.slice (some ⟨g3, 0, none⟩) 2 2) 2 ((Lib.byteCells [1, 2])) :: [])) hA hM rfl rfl (m_store rfl rfl rfl (by kernel_rfl) hM 0 rfl rfl rfl) 0 rfl rfl rfl ?_
 intro w12 hM
 refine seq_do hA rfl rfl rfl (does_assign rfl) ?_
 intro a hA
 refine seq_end ?_
 refine hK2 _ _ ?_
 refine wp_seq_k (fun K13 hK13 => ?_)
 refine wp_draw (S := fun w1 => Mg w w1 (.obj g10 (.cells #[.bool false, .slice (some ⟨g5, 0, none⟩) 1 1, .slice (some ⟨g6, 0, none⟩) 1 2, .bool false, .slice none 0 0, .slice (some ⟨g7, 0, none⟩) 1 2] 27) :: [])) (by kernel_rfl) ?_
 replace hM := hM.drew
 refine any_tk hA 0 rfl rfl rfl rfl hP (hM.sub (.cons_cons _ (.cons _ (.cons _ (.cons _ (.cons _ (List.nil_sublist _))))))) (fun w1 hM => does_move rfl) ?_
 intro a hA
 refine any_tk (v := .bool true) hA 1 rfl rfl rfl rfl hP (hM.sub (.cons_cons _ (.cons _ (.cons _ (.cons _ (.cons _ (List.nil_sublist _))))))) (fun w1 hM => does_bin rfl rfl (fun w => by kernel_rfl)) ?_
 intro a hA
 refine any_tk hA 2 rfl rfl rfl rfl hP (hM.sub (.cons_cons _ (.cons _ (.cons _ (.cons _ (.cons _ (List.nil_sublist _))))))) (fun w1 hM => does_move rfl) ?_
 intro a hA
 refine any_tk hA 3 rfl rfl rfl rfl hP (hM.sub (.cons_cons _ (.cons _ (.cons _ (.cons _ (.cons _ (List.nil_sublist _))))))) (fun w1 hM => m_loadS hM ByW_isS_27 rfl 0 rfl (cs := [.bool false, .slice (some ⟨g5, 0, none⟩) 1 1, .slice (some ⟨g6, 0, none⟩) 1 2, .bool false, .slice none 0 0, .slice (some ⟨g7, 0, none⟩) 1 2]) rfl rfl) ?_
 intro a hA
 refine any_one (by kernel_rfl) (op_call hA 4 rfl rfl rfl rfl (enters_func rfl rfl (fun w => by kernel_rfl)) (int_fix258) ?_)
 rintro _ w18 ⟨g14, g15, g16, rfl, hM17⟩
 replace hM : Mg w w18 (.row 52 1 (.slice (some ⟨g14, 0, none⟩) 1 2) 1 ([.int .u32 258]) :: .row 52 1 (.slice (some ⟨g15, 0, none⟩) 1 2) 1 ([.int .u32 1]) :: .row 52 1 (.slice (some ⟨g16, 0, none⟩) 1 2) 1 ([.int .u32 1]) :: .obj g10 (.cells #[.bool false, .slice (some ⟨g5, 0, none⟩) 1 1, .slice (some ⟨g6, 0, none⟩) 1 2, .bool false, .slice none 0 0, .slice (some ⟨g7, 0, none⟩) 1 2] 27) :: .row 52 1 (.slice (some ⟨g5, 0, none⟩) 1 1) 1 ([.int .u32 258]) :: .row 52 1 (.slice (some ⟨g6, 0, none⟩) 1 2) 1 ([.int .u32 1]) :: .row 52 1 (.slice (some ⟨g7, 0, none⟩) 1 2) 1 ([.int .u32 1]) :: .row BY 1 (.slice (some ⟨g3, 0, none⟩) 2 2) 2 ((Lib.byteCells [1, 2])) :: []) := (hM.both hM17 (noBld_cons (by simp) (noBld_cons (by simp) (noBld_cons (by simp) (noBld_cons (by simp) (noBld_cons (by simp) (noBld_quiet quietL_nil)))))) (noBld_cons (by simp) (noBld_cons (by simp) (noBld_cons (by simp) (noBld_quiet quietL_nil)))))
 refine ⟨_, rfl, (hM.sub (.cons _ (.cons _ (.cons _ (.cons_cons _ (.cons _ (.cons _ (.cons _ (.cons _ (List.nil_sublist _)))))))))), ?_⟩
 intro a hA
 refine any_one (by kernel_rfl) (op_call hA 5 rfl rfl rfl rfl (enters_func rfl rfl (fun w => by kernel_rfl)) ((same_fix (show Nm _ (Q6.whole false 258) (some ⟨g5, 0, none⟩) 1 (some ⟨g6, 0, none⟩) 2 none 0 (some ⟨g7, 0, none⟩) 2 from ⟨(by show Sc _ _ _ (words 258); rw [words_258]; exact rd_row (x := 258) hM 4 rfl (by decide)), rd_row (x := 1) hM 5 rfl (by decide), sc_nil, rd_row (x := 1) hM 6 rfl (by decide)⟩) (show Nm _ (Q6.whole false 258) (some ⟨g14, 0, none⟩) 2 (some ⟨g15, 0, none⟩) 2 none 0 (some ⟨g16, 0, none⟩) 2 from ⟨(by show Sc _ _ _ (words 258); rw [words_258]; exact rd_row (x := 258) hM 0 rfl (by decide)), rd_row (x := 1) hM 1 rfl (by decide), sc_nil, rd_row (x := 1) hM 2 rfl (by decide)⟩))) ?_)
 rintro _ w20 ⟨rfl, hb19⟩
 replace hM := hM.call hb19
 refine ⟨_, rfl, (hM.sub (.cons _ (.cons _ (.cons _ (.cons_cons _ (.cons _ (.cons _ (.cons _ (.cons _ (List.nil_sublist _)))))))))), ?_⟩
 intro a hA
 refine any_tk (v := .bool true) hA 6 rfl rfl rfl rfl hP (hM.sub (.cons _ (.cons _ (.cons _ (.cons_cons _ (.cons _ (.cons _ (.cons _ (.cons _ (List.nil_sublist _)))))))))) (fun w1 hM => does_pick rfl rfl rfl rfl) ?_
 intro a hA
 refine any_tk hA 7 rfl rfl rfl rfl hP (hM.sub (.cons _ (.cons _ (.cons _ (.cons_cons _ (.cons _ (.cons _ (.cons _ (.cons _ (List.nil_sublist _)))))))))) (fun w1 hM => does_assign rfl) ?_
 intro a hA
 refine any_end (by kernel_rfl) ?_
 refine hK13 _ _ ?_
 refine wp_ret ?_
 refine hret _ _ ?_
 refine ends (v := .bool true) hA rfl (.cons (res_tmp rfl) .nil) rfl ?_
 exact ⟨rfl, hM.bel⟩
end Go.Proofs.YtoeofpncdchicaaDoor.G
