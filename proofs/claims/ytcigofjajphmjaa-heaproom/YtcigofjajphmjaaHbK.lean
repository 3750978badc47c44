/- The walk of the law of room. -/
import Derived.Test.YtcigofjajphmjaaHbJ
import Derived.Test.YtcigofjajphmjaaHbD
namespace Go.Proofs.Ytcigofjajphmjaa
open Go.RowKit
set_option linter.unusedVariables false
set_option linter.unusedSimpArgs false
set_option maxRecDepth 100000
theorem HbK_is1_5 : Is1 Try.prog 5 := ⟨⟨_, Try.underlying5, rfl⟩, by kernel_rfl⟩
theorem heapRoom_nat {w : World} {sm : Nat} (hsm : sm ≤ 255) {so : Option Addr} {ca : Nat} {l : List UInt8} (hb : Rb w so l) (hl : l.length ≤ 140737488351232) : Calls Try.prog 5 #[.int .u8 ((sm : Nat) : Int), .slice so l.length ca] w fun e w' => e = .returned (.bool true) ∧ Below w.heap.size w w' := by
 have hM : Mg w w ([]) := Mg.start w
 refine walk_of (l := [(0, .int .u8 (((sm : Nat) : Int))), (1, .slice so l.length ca)]) Try.func5 rfl Try.ntmps5 rfl rfl ?_
 intro Q hret hnorm hP a hA
 refine wp_seq_k (fun K1 hK1 => ?_)
 refine wp_region_lit ?_
 refine seq_do hA rfl rfl rfl (does_assign rfl) ?_
 intro a hA
 refine seq_end ?_
 refine hK1 _ _ ?_
 refine wp_seq_k (fun K2 hK2 => ?_)
 refine wp_region_lit ?_
 refine seq_do hA rfl rfl rfl (does_move rfl) ?_
 intro a hA
 refine seq_do (v := .int .i64 (((sm : Nat) : Int))) hA rfl rfl rfl (does_convert rfl (ar_conv Try.underlying5 Try.underlying3 (in_i64 (by omega) (by omega)))) ?_
 intro a hA
 refine seq_call hA rfl rfl rfl (enters_func rfl rfl (fun w => by kernel_rfl)) (new_any (s := sm) (l := 0) (by omega) (by omega)) ?_
 rintro _ w4 ⟨h, m, gs, gl, rfl, hM3⟩
 replace hM : Mg w w4 (.obj h (.cells #[.map (some m), .int .i64 0, .int .i64 (((sm : Nat) : Int)), .slice (some ⟨gs, 0, none⟩) 1 1, .int .i64 (((0 : Nat) : Int)), .slice (some ⟨gl, 0, none⟩) 1 1] 73) :: .obj m (mapO ([]) 0) :: .row 96 2 (.slice (some ⟨gs, 0, none⟩) 1 1) 1 (gapC [(0, sm)]) :: .row 96 2 (.slice (some ⟨gl, 0, none⟩) 1 1) 1 (gapC [(0, 0)]) :: []) := hM3
 refine ⟨_, rfl, ?_⟩
 intro a hA
 refine seq_do hA rfl rfl rfl (does_move rfl) ?_
 intro a hA
 refine seq_do (v := .pointer (some ⟨h, 0, none⟩)) hA rfl rfl rfl (does_extract (vs := [.pointer (some ⟨h, 0, none⟩), .int .i64 0]) rfl rfl) ?_
 intro a hA
 refine seq_do (v := .int .i64 0) hA rfl rfl rfl (does_extract (vs := [.pointer (some ⟨h, 0, none⟩), .int .i64 0]) rfl rfl) ?_
 intro a hA
 refine seq_do hA rfl rfl rfl (does_assign rfl) ?_
 intro a hA
 refine seq_do hA rfl rfl rfl (does_assign rfl) ?_
 intro a hA
 refine seq_end ?_
 refine hK2 _ _ ?_
 refine wp_seq_k (fun K5 hK5 => ?_)
 refine wp_seq_k (fun K6 hK6 => ?_)
 refine wp_region_lit ?_
 refine seq_call hA rfl rfl rfl (enters_func rfl rfl (fun w => by kernel_rfl)) (awake_any) ?_
 rintro _ w8 ⟨rfl, hb7⟩
 replace hM := hM.call hb7
 refine ⟨_, rfl, ?_⟩
 intro a hA
 refine seq_do (v := .bool false) hA rfl rfl rfl (does_un rfl un_not) ?_
 intro a hA
 refine seq_do hA rfl rfl rfl (does_move rfl) ?_
 intro a hA
 refine seq_do hA rfl rfl rfl (does_move rfl) ?_
 intro a hA
 refine seq_do (v := .bool false) hA rfl rfl rfl (does_bin rfl rfl (fun w => by kernel_rfl)) ?_
 intro a hA
 refine seq_do (v := .bool false) hA rfl rfl rfl (does_pick rfl rfl rfl rfl) ?_
 intro a hA
 refine seq_do hA rfl rfl rfl (does_move rfl) ?_
 intro a hA
 refine seq_do hA rfl rfl rfl (does_move rfl) ?_
 intro a hA
 refine seq_do (v := .bool false) hA rfl rfl rfl (does_bin rfl rfl (bin_nilN Try.underlying24)) ?_
 intro a hA
 refine seq_do (v := .bool false) hA rfl rfl rfl (does_pick rfl rfl rfl rfl) ?_
 intro a hA
 refine seq_end ?_
 refine hK6 _ _ ?_
 refine wp_cond_false (hA.ev rfl) ?_
 refine wp_skip ?_
 refine hK5 _ _ ?_
 refine wp_seq_k (fun K9 hK9 => ?_)
 refine wp_region_lit ?_
 refine seq_do hA rfl rfl rfl (does_assign rfl) ?_
 intro a hA
 refine seq_end ?_
 refine hK9 _ _ ?_
 refine wp_seq_k (fun K10 hK10 => ?_)
 refine wp_seq_k (fun K11 hK11 => ?_)
 refine wp_region_lit ?_
 refine seq_do hA rfl rfl rfl (does_assign rfl) ?_
 intro a hA
 refine seq_end ?_
 refine hK11 _ _ ?_
 refine wp_block ?_
 replace hM : Mg w w8 (.row 96 2 (.slice (some ⟨gl, 0, none⟩) 1 1) 1 (gapC [(0, 0)]) :: .obj h (.cells #[.map (some m), .int .i64 0, .int .i64 (((sm : Nat) : Int)), .slice (some ⟨gs, 0, none⟩) 1 1, .int .i64 (((0 : Nat) : Int)), .slice (some ⟨gl, 0, none⟩) 1 1] 73) :: .obj m (mapO ([]) 0) :: .row 96 2 (.slice (some ⟨gs, 0, none⟩) 1 1) 1 (gapC [(0, sm)]) :: []) := hM.bring 3 rfl rfl
 replace hM : Mg w w8 (.row 96 2 (.slice (some ⟨gs, 0, none⟩) 1 1) 1 (gapC [(0, sm)]) :: .row 96 2 (.slice (some ⟨gl, 0, none⟩) 1 1) 1 (gapC [(0, 0)]) :: .obj h (.cells #[.map (some m), .int .i64 0, .int .i64 (((sm : Nat) : Int)), .slice (some ⟨gs, 0, none⟩) 1 1, .int .i64 (((0 : Nat) : Int)), .slice (some ⟨gl, 0, none⟩) 1 1] 73) :: .obj m (mapO ([]) 0) :: []) := hM.bring 3 rfl rfl
 replace hM : Mg w w8 (.obj m (mapO ([]) 0) :: .row 96 2 (.slice (some ⟨gs, 0, none⟩) 1 1) 1 (gapC [(0, sm)]) :: .row 96 2 (.slice (some ⟨gl, 0, none⟩) 1 1) 1 (gapC [(0, 0)]) :: .obj h (.cells #[.map (some m), .int .i64 0, .int .i64 (((sm : Nat) : Int)), .slice (some ⟨gs, 0, none⟩) 1 1, .int .i64 (((0 : Nat) : Int)), .slice (some ⟨gl, 0, none⟩) 1 1] 73) :: []) := hM.bring 3 rfl rfl
 replace hM : Mg w w8 (.obj h (.cells #[.map (some m), .int .i64 0, .int .i64 (((sm : Nat) : Int)), .slice (some ⟨gs, 0, none⟩) 1 1, .int .i64 (((0 : Nat) : Int)), .slice (some ⟨gl, 0, none⟩) 1 1] 73) :: .obj m (mapO ([]) 0) :: .row 96 2 (.slice (some ⟨gs, 0, none⟩) 1 1) 1 (gapC [(0, sm)]) :: .row 96 2 (.slice (some ⟨gl, 0, none⟩) 1 1) 1 (gapC [(0, 0)]) :: []) := hM.bring 3 rfl rfl
 refine wp_loop_n (fun m_ a w1 => ∃ (i : Nat) (u : Nat) (last : Nat) (os : List Ob) (gs : List (Nat × Nat)) (gl : List (Nat × Nat)) (sg : Option Addr) (lg : Option Addr) (sc : Nat) (lc : Nat) (X : List Ck), m_ = 1 + (l.length - i) ∧ (i ≤ l.length ∧ Hm sm i u last os gs gl ∧ noBld X) ∧ Sl a 105 [(0, .int .u8 (((sm : Nat) : Int))), (1, .slice so l.length ca), (5, .pointer (some ⟨h, 0, none⟩)), (6, .int .i64 0), (7, .int .i64 (((u : Nat) : Int))), (8, .int .i64 (((i : Nat) : Int))), (15, .tuple #[.pointer (some ⟨h, 0, none⟩), .int .i64 0]), (16, .int .u8 (((sm : Nat) : Int))), (17, .int .i64 (((sm : Nat) : Int))), (18, .tuple #[.pointer (some ⟨h, 0, none⟩), .int .i64 0]), (19, .pointer (some ⟨h, 0, none⟩)), (20, .int .i64 0), (21, .bool true), (22, .bool false), (23, .bool false), (24, .int .i64 0), (25, .bool false), (26, .bool false), (27, .bool false), (28, .pointer (some ⟨h, 0, none⟩)), (29, .bool false), (30, .bool false)] ∧ Mg w w1 (.obj h (.cells #[.map (some m), .int .i64 (((last : Nat) : Int)), .int .i64 (((sm : Nat) : Int)), .slice sg gs.length sc, .int .i64 (((0 : Nat) : Int)), .slice lg gl.length lc] 73) :: .obj m (mapO (os.map Ob.en) last) :: .row 96 2 (.slice sg gs.length sc) gs.length (gapC gs) :: .row 96 2 (.slice lg gl.length lc) gl.length (gapC gl) :: (os.map Ob.row ++ X))) _ ⟨0, 0, 0, [], [(0, sm)], [(0, 0)], some ⟨gs, 0, none⟩, some ⟨gl, 0, none⟩, 1, 1, [], rfl, ⟨Nat.zero_le _, Hm.start sm, nob_nil⟩, hA.keep _ ⟨rfl, rfl, rfl, rfl, rfl, rfl, rfl, rfl, rfl, rfl, rfl, rfl, rfl, rfl, rfl, rfl, rfl, rfl, rfl, rfl, rfl, rfl, trivial⟩, hM⟩ ?_
 clear hM hA
 rintro m_ a w12 ⟨i, u, last, os, gs, gl, sg, lg, sc, lc, X, rfl, hinv14, hA, hM⟩ K13 hK13
 obtain ⟨hi0, hm, hnX⟩ := hinv14
 refine wp_seq_k (fun K15 hK15 => ?_)
 refine wp_seq_k (fun K16 hK16 => ?_)
 refine wp_region_lit ?_
 refine seq_do hA rfl rfl rfl (does_move rfl) ?_
 intro a hA
 refine seq_do hA rfl rfl rfl (does_move rfl) ?_
 intro a hA
 refine seq_do (v := .int .i64 (((l.length : Nat) : Int))) hA rfl rfl rfl (does_len Try.underlying56 rfl) ?_
 intro a hA
 rcases Bool.eq_false_or_eq_true (decide (((i : Nat) : Int) < ((l.length : Nat) : Int))) with hb17 | hb17
 · have hb17' := of_decide_eq_true hb17
   refine seq_do (v := .bool true) hA rfl rfl rfl (does_bin rfl rfl (fun w => (bin_lss w).trans (by rw [hb17]))) ?_
   intro a hA
   refine seq_end ?_
   refine hK16 _ _ ?_
   refine wp_cond_true (hA.ev rfl) ?_
   refine wp_skip ?_
   refine hK15 _ _ ?_
   refine wp_seq_k (fun K18 hK18 => ?_)
   refine wp_block ?_
   refine wp_seq_k (fun K19 hK19 => ?_)
   obtain ⟨bb, ob, hso, hblt, hbc⟩ := hb.pos (fun k => by have h9 : i < l.length := (by omega); rw [k] at h9; exact absurd h9 (Nat.not_lt_zero _))
   have hb8 := UInt8.toNat_lt (l.getD i 0)
   obtain ⟨n, hn⟩ : ∃ n, n = (l.getD i 0).toNat % 16 + 1 := ⟨_, rfl⟩
   have hsum := hm.sum
   have hle := hm.le
   have hol := hm.len
   have hone := hm.one
   refine wp_region_lit ?_
   refine seq_do hA rfl rfl rfl (does_move rfl) ?_
   intro a hA
   refine seq_do hA rfl rfl rfl (does_move rfl) ?_
   intro a hA
   refine seq_do (v := .pointer (some ⟨bb, ob + i, none⟩)) hA rfl rfl rfl (does_indexRow (k := i) Try.underlying56 (by kernel_rfl) rfl rfl rfl hso (by omega)) ?_
   intro a hA
   refine seq_do (v := .int .u8 ((((l.getD i 0).toNat : Nat) : Int))) hA rfl rfl rfl (m_loadR hM hblt (hbc i (by omega)) HbK_is1_5 rfl) ?_
   intro a hA
   refine seq_do (v := .int .i64 ((((l.getD i 0).toNat : Nat) : Int))) hA rfl rfl rfl (does_convert rfl (ar_conv Try.underlying5 Try.underlying3 (in_i64 (by omega) (by omega)))) ?_
   intro a hA
   refine seq_do (v := .int .i64 ((((l.getD i 0).toNat % 16 : Nat) : Int))) hA rfl rfl rfl (does_bin rfl rfl (ar_rem (by decide) ((Int.tmod_eq_emod_of_nonneg (by omega)).trans (by omega)))) ?_
   intro a hA
   refine seq_do (v := .int .i64 (((n : Nat) : Int))) hA rfl rfl rfl (does_bin rfl rfl (ar_add ((in_i64 (by omega) (by omega)).trans (by omega)))) ?_
   intro a hA
   refine seq_do hA rfl rfl rfl (does_assign rfl) ?_
   intro a hA
   refine seq_end ?_
   refine hK19 _ _ ?_
   refine wp_seq_k (fun K20 hK20 => ?_)
   refine wp_region_lit ?_
   refine seq_do hA rfl rfl rfl (does_move rfl) ?_
   intro a hA
   refine seq_do hA rfl rfl rfl (does_move rfl) ?_
   intro a hA
   rcases Bool.eq_false_or_eq_true ((idxG n gs).isSome) with hb21 | hb21
   · replace hM : Mg w w12 (.row 96 2 (.slice lg gl.length lc) gl.length (gapC gl) :: .obj h (.cells #[.map (some m), .int .i64 (((last : Nat) : Int)), .int .i64 (((sm : Nat) : Int)), .slice sg gs.length sc, .int .i64 (((0 : Nat) : Int)), .slice lg gl.length lc] 73) :: .obj m (mapO (os.map Ob.en) last) :: .row 96 2 (.slice sg gs.length sc) gs.length (gapC gs) :: (os.map Ob.row ++ X)) := hM.bring 3 rfl rfl
     replace hM : Mg w w12 (.row 96 2 (.slice sg gs.length sc) gs.length (gapC gs) :: .row 96 2 (.slice lg gl.length lc) gl.length (gapC gl) :: .obj h (.cells #[.map (some m), .int .i64 (((last : Nat) : Int)), .int .i64 (((sm : Nat) : Int)), .slice sg gs.length sc, .int .i64 (((0 : Nat) : Int)), .slice lg gl.length lc] 73) :: .obj m (mapO (os.map Ob.en) last) :: (os.map Ob.row ++ X)) := hM.bring 3 rfl rfl
     replace hM : Mg w w12 (.obj m (mapO (os.map Ob.en) last) :: .row 96 2 (.slice sg gs.length sc) gs.length (gapC gs) :: .row 96 2 (.slice lg gl.length lc) gl.length (gapC gl) :: .obj h (.cells #[.map (some m), .int .i64 (((last : Nat) : Int)), .int .i64 (((sm : Nat) : Int)), .slice sg gs.length sc, .int .i64 (((0 : Nat) : Int)), .slice lg gl.length lc] 73) :: (os.map Ob.row ++ X)) := hM.bring 3 rfl rfl
     replace hM : Mg w w12 (.obj h (.cells #[.map (some m), .int .i64 (((last : Nat) : Int)), .int .i64 (((sm : Nat) : Int)), .slice sg gs.length sc, .int .i64 (((0 : Nat) : Int)), .slice lg gl.length lc] 73) :: .obj m (mapO (os.map Ob.en) last) :: .row 96 2 (.slice sg gs.length sc) gs.length (gapC gs) :: .row 96 2 (.slice lg gl.length lc) gl.length (gapC gl) :: (os.map Ob.row ++ X)) := hM.bring 3 rfl rfl
     obtain ⟨hi, hat, hns, hge⟩ := hm.hit (n := n) (by omega) hb21
     have htle : decide (((u + n : Nat) : Int) ≤ ((sm : Nat) : Int)) = true := decide_eq_true (by omega)
     refine seq_call hA rfl rfl rfl (enters_func rfl rfl (fun w => by kernel_rfl)) (allocS_ok (ss := sm) (ls := 0) (by omega) (decide_eq_false (by omega)) (by have := hm.la; omega) hm.hx (by omega) hi hat hns (by omega) hM) ?_
     rintro _ w23 ⟨gr, rfl, hM22⟩
     replace hM : Mg w w23 (.obj h (.cells #[.map (some m), .int .i64 ((((last + 1) : Nat) : Int)), .int .i64 (((sm : Nat) : Int)), .slice sg ((gs.set 0 (u + n, sm - u - n)).length) sc, .int .i64 (((0 : Nat) : Int)), .slice lg gl.length lc] 73) :: .obj m (mapO ((os ++ [nOb last u gr n]).map Ob.en) ((last + 1))) :: .row 96 2 (.slice sg ((gs.set 0 (u + n, sm - u - n)).length) sc) ((gs.set 0 (u + n, sm - u - n)).length) (gapC (gs.set 0 (u + n, sm - u - n))) :: .row 96 2 (.slice lg gl.length lc) gl.length (gapC gl) :: ((os ++ [nOb last u gr n]).map Ob.row ++ X)) := hM22
     refine ⟨_, rfl, ?_⟩
     intro a hA
     refine seq_do hA rfl rfl rfl (does_move rfl) ?_
     intro a hA
     refine seq_do (v := .int .i64 (((last + 1 : Nat) : Int))) hA rfl rfl rfl (does_extract (vs := [.int .i64 (((last + 1 : Nat) : Int)), .int .i64 0]) rfl rfl) ?_
     intro a hA
     refine seq_do (v := .int .i64 0) hA rfl rfl rfl (does_extract (vs := [.int .i64 (((last + 1 : Nat) : Int)), .int .i64 0]) rfl rfl) ?_
     intro a hA
     refine seq_do hA rfl rfl rfl (does_assign rfl) ?_
     intro a hA
     refine seq_do hA rfl rfl rfl (does_assign rfl) ?_
     intro a hA
     refine seq_end ?_
     refine hK20 _ _ ?_
     refine wp_seq_k (fun K24 hK24 => ?_)
     refine wp_seq_k (fun K25 hK25 => ?_)
     refine wp_region_lit ?_
     refine seq_do hA rfl rfl rfl (does_move rfl) ?_
     intro a hA
     refine seq_do (v := .bool true) hA rfl rfl rfl (does_bin rfl rfl (fun w => by kernel_rfl)) ?_
     intro a hA
     refine seq_do hA rfl rfl rfl (does_move rfl) ?_
     intro a hA
     refine seq_do hA rfl rfl rfl (does_move rfl) ?_
     intro a hA
     refine seq_do (v := .int .i64 (((u + n : Nat) : Int))) hA rfl rfl rfl (does_bin rfl rfl (ar_add ((in_i64 (by omega) (by omega)).trans (by omega)))) ?_
     intro a hA
     refine seq_do hA rfl rfl rfl (does_move rfl) ?_
     intro a hA
     refine seq_do (v := .int .i64 (((sm : Nat) : Int))) hA rfl rfl rfl (does_convert rfl (ar_conv Try.underlying5 Try.underlying3 (in_i64 (by omega) (by omega)))) ?_
     intro a hA
     refine seq_do (v := .bool true) hA rfl rfl rfl (does_bin rfl rfl (fun w => (bin_leq w).trans (by rw [show (decide (((u + n : Nat) : Int) ≤ ((sm : Nat) : Int))) = true from htle]))) ?_
     intro a hA
     refine seq_do (v := .bool false) hA rfl rfl rfl (does_bin rfl rfl (bin_neqB Try.underlying4)) ?_
     intro a hA
     refine seq_do hA rfl rfl rfl (does_move rfl) ?_
     intro a hA
     refine seq_do hA rfl rfl rfl (does_move rfl) ?_
     intro a hA
     refine seq_do (v := .bool false) hA rfl rfl rfl (does_bin rfl rfl (fun w => by kernel_rfl)) ?_
     intro a hA
     refine seq_do hA rfl rfl rfl (does_move rfl) ?_
     intro a hA
     refine seq_skip hA rfl rfl rfl ?_
     intro a hA
     refine seq_skip hA rfl rfl rfl ?_
     intro a hA
     refine seq_do (v := .bool false) hA rfl rfl rfl (does_pick rfl rfl rfl rfl) ?_
     intro a hA
     refine seq_do (v := .bool false) hA rfl rfl rfl (does_pick rfl rfl rfl rfl) ?_
     intro a hA
     refine seq_end ?_
     refine hK25 _ _ ?_
     refine wp_cond_false (hA.ev rfl) ?_
     refine wp_skip ?_
     refine hK24 _ _ ?_
     refine wp_seq_k (fun K26 hK26 => ?_)
     refine wp_seq_k (fun K27 hK27 => ?_)
     refine wp_region_lit ?_
     refine seq_do hA rfl rfl rfl (does_move rfl) ?_
     intro a hA
     refine seq_do (v := .bool true) hA rfl rfl rfl (does_bin rfl rfl (fun w => by kernel_rfl)) ?_
     intro a hA
     refine seq_end ?_
     refine hK27 _ _ ?_
     refine wp_cond_true (hA.ev rfl) ?_
     refine wp_seq_k (fun K28 hK28 => ?_)
     refine wp_region_lit ?_
     refine seq_do hA rfl rfl rfl (does_move rfl) ?_
     intro a hA
     refine seq_do hA rfl rfl rfl (does_move rfl) ?_
     intro a hA
     refine seq_do (v := .int .i64 (((u + n : Nat) : Int))) hA rfl rfl rfl (does_bin rfl rfl (ar_add ((in_i64 (by omega) (by omega)).trans (by omega)))) ?_
     intro a hA
     refine seq_do hA rfl rfl rfl (does_assign rfl) ?_
     intro a hA
     refine seq_end ?_
     refine hK28 _ _ ?_
     refine wp_exit ?_
     refine hK18 _ _ ?_
     refine wp_region_lit ?_
     refine seq_do hA rfl rfl rfl (does_move rfl) ?_
     intro a hA
     refine seq_do (v := .int .i64 (((i + 1 : Nat) : Int))) hA rfl rfl rfl (does_bin rfl rfl (ar_add ((in_i64 (by omega) (by omega)).trans (by omega)))) ?_
     intro a hA
     refine seq_do hA rfl rfl rfl (does_assign rfl) ?_
     intro a hA
     refine seq_end ?_
     replace hM : Mg w w23 (.row 96 2 (.slice lg gl.length lc) gl.length (gapC gl) :: .obj h (.cells #[.map (some m), .int .i64 ((((last + 1) : Nat) : Int)), .int .i64 (((sm : Nat) : Int)), .slice sg ((gs.set 0 (u + n, sm - u - n)).length) sc, .int .i64 (((0 : Nat) : Int)), .slice lg gl.length lc] 73) :: .obj m (mapO ((os ++ [nOb last u gr n]).map Ob.en) ((last + 1))) :: .row 96 2 (.slice sg ((gs.set 0 (u + n, sm - u - n)).length) sc) ((gs.set 0 (u + n, sm - u - n)).length) (gapC (gs.set 0 (u + n, sm - u - n))) :: ((os ++ [nOb last u gr n]).map Ob.row ++ X)) := hM.bring 3 rfl rfl
     replace hM : Mg w w23 (.row 96 2 (.slice sg ((gs.set 0 (u + n, sm - u - n)).length) sc) ((gs.set 0 (u + n, sm - u - n)).length) (gapC (gs.set 0 (u + n, sm - u - n))) :: .row 96 2 (.slice lg gl.length lc) gl.length (gapC gl) :: .obj h (.cells #[.map (some m), .int .i64 ((((last + 1) : Nat) : Int)), .int .i64 (((sm : Nat) : Int)), .slice sg ((gs.set 0 (u + n, sm - u - n)).length) sc, .int .i64 (((0 : Nat) : Int)), .slice lg gl.length lc] 73) :: .obj m (mapO ((os ++ [nOb last u gr n]).map Ob.en) ((last + 1))) :: ((os ++ [nOb last u gr n]).map Ob.row ++ X)) := hM.bring 3 rfl rfl
     replace hM : Mg w w23 (.obj m (mapO ((os ++ [nOb last u gr n]).map Ob.en) ((last + 1))) :: .row 96 2 (.slice sg ((gs.set 0 (u + n, sm - u - n)).length) sc) ((gs.set 0 (u + n, sm - u - n)).length) (gapC (gs.set 0 (u + n, sm - u - n))) :: .row 96 2 (.slice lg gl.length lc) gl.length (gapC gl) :: .obj h (.cells #[.map (some m), .int .i64 ((((last + 1) : Nat) : Int)), .int .i64 (((sm : Nat) : Int)), .slice sg ((gs.set 0 (u + n, sm - u - n)).length) sc, .int .i64 (((0 : Nat) : Int)), .slice lg gl.length lc] 73) :: ((os ++ [nOb last u gr n]).map Ob.row ++ X)) := hM.bring 3 rfl rfl
     replace hM : Mg w w23 (.obj h (.cells #[.map (some m), .int .i64 ((((last + 1) : Nat) : Int)), .int .i64 (((sm : Nat) : Int)), .slice sg ((gs.set 0 (u + n, sm - u - n)).length) sc, .int .i64 (((0 : Nat) : Int)), .slice lg gl.length lc] 73) :: .obj m (mapO ((os ++ [nOb last u gr n]).map Ob.en) ((last + 1))) :: .row 96 2 (.slice sg ((gs.set 0 (u + n, sm - u - n)).length) sc) ((gs.set 0 (u + n, sm - u - n)).length) (gapC (gs.set 0 (u + n, sm - u - n))) :: .row 96 2 (.slice lg gl.length lc) gl.length (gapC gl) :: ((os ++ [nOb last u gr n]).map Ob.row ++ X)) := hM.bring 3 rfl rfl
     refine hK13 _ _ _ (by omega) ⟨i + 1, u + n, last + 1, os ++ [nOb last u gr n], gs.set 0 (u + n, sm - u - n), gl, sg, lg, sc, lc, X, rfl, ⟨by omega, hm.alloc (by omega) (by omega) hns hge gr, hnX⟩, hA.keep _ ⟨rfl, rfl, rfl, rfl, rfl, rfl, rfl, rfl, rfl, rfl, rfl, rfl, rfl, rfl, rfl, rfl, rfl, rfl, rfl, rfl, rfl, rfl, trivial⟩, hM⟩
   · replace hM : Mg w w12 (.row 96 2 (.slice lg gl.length lc) gl.length (gapC gl) :: .obj h (.cells #[.map (some m), .int .i64 (((last : Nat) : Int)), .int .i64 (((sm : Nat) : Int)), .slice sg gs.length sc, .int .i64 (((0 : Nat) : Int)), .slice lg gl.length lc] 73) :: .obj m (mapO (os.map Ob.en) last) :: .row 96 2 (.slice sg gs.length sc) gs.length (gapC gs) :: (os.map Ob.row ++ X)) := hM.bring 3 rfl rfl
     replace hM : Mg w w12 (.row 96 2 (.slice sg gs.length sc) gs.length (gapC gs) :: .row 96 2 (.slice lg gl.length lc) gl.length (gapC gl) :: .obj h (.cells #[.map (some m), .int .i64 (((last : Nat) : Int)), .int .i64 (((sm : Nat) : Int)), .slice sg gs.length sc, .int .i64 (((0 : Nat) : Int)), .slice lg gl.length lc] 73) :: .obj m (mapO (os.map Ob.en) last) :: (os.map Ob.row ++ X)) := hM.bring 3 rfl rfl
     replace hM : Mg w w12 (.obj m (mapO (os.map Ob.en) last) :: .row 96 2 (.slice sg gs.length sc) gs.length (gapC gs) :: .row 96 2 (.slice lg gl.length lc) gl.length (gapC gl) :: .obj h (.cells #[.map (some m), .int .i64 (((last : Nat) : Int)), .int .i64 (((sm : Nat) : Int)), .slice sg gs.length sc, .int .i64 (((0 : Nat) : Int)), .slice lg gl.length lc] 73) :: (os.map Ob.row ++ X)) := hM.bring 3 rfl rfl
     replace hM : Mg w w12 (.obj h (.cells #[.map (some m), .int .i64 (((last : Nat) : Int)), .int .i64 (((sm : Nat) : Int)), .slice sg gs.length sc, .int .i64 (((0 : Nat) : Int)), .slice lg gl.length lc] 73) :: .obj m (mapO (os.map Ob.en) last) :: .row 96 2 (.slice sg gs.length sc) gs.length (gapC gs) :: .row 96 2 (.slice lg gl.length lc) gl.length (gapC gl) :: (os.map Ob.row ++ X)) := hM.bring 3 rfl rfl
     obtain ⟨hi, hnle⟩ := hm.miss (n := n) (by omega) hb21
     have htle : decide (((u + n : Nat) : Int) ≤ ((sm : Nat) : Int)) = false := decide_eq_false (by omega)
     refine seq_call hA rfl rfl rfl (enters_func rfl rfl (fun w => by kernel_rfl)) (allocS_full (ss := sm) (ls := 0) (by omega) (decide_eq_false (by omega)) (by omega) hi hM) ?_
     rintro _ w30 ⟨rfl, hM29⟩
     replace hM : Mg w w30 (.obj h (.cells #[.map (some m), .int .i64 (((last : Nat) : Int)), .int .i64 (((sm : Nat) : Int)), .slice sg gs.length sc, .int .i64 (((0 : Nat) : Int)), .slice lg gl.length lc] 73) :: .obj m (mapO (os.map Ob.en) last) :: .row 96 2 (.slice sg gs.length sc) gs.length (gapC gs) :: .row 96 2 (.slice lg gl.length lc) gl.length (gapC gl) :: (os.map Ob.row ++ X)) := hM29
     refine ⟨_, rfl, ?_⟩
     intro a hA
     refine seq_do hA rfl rfl rfl (does_move rfl) ?_
     intro a hA
     refine seq_do (v := .int .i64 0) hA rfl rfl rfl (does_extract (vs := [.int .i64 0, .int .i64 9]) rfl rfl) ?_
     intro a hA
     refine seq_do (v := .int .i64 9) hA rfl rfl rfl (does_extract (vs := [.int .i64 0, .int .i64 9]) rfl rfl) ?_
     intro a hA
     refine seq_do hA rfl rfl rfl (does_assign rfl) ?_
     intro a hA
     refine seq_do hA rfl rfl rfl (does_assign rfl) ?_
     intro a hA
     refine seq_end ?_
     refine hK20 _ _ ?_
     refine wp_seq_k (fun K31 hK31 => ?_)
     refine wp_seq_k (fun K32 hK32 => ?_)
     refine wp_region_lit ?_
     refine seq_do hA rfl rfl rfl (does_move rfl) ?_
     intro a hA
     refine seq_do (v := .bool false) hA rfl rfl rfl (does_bin rfl rfl (fun w => by kernel_rfl)) ?_
     intro a hA
     refine seq_do hA rfl rfl rfl (does_move rfl) ?_
     intro a hA
     refine seq_do hA rfl rfl rfl (does_move rfl) ?_
     intro a hA
     refine seq_do (v := .int .i64 (((u + n : Nat) : Int))) hA rfl rfl rfl (does_bin rfl rfl (ar_add ((in_i64 (by omega) (by omega)).trans (by omega)))) ?_
     intro a hA
     refine seq_do hA rfl rfl rfl (does_move rfl) ?_
     intro a hA
     refine seq_do (v := .int .i64 (((sm : Nat) : Int))) hA rfl rfl rfl (does_convert rfl (ar_conv Try.underlying5 Try.underlying3 (in_i64 (by omega) (by omega)))) ?_
     intro a hA
     refine seq_do (v := .bool false) hA rfl rfl rfl (does_bin rfl rfl (fun w => (bin_leq w).trans (by rw [show (decide (((u + n : Nat) : Int) ≤ ((sm : Nat) : Int))) = false from htle]))) ?_
     intro a hA
     refine seq_do (v := .bool false) hA rfl rfl rfl (does_bin rfl rfl (bin_neqB Try.underlying4)) ?_
     intro a hA
     refine seq_do hA rfl rfl rfl (does_move rfl) ?_
     intro a hA
     refine seq_do hA rfl rfl rfl (does_move rfl) ?_
     intro a hA
     refine seq_do (v := .bool true) hA rfl rfl rfl (does_bin rfl rfl (fun w => by kernel_rfl)) ?_
     intro a hA
     refine seq_do hA rfl rfl rfl (does_move rfl) ?_
     intro a hA
     refine seq_do hA rfl rfl rfl (does_move rfl) ?_
     intro a hA
     refine seq_do (v := .bool false) hA rfl rfl rfl (does_bin rfl rfl (fun w => by kernel_rfl)) ?_
     intro a hA
     refine seq_do (v := .bool false) hA rfl rfl rfl (does_pick rfl rfl rfl rfl) ?_
     intro a hA
     refine seq_do (v := .bool false) hA rfl rfl rfl (does_pick rfl rfl rfl rfl) ?_
     intro a hA
     refine seq_end ?_
     refine hK32 _ _ ?_
     refine wp_cond_false (hA.ev rfl) ?_
     refine wp_skip ?_
     refine hK31 _ _ ?_
     refine wp_seq_k (fun K33 hK33 => ?_)
     refine wp_seq_k (fun K34 hK34 => ?_)
     refine wp_region_lit ?_
     refine seq_do hA rfl rfl rfl (does_move rfl) ?_
     intro a hA
     refine seq_do (v := .bool false) hA rfl rfl rfl (does_bin rfl rfl (fun w => by kernel_rfl)) ?_
     intro a hA
     refine seq_end ?_
     refine hK34 _ _ ?_
     refine wp_cond_false (hA.ev rfl) ?_
     refine wp_skip ?_
     refine hK33 _ _ ?_
     refine wp_seq_k (fun K35 hK35 => ?_)
     refine wp_region_lit ?_
     refine seq_do hA rfl rfl rfl (does_move rfl) ?_
     intro a hA
     replace hM := hM.nilRowH (noBld_cons (by simp) (noBld_cons (by simp) (noBld_cons (by simp) (noBld_cons (by simp) (nob_rows hnX os))))) 3 1
     replace hM : Mg w w30 (.row 96 2 (.slice lg gl.length lc) gl.length (gapC gl) :: .row 3 1 (.slice none 0 0) 0 (intC []) :: .obj h (.cells #[.map (some m), .int .i64 (((last : Nat) : Int)), .int .i64 (((sm : Nat) : Int)), .slice sg gs.length sc, .int .i64 (((0 : Nat) : Int)), .slice lg gl.length lc] 73) :: .obj m (mapO (os.map Ob.en) last) :: .row 96 2 (.slice sg gs.length sc) gs.length (gapC gs) :: (os.map Ob.row ++ X)) := hM.bring 4 rfl rfl
     replace hM : Mg w w30 (.row 96 2 (.slice sg gs.length sc) gs.length (gapC gs) :: .row 96 2 (.slice lg gl.length lc) gl.length (gapC gl) :: .row 3 1 (.slice none 0 0) 0 (intC []) :: .obj h (.cells #[.map (some m), .int .i64 (((last : Nat) : Int)), .int .i64 (((sm : Nat) : Int)), .slice sg gs.length sc, .int .i64 (((0 : Nat) : Int)), .slice lg gl.length lc] 73) :: .obj m (mapO (os.map Ob.en) last) :: (os.map Ob.row ++ X)) := hM.bring 4 rfl rfl
     replace hM : Mg w w30 (.obj m (mapO (os.map Ob.en) last) :: .row 96 2 (.slice sg gs.length sc) gs.length (gapC gs) :: .row 96 2 (.slice lg gl.length lc) gl.length (gapC gl) :: .row 3 1 (.slice none 0 0) 0 (intC []) :: .obj h (.cells #[.map (some m), .int .i64 (((last : Nat) : Int)), .int .i64 (((sm : Nat) : Int)), .slice sg gs.length sc, .int .i64 (((0 : Nat) : Int)), .slice lg gl.length lc] 73) :: (os.map Ob.row ++ X)) := hM.bring 4 rfl rfl
     replace hM : Mg w w30 (.obj h (.cells #[.map (some m), .int .i64 (((last : Nat) : Int)), .int .i64 (((sm : Nat) : Int)), .slice sg gs.length sc, .int .i64 (((0 : Nat) : Int)), .slice lg gl.length lc] 73) :: .obj m (mapO (os.map Ob.en) last) :: .row 96 2 (.slice sg gs.length sc) gs.length (gapC gs) :: .row 96 2 (.slice lg gl.length lc) gl.length (gapC gl) :: .row 3 1 (.slice none 0 0) 0 (intC []) :: (os.map Ob.row ++ X)) := hM.bring 4 rfl rfl
     refine seq_call hA rfl rfl rfl (enters_func rfl rfl (fun w => by kernel_rfl)) (collect_any (ss := sm) (ls := 0) (rs := []) (ro := none) (rc := 0) (nob_rows hnX os) hm.hx (by omega) (fun o ho => by have := hone o ho; omega) (by have := hm.su; omega) (by have := sumS_le os; have := hm.su; omega) (by omega) (by omega) (fun o ho => (hm.po o ho).2) hm.refs (by simp) (fun r hr => by cases hr) hM) ?_
     rintro _ w37 ⟨ws, zs, zl, sg1, sc1, lg1, lc1, rfl, ⟨hV, hW, hp1, _, hp2, _⟩, hM36⟩
     obtain ⟨e1, e2⟩ := no_root hW
     rw [e1] at hp1 hp2 hM36
     have e3 : zs = [] := List.Perm.eq_nil hp1
     have e4 : zl = [] := List.Perm.eq_nil hp2
     rw [e3, e4] at hM36
     have hwu : sumW (went ws os) = u := by rw [e2]; exact hm.su
     have hneq : (((sumW (went ws os) : Nat) : Int) != ((u : Nat) : Int)) = false := by rw [hwu]; simp
     replace hM : Mg w w37 (.obj h (.cells #[.map (some m), .int .i64 (((last : Nat) : Int)), .int .i64 (((sm : Nat) : Int)), .slice sg1 ((gap1 0 sm).length) sc1, .int .i64 (((0 : Nat) : Int)), .slice lg1 (([] : List (Nat × Nat)).length) lc1] 73) :: .obj m (mapO (([] : List Ob).map Ob.en) last) :: .row 96 2 (.slice sg1 ((gap1 0 sm).length) sc1) ((gap1 0 sm).length) (gapC (gap1 0 sm)) :: .row 96 2 (.slice lg1 (([] : List (Nat × Nat)).length) lc1) (([] : List (Nat × Nat)).length) (gapC ([] : List (Nat × Nat))) :: (os.map Ob.row ++ X)) := (hM36.sub (.cons_cons _ (.cons_cons _ (.cons_cons _ (.cons_cons _ (.cons _ (.refl _)))))))
     refine ⟨_, rfl, ?_⟩
     intro a hA
     refine seq_do hA rfl rfl rfl (does_move rfl) ?_
     intro a hA
     refine seq_do (v := .int .i64 (((sumW (went ws os) : Nat) : Int))) hA rfl rfl rfl (does_extract (vs := [.int .i64 (((sumW (went ws os) : Nat) : Int)), .int .i64 0]) rfl rfl) ?_
     intro a hA
     refine seq_do (v := .int .i64 0) hA rfl rfl rfl (does_extract (vs := [.int .i64 (((sumW (went ws os) : Nat) : Int)), .int .i64 0]) rfl rfl) ?_
     intro a hA
     refine seq_do hA rfl rfl rfl (does_assign rfl) ?_
     intro a hA
     refine seq_do hA rfl rfl rfl (does_assign rfl) ?_
     intro a hA
     refine seq_end ?_
     refine hK35 _ _ ?_
     refine wp_seq_k (fun K38 hK38 => ?_)
     refine wp_seq_k (fun K39 hK39 => ?_)
     refine wp_region_lit ?_
     refine seq_do hA rfl rfl rfl (does_move rfl) ?_
     intro a hA
     refine seq_do (v := .bool false) hA rfl rfl rfl (does_bin rfl rfl (fun w => by kernel_rfl)) ?_
     intro a hA
     refine seq_do hA rfl rfl rfl (does_move rfl) ?_
     intro a hA
     refine seq_do hA rfl rfl rfl (does_move rfl) ?_
     intro a hA
     refine seq_do hA rfl rfl rfl (does_move rfl) ?_
     intro a hA
     refine seq_do (v := .bool false) hA rfl rfl rfl (does_bin rfl rfl (fun w => (bin_neq w).trans (by rw [show ((((sumW (went ws os) : Nat) : Int) != ((u : Nat) : Int))) = false from hneq]))) ?_
     intro a hA
     refine seq_do (v := .bool false) hA rfl rfl rfl (does_pick rfl rfl rfl rfl) ?_
     intro a hA
     refine seq_do hA rfl rfl rfl (does_move rfl) ?_
     intro a hA
     refine seq_do hA rfl rfl rfl (does_move rfl) ?_
     intro a hA
     replace hM : Mg w w37 (.row 96 2 (.slice lg1 (([] : List (Nat × Nat)).length) lc1) (([] : List (Nat × Nat)).length) (gapC ([] : List (Nat × Nat))) :: .obj h (.cells #[.map (some m), .int .i64 (((last : Nat) : Int)), .int .i64 (((sm : Nat) : Int)), .slice sg1 ((gap1 0 sm).length) sc1, .int .i64 (((0 : Nat) : Int)), .slice lg1 (([] : List (Nat × Nat)).length) lc1] 73) :: .obj m (mapO (([] : List Ob).map Ob.en) last) :: .row 96 2 (.slice sg1 ((gap1 0 sm).length) sc1) ((gap1 0 sm).length) (gapC (gap1 0 sm)) :: (os.map Ob.row ++ X)) := hM.bring 3 rfl rfl
     replace hM : Mg w w37 (.row 96 2 (.slice sg1 ((gap1 0 sm).length) sc1) ((gap1 0 sm).length) (gapC (gap1 0 sm)) :: .row 96 2 (.slice lg1 (([] : List (Nat × Nat)).length) lc1) (([] : List (Nat × Nat)).length) (gapC ([] : List (Nat × Nat))) :: .obj h (.cells #[.map (some m), .int .i64 (((last : Nat) : Int)), .int .i64 (((sm : Nat) : Int)), .slice sg1 ((gap1 0 sm).length) sc1, .int .i64 (((0 : Nat) : Int)), .slice lg1 (([] : List (Nat × Nat)).length) lc1] 73) :: .obj m (mapO (([] : List Ob).map Ob.en) last) :: (os.map Ob.row ++ X)) := hM.bring 3 rfl rfl
     replace hM : Mg w w37 (.obj m (mapO (([] : List Ob).map Ob.en) last) :: .row 96 2 (.slice sg1 ((gap1 0 sm).length) sc1) ((gap1 0 sm).length) (gapC (gap1 0 sm)) :: .row 96 2 (.slice lg1 (([] : List (Nat × Nat)).length) lc1) (([] : List (Nat × Nat)).length) (gapC ([] : List (Nat × Nat))) :: .obj h (.cells #[.map (some m), .int .i64 (((last : Nat) : Int)), .int .i64 (((sm : Nat) : Int)), .slice sg1 ((gap1 0 sm).length) sc1, .int .i64 (((0 : Nat) : Int)), .slice lg1 (([] : List (Nat × Nat)).length) lc1] 73) :: (os.map Ob.row ++ X)) := hM.bring 3 rfl rfl
     replace hM : Mg w w37 (.obj h (.cells #[.map (some m), .int .i64 (((last : Nat) : Int)), .int .i64 (((sm : Nat) : Int)), .slice sg1 ((gap1 0 sm).length) sc1, .int .i64 (((0 : Nat) : Int)), .slice lg1 (([] : List (Nat × Nat)).length) lc1] 73) :: .obj m (mapO (([] : List Ob).map Ob.en) last) :: .row 96 2 (.slice sg1 ((gap1 0 sm).length) sc1) ((gap1 0 sm).length) (gapC (gap1 0 sm)) :: .row 96 2 (.slice lg1 (([] : List (Nat × Nat)).length) lc1) (([] : List (Nat × Nat)).length) (gapC ([] : List (Nat × Nat))) :: (os.map Ob.row ++ X)) := hM.bring 3 rfl rfl
     refine seq_call hA rfl rfl rfl (enters_func rfl rfl (fun w => by kernel_rfl)) (live_any (os := []) (T := os.map Ob.row ++ X) hm.clear.hx (by simp) (nob_rows hnX os) hM) ?_
     rintro _ w41 ⟨so9, ca9, rfl, hM40⟩
     replace hM : Mg w w41 (.obj h (.cells #[.map (some m), .int .i64 (((last : Nat) : Int)), .int .i64 (((sm : Nat) : Int)), .slice sg1 ((gap1 0 sm).length) sc1, .int .i64 (((0 : Nat) : Int)), .slice lg1 (([] : List (Nat × Nat)).length) lc1] 73) :: .obj m (mapO (([] : List Ob).map Ob.en) last) :: .row 96 2 (.slice sg1 ((gap1 0 sm).length) sc1) ((gap1 0 sm).length) (gapC (gap1 0 sm)) :: .row 96 2 (.slice lg1 (([] : List (Nat × Nat)).length) lc1) (([] : List (Nat × Nat)).length) (gapC ([] : List (Nat × Nat))) :: (os.map Ob.row ++ X)) := (hM40.sub (.cons_cons _ (.cons_cons _ (.cons_cons _ (.cons_cons _ (.cons _ (.refl _)))))))
     refine ⟨_, rfl, ?_⟩
     intro a hA
     refine seq_do (v := .int .i64 0) hA rfl rfl rfl (does_len Try.underlying33 rfl) ?_
     intro a hA
     refine seq_do (v := .bool false) hA rfl rfl rfl (does_bin rfl rfl (fun w => by kernel_rfl)) ?_
     intro a hA
     refine seq_do (v := .bool false) hA rfl rfl rfl (does_pick rfl rfl rfl rfl) ?_
     intro a hA
     refine seq_end ?_
     refine hK39 _ _ ?_
     refine wp_cond_false (hA.ev rfl) ?_
     refine wp_skip ?_
     refine hK38 _ _ ?_
     refine wp_region_lit ?_
     refine seq_do hA rfl rfl rfl (does_assign rfl) ?_
     intro a hA
     refine seq_end ?_
     refine hK18 _ _ ?_
     refine wp_region_lit ?_
     refine seq_do hA rfl rfl rfl (does_move rfl) ?_
     intro a hA
     refine seq_do (v := .int .i64 (((i + 1 : Nat) : Int))) hA rfl rfl rfl (does_bin rfl rfl (ar_add ((in_i64 (by omega) (by omega)).trans (by omega)))) ?_
     intro a hA
     refine seq_do hA rfl rfl rfl (does_assign rfl) ?_
     intro a hA
     refine seq_end ?_
     replace hM : Mg w w41 (.row 96 2 (.slice lg1 (([] : List (Nat × Nat)).length) lc1) (([] : List (Nat × Nat)).length) (gapC ([] : List (Nat × Nat))) :: .obj h (.cells #[.map (some m), .int .i64 (((last : Nat) : Int)), .int .i64 (((sm : Nat) : Int)), .slice sg1 ((gap1 0 sm).length) sc1, .int .i64 (((0 : Nat) : Int)), .slice lg1 (([] : List (Nat × Nat)).length) lc1] 73) :: .obj m (mapO (([] : List Ob).map Ob.en) last) :: .row 96 2 (.slice sg1 ((gap1 0 sm).length) sc1) ((gap1 0 sm).length) (gapC (gap1 0 sm)) :: (os.map Ob.row ++ X)) := hM.bring 3 rfl rfl
     replace hM : Mg w w41 (.row 96 2 (.slice sg1 ((gap1 0 sm).length) sc1) ((gap1 0 sm).length) (gapC (gap1 0 sm)) :: .row 96 2 (.slice lg1 (([] : List (Nat × Nat)).length) lc1) (([] : List (Nat × Nat)).length) (gapC ([] : List (Nat × Nat))) :: .obj h (.cells #[.map (some m), .int .i64 (((last : Nat) : Int)), .int .i64 (((sm : Nat) : Int)), .slice sg1 ((gap1 0 sm).length) sc1, .int .i64 (((0 : Nat) : Int)), .slice lg1 (([] : List (Nat × Nat)).length) lc1] 73) :: .obj m (mapO (([] : List Ob).map Ob.en) last) :: (os.map Ob.row ++ X)) := hM.bring 3 rfl rfl
     replace hM : Mg w w41 (.obj m (mapO (([] : List Ob).map Ob.en) last) :: .row 96 2 (.slice sg1 ((gap1 0 sm).length) sc1) ((gap1 0 sm).length) (gapC (gap1 0 sm)) :: .row 96 2 (.slice lg1 (([] : List (Nat × Nat)).length) lc1) (([] : List (Nat × Nat)).length) (gapC ([] : List (Nat × Nat))) :: .obj h (.cells #[.map (some m), .int .i64 (((last : Nat) : Int)), .int .i64 (((sm : Nat) : Int)), .slice sg1 ((gap1 0 sm).length) sc1, .int .i64 (((0 : Nat) : Int)), .slice lg1 (([] : List (Nat × Nat)).length) lc1] 73) :: (os.map Ob.row ++ X)) := hM.bring 3 rfl rfl
     replace hM : Mg w w41 (.obj h (.cells #[.map (some m), .int .i64 (((last : Nat) : Int)), .int .i64 (((sm : Nat) : Int)), .slice sg1 ((gap1 0 sm).length) sc1, .int .i64 (((0 : Nat) : Int)), .slice lg1 (([] : List (Nat × Nat)).length) lc1] 73) :: .obj m (mapO (([] : List Ob).map Ob.en) last) :: .row 96 2 (.slice sg1 ((gap1 0 sm).length) sc1) ((gap1 0 sm).length) (gapC (gap1 0 sm)) :: .row 96 2 (.slice lg1 (([] : List (Nat × Nat)).length) lc1) (([] : List (Nat × Nat)).length) (gapC ([] : List (Nat × Nat))) :: (os.map Ob.row ++ X)) := hM.bring 3 rfl rfl
     refine hK13 _ _ _ (by omega) ⟨i + 1, 0, last, [], gap1 0 sm, [], sg1, lg1, sc1, lc1, os.map Ob.row ++ X, rfl, ⟨by omega, hm.clear, nob_rows hnX os⟩, hA.keep _ ⟨rfl, rfl, rfl, rfl, rfl, rfl, rfl, rfl, rfl, rfl, rfl, rfl, rfl, rfl, rfl, rfl, rfl, rfl, rfl, rfl, rfl, rfl, trivial⟩, hM⟩
 · have hb17' := of_decide_eq_false hb17
   refine seq_do (v := .bool false) hA rfl rfl rfl (does_bin rfl rfl (fun w => (bin_lss w).trans (by rw [hb17]))) ?_
   intro a hA
   refine seq_end ?_
   refine hK16 _ _ ?_
   refine wp_cond_false (hA.ev rfl) ?_
   refine wp_exit ?_
   refine hK10 _ _ ?_
   refine wp_seq_k (fun K42 hK42 => ?_)
   refine wp_region_lit ?_
   refine seq_do hA rfl rfl rfl (does_move rfl) ?_
   intro a hA
   replace hM : Mg w w12 (.row 96 2 (.slice lg gl.length lc) gl.length (gapC gl) :: .obj h (.cells #[.map (some m), .int .i64 (((last : Nat) : Int)), .int .i64 (((sm : Nat) : Int)), .slice sg gs.length sc, .int .i64 (((0 : Nat) : Int)), .slice lg gl.length lc] 73) :: .obj m (mapO (os.map Ob.en) last) :: .row 96 2 (.slice sg gs.length sc) gs.length (gapC gs) :: (os.map Ob.row ++ X)) := hM.bring 3 rfl rfl
   replace hM : Mg w w12 (.row 96 2 (.slice sg gs.length sc) gs.length (gapC gs) :: .row 96 2 (.slice lg gl.length lc) gl.length (gapC gl) :: .obj h (.cells #[.map (some m), .int .i64 (((last : Nat) : Int)), .int .i64 (((sm : Nat) : Int)), .slice sg gs.length sc, .int .i64 (((0 : Nat) : Int)), .slice lg gl.length lc] 73) :: .obj m (mapO (os.map Ob.en) last) :: (os.map Ob.row ++ X)) := hM.bring 3 rfl rfl
   replace hM : Mg w w12 (.obj m (mapO (os.map Ob.en) last) :: .row 96 2 (.slice sg gs.length sc) gs.length (gapC gs) :: .row 96 2 (.slice lg gl.length lc) gl.length (gapC gl) :: .obj h (.cells #[.map (some m), .int .i64 (((last : Nat) : Int)), .int .i64 (((sm : Nat) : Int)), .slice sg gs.length sc, .int .i64 (((0 : Nat) : Int)), .slice lg gl.length lc] 73) :: (os.map Ob.row ++ X)) := hM.bring 3 rfl rfl
   replace hM : Mg w w12 (.obj h (.cells #[.map (some m), .int .i64 (((last : Nat) : Int)), .int .i64 (((sm : Nat) : Int)), .slice sg gs.length sc, .int .i64 (((0 : Nat) : Int)), .slice lg gl.length lc] 73) :: .obj m (mapO (os.map Ob.en) last) :: .row 96 2 (.slice sg gs.length sc) gs.length (gapC gs) :: .row 96 2 (.slice lg gl.length lc) gl.length (gapC gl) :: (os.map Ob.row ++ X)) := hM.bring 3 rfl rfl
   obtain ⟨hg1, hg2, hg3, hg4⟩ := hm.sum
   have hle := hm.le
   have hf1 : (((sumG gs : Nat) : Int) == ((sm - u : Nat) : Int)) = true := by rw [hg1]; simp
   have hf2 : (((sumG gl : Nat) : Int) == 0) = true := by rw [hg2]; rfl
   refine seq_call hA rfl rfl rfl (enters_func rfl rfl (fun w => by kernel_rfl)) (free_any (ss := sm) (ls := 0) (by omega) (by omega) (by omega) (by omega) hM) ?_
   rintro _ w44 ⟨rfl, hM43⟩
   replace hM : Mg w w44 (.obj h (.cells #[.map (some m), .int .i64 (((last : Nat) : Int)), .int .i64 (((sm : Nat) : Int)), .slice sg gs.length sc, .int .i64 (((0 : Nat) : Int)), .slice lg gl.length lc] 73) :: .obj m (mapO (os.map Ob.en) last) :: .row 96 2 (.slice sg gs.length sc) gs.length (gapC gs) :: .row 96 2 (.slice lg gl.length lc) gl.length (gapC gl) :: (os.map Ob.row ++ X)) := hM43
   refine ⟨_, rfl, ?_⟩
   intro a hA
   refine seq_do hA rfl rfl rfl (does_move rfl) ?_
   intro a hA
   refine seq_do (v := .int .i64 (((sumG gs : Nat) : Int))) hA rfl rfl rfl (does_extract (vs := [.int .i64 (((sumG gs : Nat) : Int)), .int .i64 (((sumG gl : Nat) : Int))]) rfl rfl) ?_
   intro a hA
   refine seq_do (v := .int .i64 (((sumG gl : Nat) : Int))) hA rfl rfl rfl (does_extract (vs := [.int .i64 (((sumG gs : Nat) : Int)), .int .i64 (((sumG gl : Nat) : Int))]) rfl rfl) ?_
   intro a hA
   refine seq_do hA rfl rfl rfl (does_assign rfl) ?_
   intro a hA
   refine seq_do hA rfl rfl rfl (does_assign rfl) ?_
   intro a hA
   refine seq_end ?_
   refine hK42 _ _ ?_
   refine wp_seq_k (fun K45 hK45 => ?_)
   refine wp_region_lit ?_
   refine seq_do hA rfl rfl rfl (does_move rfl) ?_
   intro a hA
   refine seq_do hA rfl rfl rfl (does_move rfl) ?_
   intro a hA
   refine seq_do (v := .int .i64 (((sm : Nat) : Int))) hA rfl rfl rfl (does_convert rfl (ar_conv Try.underlying5 Try.underlying3 (in_i64 (by omega) (by omega)))) ?_
   intro a hA
   refine seq_do hA rfl rfl rfl (does_move rfl) ?_
   intro a hA
   refine seq_do (v := .int .i64 (((sm - u : Nat) : Int))) hA rfl rfl rfl (does_bin rfl rfl (ar_sub ((in_i64 (by omega) (by omega)).trans (by omega)))) ?_
   intro a hA
   refine seq_do (v := .bool true) hA rfl rfl rfl (does_bin rfl rfl (fun w => (bin_eql w).trans (by rw [show ((((sumG gs : Nat) : Int) == ((sm - u : Nat) : Int))) = true from hf1]))) ?_
   intro a hA
   refine seq_do hA rfl rfl rfl (does_move rfl) ?_
   intro a hA
   refine seq_do hA rfl rfl rfl (does_move rfl) ?_
   intro a hA
   refine seq_do (v := .bool true) hA rfl rfl rfl (does_bin rfl rfl (fun w => (bin_eql w).trans (by rw [show ((((sumG gl : Nat) : Int) == 0)) = true from hf2]))) ?_
   intro a hA
   refine seq_do (v := .bool true) hA rfl rfl rfl (does_pick rfl rfl rfl rfl) ?_
   intro a hA
   refine seq_do hA rfl rfl rfl (does_assign rfl) ?_
   intro a hA
   refine seq_end ?_
   refine hK45 _ _ ?_
   refine wp_ret ?_
   refine hret _ _ ?_
   refine ends (v := .bool true) hA rfl (.cons (res_tmp rfl) .nil) rfl ?_
   exact ⟨rfl, hM.bel⟩
theorem heapRoom_any {w : World} {a : Int} (h0 : 0 ≤ a) (h1 : a ≤ 255) {so : Option Addr} {ca : Nat} {l : List UInt8} (hb : Rb w so l) (hl : l.length ≤ 140737488351232) : Calls Try.prog 5 #[.int .u8 a, .slice so l.length ca] w fun e w' => e = .returned (.bool true) ∧ Below w.heap.size w w' := by
  obtain ⟨sm, rfl⟩ : ∃ sm : Nat, a = ((sm : Nat) : Int) := ⟨a.toNat, by omega⟩
  exact heapRoom_nat (by omega) hb hl
end Go.Proofs.Ytcigofjajphmjaa
