/- The walk of WorldPlays. -/
import Derived.Test.YtcjgjbaadmohbaaWm
namespace Go.Proofs.Ytcjgjbaadmohbaa
open Go.RowKit
set_option linter.unusedVariables false
set_option linter.unusedSimpArgs false
set_option maxRecDepth 100000
theorem Wn_is1_24 : Is1 Try.prog 24 := ⟨⟨_, Try.underlying24, rfl⟩, by kernel_rfl⟩
theorem Wn_is1_3 : Is1 Try.prog 3 := ⟨⟨_, Try.underlying3, rfl⟩, by kernel_rfl⟩
theorem Wn_is1_9 : Is1 Try.prog 9 := ⟨⟨_, Try.underlying9, rfl⟩, by kernel_rfl⟩
theorem Wn_fld_41_0 : FieldAt Try.prog 41 0 0 := ⟨_, _, Try.underlying41, rfl, rfl, by kernel_rfl⟩
theorem Wn_fld_41_1 : FieldAt Try.prog 41 1 1 := ⟨_, _, Try.underlying41, rfl, rfl, by kernel_rfl⟩
theorem Wn_fld_41_2 : FieldAt Try.prog 41 2 2 := ⟨_, _, Try.underlying41, rfl, rfl, by kernel_rfl⟩
theorem Wn_fld_41_3 : FieldAt Try.prog 41 3 3 := ⟨_, _, Try.underlying41, rfl, rfl, by kernel_rfl⟩
theorem Wn_isS_37 : IsS Try.prog 37 3 := ⟨⟨_, Try.underlying37⟩, by kernel_rfl⟩
theorem Wn_isS_41 : IsS Try.prog 41 4 := ⟨⟨_, Try.underlying41⟩, by kernel_rfl⟩
set_option maxHeartbeats 2000000 in
theorem plays_any {w : World} {sF sI sO : Option Addr} {cF_ cI cO : Nat} {fs : List Fl} {il ol : List UInt8} {sS : Option Addr} {cS : Nat} {os : List Op4} (hF : Rf w sF fs) (hI : Rb w sI il) (hO : Rb w sO ol) (hBd : Bd fs il ol) (hS : Ro w sS os) (hol : os.length ≤ 4398046511104) : Calls Try.prog 5 #[.agg #[.slice sF fs.length cF_, .slice sI il.length cI, .slice sO ol.length cO], .slice sS os.length cS] w fun e w' => e = .returned (.bool true) ∧ Below w.heap.size w w' := by
 have hM : Mg w w ([]) := Mg.start w
 refine walk_of (l := [(0, .agg #[.slice sF fs.length cF_, .slice sI il.length cI, .slice sO ol.length cO]), (1, .slice sS os.length cS)]) Try.func5 rfl Try.ntmps5 rfl rfl ?_
 intro Q hret hnorm hP a hA
 refine wp_seq_k (fun K1 hK1 => ?_)
 refine wp_region_lit ?_
 refine s_new (vs := [.slice sF fs.length cF_, .slice sI il.length cI, .slice sO ol.length cO]) (t := 37) hA hM rfl rfl rfl (fun g => .pointer (some ⟨g, 0, none⟩)) (does_box rfl rfl) (by decide) ?_
 intro g2 w3 hM a hA
 refine seq_do hA rfl rfl rfl (does_assign rfl) ?_
 intro a hA
 refine seq_end ?_
 refine hK1 _ _ ?_
 refine wp_seq_k (fun K4 hK4 => ?_)
 refine wp_seq_k (fun K5 hK5 => ?_)
 replace hA := hA.keep [(1, .slice sS os.length cS), (2, .pointer (some ⟨g2, 0, none⟩)), (4, .bool false)] ⟨rfl, rfl, rfl, trivial⟩
 refine wp_region_lit ?_
 refine seq_call hA rfl rfl rfl (enters_func rfl rfl (fun w => by kernel_rfl)) (awake_any) ?_
 rintro _ w7 ⟨rfl, hb6⟩
 replace hM := hM.call hb6
 refine ⟨_, rfl, ?_⟩
 intro a hA
 refine seq_do (v := .bool false) hA rfl rfl rfl (does_un rfl un_not) ?_
 intro a hA
 refine seq_end ?_
 refine hK5 _ _ ?_
 refine wp_cond_false (hA.ev rfl) ?_
 refine wp_skip ?_
 refine hK4 _ _ ?_
 refine wp_seq_k (fun K8 hK8 => ?_)
 replace hA := hA.keep [(1, .slice sS os.length cS), (2, .pointer (some ⟨g2, 0, none⟩)), (4, .bool false)] ⟨rfl, rfl, rfl, trivial⟩
 have hJ9 : ∀ a w1, (∃ (ga : Nat) (gb : Nat) (sA1 : Option Addr) (cA1 : Nat) (sA2 : Option Addr) (cA2 : Nat) (sA3 : Option Addr) (cA3 : Nat) (sB1 : Option Addr) (cB1 : Nat) (sB2 : Option Addr) (cB2 : Nat) (sB3 : Option Addr) (cB3 : Nat) (D : List Ck) (hRa : RwD D (.agg #[.slice sA1 fs.length cA1, .slice sA2 il.length cA2, .slice sA3 ol.length cA3]) fs il ol) (hRb : RwD D (.agg #[.slice sB1 fs.length cB1, .slice sB2 il.length cB2, .slice sB3 ol.length cB3]) fs il ol) (hnD : noBld D), Sl a 188 [(1, .slice sS os.length cS), (4, .bool false), (5, .pointer (some ⟨ga, 0, none⟩)), (6, .pointer (some ⟨gb, 0, none⟩))] ∧ Mg w w1 (.obj ga (.cells #[.slice sA1 fs.length cA1, .slice sA2 il.length cA2, .slice sA3 ol.length cA3] 37) :: .obj gb (.cells #[.slice sB1 fs.length cB1, .slice sB2 il.length cB2, .slice sB3 ol.length cB3] 37) :: .obj g2 (.cells #[.slice sF fs.length cF_, .slice sI il.length cI, .slice sO ol.length cO] 37) :: D)) → K8 a w1 := by
   clear hA hM
   rintro a w10 ⟨ga, gb, sA1, cA1, sA2, cA2, sA3, cA3, sB1, cB1, sB2, cB2, sB3, cB3, D, hRa, hRb, hnD, hA, hM⟩
   refine hK8 _ _ ?_
   refine wp_seq_k (fun K11 hK11 => ?_)
   refine wp_seq_k (fun K12 hK12 => ?_)
   refine wp_region_lit ?_
   refine seq_do hA rfl rfl rfl (does_assign rfl) ?_
   intro a hA
   refine seq_end ?_
   refine hK12 _ _ ?_
   refine wp_block ?_
   refine wp_loop_n (fun m_ a w1 => ∃ (i : Nat) (fx : List Fl) (ix : List UInt8) (ox : List UInt8) (sU1 : Option Addr) (cU1 : Nat) (sU2 : Option Addr) (cU2 : Nat) (sU3 : Option Addr) (cU3 : Nat) (sV1 : Option Addr) (cV1 : Nat) (sV2 : Option Addr) (cV2 : Nat) (sV3 : Option Addr) (cV3 : Nat) (D : List Ck), m_ = os.length - i ∧ (RwD D (.agg #[.slice sU1 fx.length cU1, .slice sU2 ix.length cU2, .slice sU3 ox.length cU3]) fx ix ox ∧ RwD D (.agg #[.slice sV1 fx.length cV1, .slice sV2 ix.length cV2, .slice sV3 ox.length cV3]) fx ix ox ∧ noBld D ∧ Bd fx ix ox ∧ i ≤ os.length) ∧ Sl a 188 [(1, .slice sS os.length cS), (5, .pointer (some ⟨ga, 0, none⟩)), (6, .pointer (some ⟨gb, 0, none⟩)), (7, .int .i64 (((i : Nat) : Int)))] ∧ Mg w w1 (.obj ga (.cells #[.slice sU1 fx.length cU1, .slice sU2 ix.length cU2, .slice sU3 ox.length cU3] 37) :: .obj gb (.cells #[.slice sV1 fx.length cV1, .slice sV2 ix.length cV2, .slice sV3 ox.length cV3] 37) :: .obj g2 (.cells #[.slice sF fs.length cF_, .slice sI il.length cI, .slice sO ol.length cO] 37) :: D)) _ ⟨0, fs, il, ol, sA1, cA1, sA2, cA2, sA3, cA3, sB1, cB1, sB2, cB2, sB3, cB3, D, rfl, ⟨hRa, hRb, hnD, hBd, Nat.zero_le _⟩, hA.keep _ ⟨rfl, rfl, rfl, rfl, trivial⟩, hM⟩ ?_
   clear hM hA
   rintro m_ a w13 ⟨i, fx, ix, ox, sU1, cU1, sU2, cU2, sU3, cU3, sV1, cV1, sV2, cV2, sV3, cV3, D, rfl, hinv15, hA, hM⟩ K14 hK14
   obtain ⟨hRu, hRv, hnD, hBx, hi9⟩ := hinv15
   refine wp_seq_k (fun K16 hK16 => ?_)
   refine wp_seq_k (fun K17 hK17 => ?_)
   refine wp_region_lit ?_
   refine seq_do hA rfl rfl rfl (does_move rfl) ?_
   intro a hA
   refine seq_do hA rfl rfl rfl (does_move rfl) ?_
   intro a hA
   refine seq_do (v := .int .i64 (((os.length : Nat) : Int))) hA rfl rfl rfl (does_len Try.underlying38 rfl) ?_
   intro a hA
   rcases Bool.eq_false_or_eq_true (decide (((i : Nat) : Int) < ((os.length : Nat) : Int))) with hb18 | hb18
   · have hb18' := of_decide_eq_true hb18
     refine seq_do (v := .bool true) hA rfl rfl rfl (does_bin rfl rfl (fun w => (bin_lss w).trans (by rw [hb18]))) ?_
     intro a hA
     refine seq_end ?_
     refine hK17 _ _ ?_
     refine wp_cond_true (hA.ev rfl) ?_
     refine wp_skip ?_
     refine hK16 _ _ ?_
     refine wp_seq_k (fun K19 hK19 => ?_)
     refine wp_block ?_
     refine wp_seq_k (fun K20 hK20 => ?_)
     replace hA := hA.keep [(1, .slice sS os.length cS), (5, .pointer (some ⟨ga, 0, none⟩)), (6, .pointer (some ⟨gb, 0, none⟩)), (7, .int .i64 (((i : Nat) : Int)))] ⟨rfl, rfl, rfl, rfl, trivial⟩
     refine wp_region_lit ?_
     refine seq_do hA rfl rfl rfl (does_move rfl) ?_
     intro a hA
     refine seq_do hA rfl rfl rfl (does_move rfl) ?_
     intro a hA
     obtain ⟨kd, nn, nm, d, hq21⟩ := op_get (os := os) (i := i) (by omega)
     obtain ⟨bq, oq, sd, cd, hq22, hq23, hq24, hq25, hq26, hq27, hq28, hq29⟩ := hS.pos _ _ hq21
     refine seq_do (v := .pointer (some ⟨bq, oq + i * 4, none⟩)) hA rfl rfl rfl (does_indexA Try.underlying38 (by kernel_rfl) rfl rfl rfl hq22 (show i < os.length by omega)) ?_
     intro a hA
     have hbd : Rb w sd d := hq28
     have hdl : d.length ≤ 140737488351232 := hq29
     refine seq_do (v := .agg #[.int .i64 kd, .int .i64 nn, .string nm, .slice sd d.length cd]) hA rfl rfl rfl (m_loadR4 hM hq23 hq24 hq25 hq26 hq27 Wn_isS_41 rfl) ?_
     intro a hA
     refine s_new (vs := [.int .i64 0, .int .i64 0, .string (⟨#[]⟩), .slice none 0 0]) (t := 41) hA hM rfl rfl rfl (fun g => .pointer (some ⟨g, 0, none⟩)) (does_alloc (z := .agg #[.int .i64 0, .int .i64 0, .string (⟨#[]⟩), .slice none 0 0]) (by kernel_rfl) rfl) (by decide) ?_
     intro g30 w31 hM a hA
     refine s_store (us := [.int .i64 kd, .int .i64 nn, .string nm, .slice sd d.length cd]) (L' := (.obj g30 (.cells #[.int .i64 kd, .int .i64 nn, .string nm, .slice sd d.length cd] 41) :: .obj ga (.cells #[.slice sU1 fx.length cU1, .slice sU2 ix.length cU2, .slice sU3 ox.length cU3] 37) :: .obj gb (.cells #[.slice sV1 fx.length cV1, .slice sV2 ix.length cV2, .slice sV3 ox.length cV3] 37) :: .obj g2 (.cells #[.slice sF fs.length cF_, .slice sI il.length cI, .slice sO ol.length cO] 37) :: D)) hA hM rfl rfl (m_store rfl rfl rfl (by kernel_rfl) hM 0 rfl rfl rfl) 0 rfl rfl rfl ?_
     intro w32 hM
     refine seq_end ?_
     refine hK20 _ _ ?_
     refine wp_seq_k (fun K33 hK33 => ?_)
     replace hA := hA.keep [(1, .slice sS os.length cS), (5, .pointer (some ⟨ga, 0, none⟩)), (6, .pointer (some ⟨gb, 0, none⟩)), (7, .int .i64 (((i : Nat) : Int))), (8, .pointer (some ⟨g30, 0, none⟩))] ⟨rfl, rfl, rfl, rfl, rfl, trivial⟩
     refine wp_region_lit ?_
     refine seq_do hA rfl rfl rfl (m_loadS hM Wn_isS_37 rfl 1 rfl (cs := [.slice sU1 fx.length cU1, .slice sU2 ix.length cU2, .slice sU3 ox.length cU3]) rfl rfl) ?_
     intro a hA
     have hw34 := RwD.facts hM (hRu.mono (fun c hc => (List.mem_cons_of_mem _ (List.mem_cons_of_mem _ (List.mem_cons_of_mem _ (List.mem_cons_of_mem _ hc))))))
     refine seq_call hA rfl rfl rfl (enters_func rfl rfl (fun w => by kernel_rfl)) (rcopy_any (cF_ := cU1) (cI := cU2) (cO := cU3) (fs := fx) (il := ix) (ol := ox) hw34.1 hw34.2.1 hw34.2.2.1 hBx) ?_
     rintro _ w52 ⟨vF35, vI36, vO37, rfl, hO38⟩
     obtain ⟨hM39L, hM39, hnL40, hR41⟩ := OwnW.rwd hO38
     obtain ⟨sF46, cF47, sI48, cI49, sO50, cO51, hV9, _⟩ := RwD.open_ hM39 hR41
     simp only [Value.agg.injEq, Array.mk.injEq, List.cons.injEq, and_true] at hV9
     obtain ⟨rfl, rfl, rfl⟩ := hV9
     obtain ⟨D43, hg42, hnD43, hs44, hs45⟩ := grow [_, _, _, _] (D := D) hM hM39 (noBld_cons (by simp) (noBld_cons (by simp) (noBld_cons (by simp) (noBld_cons (by simp) hnD)))) hnL40
     replace hRu := hRu.mono hs44
     replace hRv := hRv.mono hs44
     replace hR41 := hR41.mono hs45
     replace hM : Mg w w52 (.obj g30 (.cells #[.int .i64 kd, .int .i64 nn, .string nm, .slice sd d.length cd] 41) :: .obj ga (.cells #[.slice sU1 fx.length cU1, .slice sU2 ix.length cU2, .slice sU3 ox.length cU3] 37) :: .obj gb (.cells #[.slice sV1 fx.length cV1, .slice sV2 ix.length cV2, .slice sV3 ox.length cV3] 37) :: .obj g2 (.cells #[.slice sF fs.length cF_, .slice sI il.length cI, .slice sO ol.length cO] 37) :: D43) := hg42
     refine ⟨_, rfl, ?_⟩
     intro a hA
     refine s_new (vs := [.slice none 0 0, .slice none 0 0, .slice none 0 0]) (t := 37) hA hM rfl rfl rfl (fun g => .pointer (some ⟨g, 0, none⟩)) (does_alloc (z := .agg #[.slice none 0 0, .slice none 0 0, .slice none 0 0]) (by kernel_rfl) rfl) (by decide) ?_
     intro g53 w54 hM a hA
     refine s_store (us := [.slice sF46 fx.length cF47, .slice sI48 ix.length cI49, .slice sO50 ox.length cO51]) (L' := (.obj g53 (.cells #[.slice sF46 fx.length cF47, .slice sI48 ix.length cI49, .slice sO50 ox.length cO51] 37) :: .obj g30 (.cells #[.int .i64 kd, .int .i64 nn, .string nm, .slice sd d.length cd] 41) :: .obj ga (.cells #[.slice sU1 fx.length cU1, .slice sU2 ix.length cU2, .slice sU3 ox.length cU3] 37) :: .obj gb (.cells #[.slice sV1 fx.length cV1, .slice sV2 ix.length cV2, .slice sV3 ox.length cV3] 37) :: .obj g2 (.cells #[.slice sF fs.length cF_, .slice sI il.length cI, .slice sO ol.length cO] 37) :: D43)) hA hM rfl rfl (m_store rfl rfl rfl (by kernel_rfl) hM 0 rfl rfl rfl) 0 rfl rfl rfl ?_
     intro w55 hM
     refine seq_end ?_
     refine hK33 _ _ ?_
     refine wp_seq_k (fun K56 hK56 => ?_)
     replace hA := hA.keep [(1, .slice sS os.length cS), (5, .pointer (some ⟨ga, 0, none⟩)), (6, .pointer (some ⟨gb, 0, none⟩)), (7, .int .i64 (((i : Nat) : Int))), (8, .pointer (some ⟨g30, 0, none⟩)), (9, .pointer (some ⟨g53, 0, none⟩))] ⟨rfl, rfl, rfl, rfl, rfl, rfl, trivial⟩
     obtain ⟨D58, hg57, hnD58, hs59, hz60⟩ := growZ [_, _, _, _, _] (D := D43) hM (noBld_cons (by simp) (noBld_cons (by simp) (noBld_cons (by simp) (noBld_cons (by simp) (noBld_cons (by simp) hnD43)))))
     replace hRu := hRu.mono hs59
     replace hRv := hRv.mono hs59
     replace hR41 := hR41.mono hs59
     replace hM : Mg w w55 (.obj g53 (.cells #[.slice sF46 fx.length cF47, .slice sI48 ix.length cI49, .slice sO50 ox.length cO51] 37) :: .obj g30 (.cells #[.int .i64 kd, .int .i64 nn, .string nm, .slice sd d.length cd] 41) :: .obj ga (.cells #[.slice sU1 fx.length cU1, .slice sU2 ix.length cU2, .slice sU3 ox.length cU3] 37) :: .obj gb (.cells #[.slice sV1 fx.length cV1, .slice sV2 ix.length cV2, .slice sV3 ox.length cV3] 37) :: .obj g2 (.cells #[.slice sF fs.length cF_, .slice sI il.length cI, .slice sO ol.length cO] 37) :: D58) := hg57
     refine wp_region_lit ?_
     refine s_new (vs := [.slice none 0 0, .slice none 0 0, .slice none 0 0]) (t := 37) hA hM rfl rfl rfl (fun g => .pointer (some ⟨g, 0, none⟩)) (does_alloc (z := .agg #[.slice none 0 0, .slice none 0 0, .slice none 0 0]) (by kernel_rfl) rfl) (by decide) ?_
     intro g61 w62 hM a hA
     refine s_new (vs := [.slice none 0 0, .slice none 0 0, .slice none 0 0]) (t := 37) hA hM rfl rfl rfl (fun g => .pointer (some ⟨g, 0, none⟩)) (does_alloc (z := .agg #[.slice none 0 0, .slice none 0 0, .slice none 0 0]) (by kernel_rfl) rfl) (by decide) ?_
     intro g63 w64 hM a hA
     refine seq_end ?_
     refine hK56 _ _ ?_
     refine wp_seq_k (fun K65 hK65 => ?_)
     refine wp_region_lit ?_
     refine seq_do hA rfl rfl rfl (does_assign rfl) ?_
     intro a hA
     refine seq_do hA rfl rfl rfl (does_assign rfl) ?_
     intro a hA
     refine seq_end ?_
     refine hK65 _ _ ?_
     refine wp_seq_k (fun K66 hK66 => ?_)
     refine wp_region_lit ?_
     refine seq_do hA rfl rfl rfl (does_assign rfl) ?_
     intro a hA
     refine seq_do hA rfl rfl rfl (does_assign rfl) ?_
     intro a hA
     refine seq_end ?_
     refine hK66 _ _ ?_
     refine wp_seq_k (fun K67 hK67 => ?_)
     refine wp_seq_k (fun K68 hK68 => ?_)
     refine wp_region_lit ?_
     refine seq_do (v := .pointer (some ⟨g30, 0, none⟩)) hA rfl rfl rfl (does_field Wn_fld_41_0 rfl rfl) ?_
     intro a hA
     refine seq_do hA rfl rfl rfl (m_load1 hM Wn_is1_3 rfl 3 rfl rfl) ?_
     intro a hA
     refine seq_end ?_
     refine hK68 _ _ ?_
     refine wp_block ?_
     refine wp_seq_k (fun K69 hK69 => ?_)
     replace hA := hA.keep [(1, .slice sS os.length cS), (5, .pointer (some ⟨ga, 0, none⟩)), (6, .pointer (some ⟨gb, 0, none⟩)), (7, .int .i64 (((i : Nat) : Int))), (8, .pointer (some ⟨g30, 0, none⟩)), (9, .pointer (some ⟨g53, 0, none⟩)), (10, .pointer (some ⟨g61, 0, none⟩)), (11, .pointer (some ⟨g63, 0, none⟩)), (12, .slice none 0 0), (13, .slice none 0 0), (14, .int .i64 0), (15, .int .i64 0), (35, .int .i64 kd)] ⟨rfl, rfl, rfl, rfl, rfl, rfl, rfl, rfl, rfl, rfl, rfl, rfl, rfl, trivial⟩
     refine wp_region_lit ?_
     rcases Bool.eq_false_or_eq_true ((kd == 1)) with hb70 | hb70
     · have hb70' := eq_of_beq hb70
       refine seq_do (v := .bool true) hA rfl rfl rfl (does_bin rfl rfl (fun w => (bin_eql w).trans (by rw [hb70]))) ?_
       intro a hA
       refine seq_do hA rfl rfl rfl (does_assign rfl) ?_
       intro a hA
       refine seq_end ?_
       refine hK69 _ _ ?_
       refine wp_cond_true (hA.ev rfl) ?_
       refine wp_seq_k (fun K71 hK71 => ?_)
       replace hA := hA.keep [(1, .slice sS os.length cS), (5, .pointer (some ⟨ga, 0, none⟩)), (6, .pointer (some ⟨gb, 0, none⟩)), (7, .int .i64 (((i : Nat) : Int))), (8, .pointer (some ⟨g30, 0, none⟩)), (9, .pointer (some ⟨g53, 0, none⟩)), (10, .pointer (some ⟨g61, 0, none⟩)), (11, .pointer (some ⟨g63, 0, none⟩)), (12, .slice none 0 0), (13, .slice none 0 0), (14, .int .i64 0), (15, .int .i64 0), (35, .int .i64 kd)] ⟨rfl, rfl, rfl, rfl, rfl, rfl, rfl, rfl, rfl, rfl, rfl, rfl, rfl, trivial⟩
       refine wp_region_lit ?_
       refine seq_do hA rfl rfl rfl (m_loadS hM Wn_isS_37 rfl 4 rfl (cs := [.slice sU1 fx.length cU1, .slice sU2 ix.length cU2, .slice sU3 ox.length cU3]) rfl rfl) ?_
       intro a hA
       refine seq_do (v := .pointer (some ⟨g30, 2, none⟩)) hA rfl rfl rfl (does_field Wn_fld_41_2 rfl rfl) ?_
       intro a hA
       refine seq_do hA rfl rfl rfl (m_load1 hM Wn_is1_9 rfl 3 rfl rfl) ?_
       intro a hA
       refine seq_do (v := .pointer (some ⟨g30, 3, none⟩)) hA rfl rfl rfl (does_field Wn_fld_41_3 rfl rfl) ?_
       intro a hA
       refine seq_do hA rfl rfl rfl (m_load1 hM Wn_is1_24 rfl 3 rfl rfl) ?_
       intro a hA
       have hw72 := RwD.facts hM (hRu.mono (fun c hc => (List.mem_cons_of_mem _ (List.mem_cons_of_mem _ (List.mem_cons_of_mem _ (List.mem_cons_of_mem _ (List.mem_cons_of_mem _ (List.mem_cons_of_mem _ (List.mem_cons_of_mem _ hc)))))))))
       refine seq_call hA rfl rfl rfl (enters_func rfl rfl (fun w => by kernel_rfl)) (put_any (nm := nm) (d := d) (cd := cd) (cF_ := cU1) (cI := cU2) (cO := cU3) (fs := fx) (il := ix) (ol := ox) hw72.1 hw72.2.1 hw72.2.2.1 hBx.n (hbd.below hM.bel)) ?_
       rintro _ w87 ⟨V73, hM74L, rfl, hM74, hnL75, hR76⟩
       obtain ⟨sF81, cF82, sI83, cI84, sO85, cO86, rfl, _⟩ := RwD.open_ hM74 hR76
       obtain ⟨D78, hg77, hnD78, hs79, hs80⟩ := grow [_, _, _, _, _, _, _] (D := D58) hM hM74 (noBld_cons (by simp) (noBld_cons (by simp) (noBld_cons (by simp) (noBld_cons (by simp) (noBld_cons (by simp) (noBld_cons (by simp) (noBld_cons (by simp) hnD58))))))) hnL75
       replace hRu := hRu.mono hs79
       replace hRv := hRv.mono hs79
       replace hR41 := hR41.mono hs79
       replace hz60 := hz60.mono hs79
       replace hR76 := hR76.mono hs80
       replace hM : Mg w w87 (.obj g63 (.cells #[.slice none 0 0, .slice none 0 0, .slice none 0 0] 37) :: .obj g61 (.cells #[.slice none 0 0, .slice none 0 0, .slice none 0 0] 37) :: .obj g53 (.cells #[.slice sF46 fx.length cF47, .slice sI48 ix.length cI49, .slice sO50 ox.length cO51] 37) :: .obj g30 (.cells #[.int .i64 kd, .int .i64 nn, .string nm, .slice sd d.length cd] 41) :: .obj ga (.cells #[.slice sU1 fx.length cU1, .slice sU2 ix.length cU2, .slice sU3 ox.length cU3] 37) :: .obj gb (.cells #[.slice sV1 fx.length cV1, .slice sV2 ix.length cV2, .slice sV3 ox.length cV3] 37) :: .obj g2 (.cells #[.slice sF fs.length cF_, .slice sI il.length cI, .slice sO ol.length cO] 37) :: D78) := hg77
       refine ⟨_, rfl, ?_⟩
       intro a hA
       refine seq_do hA rfl rfl rfl (does_move rfl) ?_
       intro a hA
       refine seq_do (v := .agg #[.slice sF81 ((putR nm d fx ix ox).2.1.length) cF82, .slice sI83 ((putR nm d fx ix ox).2.2.1.length) cI84, .slice sO85 ((putR nm d fx ix ox).2.2.2.length) cO86]) hA rfl rfl rfl (does_extract (vs := [.agg #[.slice sF81 ((putR nm d fx ix ox).2.1.length) cF82, .slice sI83 ((putR nm d fx ix ox).2.2.1.length) cI84, .slice sO85 ((putR nm d fx ix ox).2.2.2.length) cO86], .int .i64 ((putR nm d fx ix ox).1)]) rfl rfl) ?_
       intro a hA
       refine seq_do (v := .int .i64 ((putR nm d fx ix ox).1)) hA rfl rfl rfl (does_extract (vs := [.agg #[.slice sF81 ((putR nm d fx ix ox).2.1.length) cF82, .slice sI83 ((putR nm d fx ix ox).2.2.1.length) cI84, .slice sO85 ((putR nm d fx ix ox).2.2.2.length) cO86], .int .i64 ((putR nm d fx ix ox).1)]) rfl rfl) ?_
       intro a hA
       refine s_store (us := [.slice sF81 ((putR nm d fx ix ox).2.1.length) cF82, .slice sI83 ((putR nm d fx ix ox).2.2.1.length) cI84, .slice sO85 ((putR nm d fx ix ox).2.2.2.length) cO86]) (L' := (.obj g63 (.cells #[.slice none 0 0, .slice none 0 0, .slice none 0 0] 37) :: .obj g61 (.cells #[.slice sF81 ((putR nm d fx ix ox).2.1.length) cF82, .slice sI83 ((putR nm d fx ix ox).2.2.1.length) cI84, .slice sO85 ((putR nm d fx ix ox).2.2.2.length) cO86] 37) :: .obj g53 (.cells #[.slice sF46 fx.length cF47, .slice sI48 ix.length cI49, .slice sO50 ox.length cO51] 37) :: .obj g30 (.cells #[.int .i64 kd, .int .i64 nn, .string nm, .slice sd d.length cd] 41) :: .obj ga (.cells #[.slice sU1 fx.length cU1, .slice sU2 ix.length cU2, .slice sU3 ox.length cU3] 37) :: .obj gb (.cells #[.slice sV1 fx.length cV1, .slice sV2 ix.length cV2, .slice sV3 ox.length cV3] 37) :: .obj g2 (.cells #[.slice sF fs.length cF_, .slice sI il.length cI, .slice sO ol.length cO] 37) :: D78)) hA hM rfl rfl (m_store rfl rfl rfl (by kernel_rfl) hM 1 rfl rfl rfl) 1 rfl rfl rfl ?_
       intro w88 hM
       refine seq_do hA rfl rfl rfl (does_assign rfl) ?_
       intro a hA
       refine seq_end ?_
       refine hK71 _ _ ?_
       replace hA := hA.keep [(1, .slice sS os.length cS), (5, .pointer (some ⟨ga, 0, none⟩)), (6, .pointer (some ⟨gb, 0, none⟩)), (7, .int .i64 (((i : Nat) : Int))), (8, .pointer (some ⟨g30, 0, none⟩)), (9, .pointer (some ⟨g53, 0, none⟩)), (10, .pointer (some ⟨g61, 0, none⟩)), (11, .pointer (some ⟨g63, 0, none⟩)), (12, .slice none 0 0), (13, .slice none 0 0), (14, .int .i64 ((putR nm d fx ix ox).1)), (15, .int .i64 0), (35, .int .i64 kd)] ⟨rfl, rfl, rfl, rfl, rfl, rfl, rfl, rfl, rfl, rfl, rfl, rfl, rfl, trivial⟩
       refine wp_region_lit ?_
       refine seq_do hA rfl rfl rfl (m_loadS hM Wn_isS_37 rfl 5 rfl (cs := [.slice sV1 fx.length cV1, .slice sV2 ix.length cV2, .slice sV3 ox.length cV3]) rfl rfl) ?_
       intro a hA
       refine seq_do (v := .pointer (some ⟨g30, 2, none⟩)) hA rfl rfl rfl (does_field Wn_fld_41_2 rfl rfl) ?_
       intro a hA
       refine seq_do hA rfl rfl rfl (m_load1 hM Wn_is1_9 rfl 3 rfl rfl) ?_
       intro a hA
       refine seq_do (v := .pointer (some ⟨g30, 3, none⟩)) hA rfl rfl rfl (does_field Wn_fld_41_3 rfl rfl) ?_
       intro a hA
       refine seq_do hA rfl rfl rfl (m_load1 hM Wn_is1_24 rfl 3 rfl rfl) ?_
       intro a hA
       have hw89 := RwD.facts hM (hRv.mono (fun c hc => (List.mem_cons_of_mem _ (List.mem_cons_of_mem _ (List.mem_cons_of_mem _ (List.mem_cons_of_mem _ (List.mem_cons_of_mem _ (List.mem_cons_of_mem _ (List.mem_cons_of_mem _ hc)))))))))
       refine seq_call hA rfl rfl rfl (enters_func rfl rfl (fun w => by kernel_rfl)) (rput_any (nm := nm) (d := d) (cd := cd) (cF_ := cV1) (cI := cV2) (cO := cV3) (fs := fx) (il := ix) (ol := ox) hw89.1 hw89.2.1 hw89.2.2.1 hBx.n (hbd.below hM.bel)) ?_
       rintro _ w104 ⟨V90, hM91L, rfl, hM91, hnL92, hR93⟩
       obtain ⟨sF98, cF99, sI100, cI101, sO102, cO103, rfl, _⟩ := RwD.open_ hM91 hR93
       obtain ⟨D95, hg94, hnD95, hs96, hs97⟩ := grow [_, _, _, _, _, _, _] (D := D78) hM hM91 (noBld_cons (by simp) (noBld_cons (by simp) (noBld_cons (by simp) (noBld_cons (by simp) (noBld_cons (by simp) (noBld_cons (by simp) (noBld_cons (by simp) hnD78))))))) hnL92
       replace hRu := hRu.mono hs96
       replace hRv := hRv.mono hs96
       replace hR41 := hR41.mono hs96
       replace hz60 := hz60.mono hs96
       replace hR76 := hR76.mono hs96
       replace hR93 := hR93.mono hs97
       replace hM : Mg w w104 (.obj g63 (.cells #[.slice none 0 0, .slice none 0 0, .slice none 0 0] 37) :: .obj g61 (.cells #[.slice sF81 ((putR nm d fx ix ox).2.1.length) cF82, .slice sI83 ((putR nm d fx ix ox).2.2.1.length) cI84, .slice sO85 ((putR nm d fx ix ox).2.2.2.length) cO86] 37) :: .obj g53 (.cells #[.slice sF46 fx.length cF47, .slice sI48 ix.length cI49, .slice sO50 ox.length cO51] 37) :: .obj g30 (.cells #[.int .i64 kd, .int .i64 nn, .string nm, .slice sd d.length cd] 41) :: .obj ga (.cells #[.slice sU1 fx.length cU1, .slice sU2 ix.length cU2, .slice sU3 ox.length cU3] 37) :: .obj gb (.cells #[.slice sV1 fx.length cV1, .slice sV2 ix.length cV2, .slice sV3 ox.length cV3] 37) :: .obj g2 (.cells #[.slice sF fs.length cF_, .slice sI il.length cI, .slice sO ol.length cO] 37) :: D95) := hg94
       refine ⟨_, rfl, ?_⟩
       intro a hA
       refine seq_do hA rfl rfl rfl (does_move rfl) ?_
       intro a hA
       refine seq_do (v := .agg #[.slice sF98 ((putR nm d fx ix ox).2.1.length) cF99, .slice sI100 ((putR nm d fx ix ox).2.2.1.length) cI101, .slice sO102 ((putR nm d fx ix ox).2.2.2.length) cO103]) hA rfl rfl rfl (does_extract (vs := [.agg #[.slice sF98 ((putR nm d fx ix ox).2.1.length) cF99, .slice sI100 ((putR nm d fx ix ox).2.2.1.length) cI101, .slice sO102 ((putR nm d fx ix ox).2.2.2.length) cO103], .int .i64 ((putR nm d fx ix ox).1)]) rfl rfl) ?_
       intro a hA
       refine seq_do (v := .int .i64 ((putR nm d fx ix ox).1)) hA rfl rfl rfl (does_extract (vs := [.agg #[.slice sF98 ((putR nm d fx ix ox).2.1.length) cF99, .slice sI100 ((putR nm d fx ix ox).2.2.1.length) cI101, .slice sO102 ((putR nm d fx ix ox).2.2.2.length) cO103], .int .i64 ((putR nm d fx ix ox).1)]) rfl rfl) ?_
       intro a hA
       refine s_store (us := [.slice sF98 ((putR nm d fx ix ox).2.1.length) cF99, .slice sI100 ((putR nm d fx ix ox).2.2.1.length) cI101, .slice sO102 ((putR nm d fx ix ox).2.2.2.length) cO103]) (L' := (.obj g63 (.cells #[.slice sF98 ((putR nm d fx ix ox).2.1.length) cF99, .slice sI100 ((putR nm d fx ix ox).2.2.1.length) cI101, .slice sO102 ((putR nm d fx ix ox).2.2.2.length) cO103] 37) :: .obj g61 (.cells #[.slice sF81 ((putR nm d fx ix ox).2.1.length) cF82, .slice sI83 ((putR nm d fx ix ox).2.2.1.length) cI84, .slice sO85 ((putR nm d fx ix ox).2.2.2.length) cO86] 37) :: .obj g53 (.cells #[.slice sF46 fx.length cF47, .slice sI48 ix.length cI49, .slice sO50 ox.length cO51] 37) :: .obj g30 (.cells #[.int .i64 kd, .int .i64 nn, .string nm, .slice sd d.length cd] 41) :: .obj ga (.cells #[.slice sU1 fx.length cU1, .slice sU2 ix.length cU2, .slice sU3 ox.length cU3] 37) :: .obj gb (.cells #[.slice sV1 fx.length cV1, .slice sV2 ix.length cV2, .slice sV3 ox.length cV3] 37) :: .obj g2 (.cells #[.slice sF fs.length cF_, .slice sI il.length cI, .slice sO ol.length cO] 37) :: D95)) hA hM rfl rfl (m_store rfl rfl rfl (by kernel_rfl) hM 0 rfl rfl rfl) 0 rfl rfl rfl ?_
       intro w105 hM
       refine seq_do hA rfl rfl rfl (does_assign rfl) ?_
       intro a hA
       refine seq_end ?_
       refine hK67 _ _ ?_
       refine wp_seq_k (fun K106 hK106 => ?_)
       refine wp_seq_k (fun K107 hK107 => ?_)
       replace hA := hA.keep [(1, .slice sS os.length cS), (5, .pointer (some ⟨ga, 0, none⟩)), (6, .pointer (some ⟨gb, 0, none⟩)), (7, .int .i64 (((i : Nat) : Int))), (8, .pointer (some ⟨g30, 0, none⟩)), (9, .pointer (some ⟨g53, 0, none⟩)), (10, .pointer (some ⟨g61, 0, none⟩)), (11, .pointer (some ⟨g63, 0, none⟩)), (12, .slice none 0 0), (13, .slice none 0 0), (14, .int .i64 ((putR nm d fx ix ox).1)), (15, .int .i64 ((putR nm d fx ix ox).1)), (35, .int .i64 kd)] ⟨rfl, rfl, rfl, rfl, rfl, rfl, rfl, rfl, rfl, rfl, rfl, rfl, rfl, trivial⟩
       refine wp_draw (S := fun w1 => Mg w w1 (.obj g63 (.cells #[.slice sF98 ((putR nm d fx ix ox).2.1.length) cF99, .slice sI100 ((putR nm d fx ix ox).2.2.1.length) cI101, .slice sO102 ((putR nm d fx ix ox).2.2.2.length) cO103] 37) :: .obj g61 (.cells #[.slice sF81 ((putR nm d fx ix ox).2.1.length) cF82, .slice sI83 ((putR nm d fx ix ox).2.2.1.length) cI84, .slice sO85 ((putR nm d fx ix ox).2.2.2.length) cO86] 37) :: .obj g53 (.cells #[.slice sF46 fx.length cF47, .slice sI48 ix.length cI49, .slice sO50 ox.length cO51] 37) :: .obj ga (.cells #[.slice sU1 fx.length cU1, .slice sU2 ix.length cU2, .slice sU3 ox.length cU3] 37) :: .obj gb (.cells #[.slice sV1 fx.length cV1, .slice sV2 ix.length cV2, .slice sV3 ox.length cV3] 37) :: [])) (by kernel_rfl) ?_
       replace hM := hM.drew
       refine any_tk hA 0 rfl rfl rfl rfl hP (hM.sub (.cons_cons _ (.cons_cons _ (.cons_cons _ (.cons _ (.cons_cons _ (.cons_cons _ (.cons _ (List.nil_sublist _))))))))) (fun w1 hM => does_move rfl) ?_
       intro a hA
       refine any_tk hA 1 rfl rfl rfl rfl hP (hM.sub (.cons_cons _ (.cons_cons _ (.cons_cons _ (.cons _ (.cons_cons _ (.cons_cons _ (.cons _ (List.nil_sublist _))))))))) (fun w1 hM => does_move rfl) ?_
       intro a hA
       refine any_tk (v := .bool false) hA 2 rfl rfl rfl rfl hP (hM.sub (.cons_cons _ (.cons_cons _ (.cons_cons _ (.cons _ (.cons_cons _ (.cons_cons _ (.cons _ (List.nil_sublist _))))))))) (fun w1 hM => does_bin rfl rfl (fun w => (bin_neq w).trans (by rw [show (((putR nm d fx ix ox).1 != (putR nm d fx ix ox).1)) = false from by simp]))) ?_
       intro a hA
       refine any_tk hA 3 rfl rfl rfl rfl hP (hM.sub (.cons_cons _ (.cons_cons _ (.cons_cons _ (.cons _ (.cons_cons _ (.cons_cons _ (.cons _ (List.nil_sublist _))))))))) (fun w1 hM => does_move rfl) ?_
       intro a hA
       refine any_tk hA 4 rfl rfl rfl rfl hP (hM.sub (.cons_cons _ (.cons_cons _ (.cons_cons _ (.cons _ (.cons_cons _ (.cons_cons _ (.cons _ (List.nil_sublist _))))))))) (fun w1 hM => m_loadS hM Wn_isS_37 rfl 1 rfl (cs := [.slice sF81 ((putR nm d fx ix ox).2.1.length) cF82, .slice sI83 ((putR nm d fx ix ox).2.2.1.length) cI84, .slice sO85 ((putR nm d fx ix ox).2.2.2.length) cO86]) rfl rfl) ?_
       intro a hA
       refine any_tk hA 5 rfl rfl rfl rfl hP (hM.sub (.cons_cons _ (.cons_cons _ (.cons_cons _ (.cons _ (.cons_cons _ (.cons_cons _ (.cons _ (List.nil_sublist _))))))))) (fun w1 hM => m_loadS hM Wn_isS_37 rfl 0 rfl (cs := [.slice sF98 ((putR nm d fx ix ox).2.1.length) cF99, .slice sI100 ((putR nm d fx ix ox).2.2.1.length) cI101, .slice sO102 ((putR nm d fx ix ox).2.2.2.length) cO103]) rfl rfl) ?_
       intro a hA
       have hw108 := RwD.facts hM (hR76.mono (fun c hc => (List.mem_cons_of_mem _ (List.mem_cons_of_mem _ (List.mem_cons_of_mem _ (List.mem_cons_of_mem _ (List.mem_cons_of_mem _ (List.mem_cons_of_mem _ (List.mem_cons_of_mem _ hc)))))))))
       have hw109 := RwD.facts hM (hR93.mono (fun c hc => (List.mem_cons_of_mem _ (List.mem_cons_of_mem _ (List.mem_cons_of_mem _ (List.mem_cons_of_mem _ (List.mem_cons_of_mem _ (List.mem_cons_of_mem _ (List.mem_cons_of_mem _ hc)))))))))
       refine any_one (by kernel_rfl) (op_call hA 6 rfl rfl rfl rfl (enters_func rfl rfl (fun w => by kernel_rfl)) (rsame_as  (b := true) hw108.1 hw108.2.1 hw108.2.2.1 hw109.1 hw109.2.1 hw109.2.2.1 (bd_put) (Bd.n (bd_put)) (decide_eq_true ⟨rfl, rfl, rfl⟩)) ?_)
       rintro _ w111 ⟨rfl, hb110⟩
       replace hM := hM.call hb110
       refine ⟨_, rfl, (hM.sub (.cons_cons _ (.cons_cons _ (.cons_cons _ (.cons _ (.cons_cons _ (.cons_cons _ (.cons _ (List.nil_sublist _))))))))), ?_⟩
       intro a hA
       refine any_tk (v := .bool false) hA 7 rfl rfl rfl rfl hP (hM.sub (.cons_cons _ (.cons_cons _ (.cons_cons _ (.cons _ (.cons_cons _ (.cons_cons _ (.cons _ (List.nil_sublist _))))))))) (fun w1 hM => does_un rfl un_not) ?_
       intro a hA
       refine any_tk (v := .bool false) hA 8 rfl rfl rfl rfl hP (hM.sub (.cons_cons _ (.cons_cons _ (.cons_cons _ (.cons _ (.cons_cons _ (.cons_cons _ (.cons _ (List.nil_sublist _))))))))) (fun w1 hM => does_pick rfl rfl rfl rfl) ?_
       intro a hA
       refine any_tk hA 9 rfl rfl rfl rfl hP (hM.sub (.cons_cons _ (.cons_cons _ (.cons_cons _ (.cons _ (.cons_cons _ (.cons_cons _ (.cons _ (List.nil_sublist _))))))))) (fun w1 hM => does_move rfl) ?_
       intro a hA
       refine any_tk hA 10 rfl rfl rfl rfl hP (hM.sub (.cons_cons _ (.cons_cons _ (.cons_cons _ (.cons _ (.cons_cons _ (.cons_cons _ (.cons _ (List.nil_sublist _))))))))) (fun w1 hM => does_move rfl) ?_
       intro a hA
       refine any_tk hA 11 rfl rfl rfl rfl hP (hM.sub (.cons_cons _ (.cons_cons _ (.cons_cons _ (.cons _ (.cons_cons _ (.cons_cons _ (.cons _ (List.nil_sublist _))))))))) (fun w1 hM => does_move rfl) ?_
       intro a hA
       refine any_one (by kernel_rfl) (op_call hA 12 rfl rfl rfl rfl (enters_func rfl rfl (fun w => by kernel_rfl)) (same_as (so := none) (to_ := none) (xs := []) (ys := []) (ca := 0) (cb := 0) (b := true) rb_nil rb_nil (by simp) (decide_eq_true rfl)) ?_)
       rintro _ w113 ⟨rfl, hb112⟩
       replace hM := hM.call hb112
       refine ⟨_, rfl, (hM.sub (.cons_cons _ (.cons_cons _ (.cons_cons _ (.cons _ (.cons_cons _ (.cons_cons _ (.cons _ (List.nil_sublist _))))))))), ?_⟩
       intro a hA
       refine any_tk (v := .bool false) hA 13 rfl rfl rfl rfl hP (hM.sub (.cons_cons _ (.cons_cons _ (.cons_cons _ (.cons _ (.cons_cons _ (.cons_cons _ (.cons _ (List.nil_sublist _))))))))) (fun w1 hM => does_un rfl un_not) ?_
       intro a hA
       refine any_tk (v := .bool false) hA 14 rfl rfl rfl rfl hP (hM.sub (.cons_cons _ (.cons_cons _ (.cons_cons _ (.cons _ (.cons_cons _ (.cons_cons _ (.cons _ (List.nil_sublist _))))))))) (fun w1 hM => does_pick rfl rfl rfl rfl) ?_
       intro a hA
       refine any_tk hA 15 rfl rfl rfl rfl hP (hM.sub (.cons_cons _ (.cons_cons _ (.cons_cons _ (.cons _ (.cons_cons _ (.cons_cons _ (.cons _ (List.nil_sublist _))))))))) (fun w1 hM => does_move rfl) ?_
       intro a hA
       refine any_tk hA 16 rfl rfl rfl rfl hP (hM.sub (.cons_cons _ (.cons_cons _ (.cons_cons _ (.cons _ (.cons_cons _ (.cons_cons _ (.cons _ (List.nil_sublist _))))))))) (fun w1 hM => m_loadS hM Wn_isS_37 rfl 3 rfl (cs := [.slice sU1 fx.length cU1, .slice sU2 ix.length cU2, .slice sU3 ox.length cU3]) rfl rfl) ?_
       intro a hA
       refine any_tk hA 17 rfl rfl rfl rfl hP (hM.sub (.cons_cons _ (.cons_cons _ (.cons_cons _ (.cons _ (.cons_cons _ (.cons_cons _ (.cons _ (List.nil_sublist _))))))))) (fun w1 hM => m_loadS hM Wn_isS_37 rfl 2 rfl (cs := [.slice sF46 fx.length cF47, .slice sI48 ix.length cI49, .slice sO50 ox.length cO51]) rfl rfl) ?_
       intro a hA
       have hw114 := RwD.facts hM (hRu.mono (fun c hc => (List.mem_cons_of_mem _ (List.mem_cons_of_mem _ (List.mem_cons_of_mem _ (List.mem_cons_of_mem _ (List.mem_cons_of_mem _ (List.mem_cons_of_mem _ (List.mem_cons_of_mem _ hc)))))))))
       have hw115 := RwD.facts hM (hR41.mono (fun c hc => (List.mem_cons_of_mem _ (List.mem_cons_of_mem _ (List.mem_cons_of_mem _ (List.mem_cons_of_mem _ (List.mem_cons_of_mem _ (List.mem_cons_of_mem _ (List.mem_cons_of_mem _ hc)))))))))
       refine any_one (by kernel_rfl) (op_call hA 18 rfl rfl rfl rfl (enters_func rfl rfl (fun w => by kernel_rfl)) (rsame_as  (b := true) hw114.1 hw114.2.1 hw114.2.2.1 hw115.1 hw115.2.1 hw115.2.2.1 hBx (Bd.n hBx) (decide_eq_true ⟨rfl, rfl, rfl⟩)) ?_)
       rintro _ w117 ⟨rfl, hb116⟩
       replace hM := hM.call hb116
       refine ⟨_, rfl, (hM.sub (.cons_cons _ (.cons_cons _ (.cons_cons _ (.cons _ (.cons_cons _ (.cons_cons _ (.cons _ (List.nil_sublist _))))))))), ?_⟩
       intro a hA
       refine any_tk (v := .bool false) hA 19 rfl rfl rfl rfl hP (hM.sub (.cons_cons _ (.cons_cons _ (.cons_cons _ (.cons _ (.cons_cons _ (.cons_cons _ (.cons _ (List.nil_sublist _))))))))) (fun w1 hM => does_un rfl un_not) ?_
       intro a hA
       refine any_tk (v := .bool false) hA 20 rfl rfl rfl rfl hP (hM.sub (.cons_cons _ (.cons_cons _ (.cons_cons _ (.cons _ (.cons_cons _ (.cons_cons _ (.cons _ (List.nil_sublist _))))))))) (fun w1 hM => does_pick rfl rfl rfl rfl) ?_
       intro a hA
       refine any_tk hA 21 rfl rfl rfl rfl hP (hM.sub (.cons_cons _ (.cons_cons _ (.cons_cons _ (.cons _ (.cons_cons _ (.cons_cons _ (.cons _ (List.nil_sublist _))))))))) (fun w1 hM => does_move rfl) ?_
       intro a hA
       refine any_tk hA 22 rfl rfl rfl rfl hP (hM.sub (.cons_cons _ (.cons_cons _ (.cons_cons _ (.cons _ (.cons_cons _ (.cons_cons _ (.cons _ (List.nil_sublist _))))))))) (fun w1 hM => m_loadS hM Wn_isS_37 rfl 3 rfl (cs := [.slice sU1 fx.length cU1, .slice sU2 ix.length cU2, .slice sU3 ox.length cU3]) rfl rfl) ?_
       intro a hA
       refine any_tk hA 24 rfl rfl rfl rfl hP (hM.sub (.cons_cons _ (.cons_cons _ (.cons_cons _ (.cons _ (.cons_cons _ (.cons_cons _ (.cons _ (List.nil_sublist _))))))))) (fun w1 hM => m_loadS hM Wn_isS_37 rfl 4 rfl (cs := [.slice sV1 fx.length cV1, .slice sV2 ix.length cV2, .slice sV3 ox.length cV3]) rfl rfl) ?_
       intro a hA
       have hw118 := RwD.facts hM (hRu.mono (fun c hc => (List.mem_cons_of_mem _ (List.mem_cons_of_mem _ (List.mem_cons_of_mem _ (List.mem_cons_of_mem _ (List.mem_cons_of_mem _ (List.mem_cons_of_mem _ (List.mem_cons_of_mem _ hc)))))))))
       refine any_one (by kernel_rfl) (op_call hA 23 rfl rfl rfl rfl (enters_func rfl rfl (fun w => by kernel_rfl)) (sound_any (cF_ := cU1) (cI := cU2) (cO := cU3) (fs := fx) (il := ix) (ol := ox) hw118.1 hBx.n) ?_)
       rintro _ w120 ⟨rfl, hb119⟩
       replace hM := hM.call hb119
       refine ⟨_, rfl, (hM.sub (.cons_cons _ (.cons_cons _ (.cons_cons _ (.cons _ (.cons_cons _ (.cons_cons _ (.cons _ (List.nil_sublist _))))))))), ?_⟩
       intro a hA
       have hw121 := RwD.facts hM (hRv.mono (fun c hc => (List.mem_cons_of_mem _ (List.mem_cons_of_mem _ (List.mem_cons_of_mem _ (List.mem_cons_of_mem _ (List.mem_cons_of_mem _ (List.mem_cons_of_mem _ (List.mem_cons_of_mem _ hc)))))))))
       refine any_one (by kernel_rfl) (op_call hA 25 rfl rfl rfl rfl (enters_func rfl rfl (fun w => by kernel_rfl)) (rsound_any (cF_ := cV1) (cI := cV2) (cO := cV3) (fs := fx) (il := ix) (ol := ox) hw121.1 hBx.n) ?_)
       rintro _ w123 ⟨rfl, hb122⟩
       replace hM := hM.call hb122
       refine ⟨_, rfl, (hM.sub (.cons_cons _ (.cons_cons _ (.cons_cons _ (.cons _ (.cons_cons _ (.cons_cons _ (.cons _ (List.nil_sublist _))))))))), ?_⟩
       intro a hA
       refine any_tk (v := .bool false) hA 26 rfl rfl rfl rfl hP (hM.sub (.cons_cons _ (.cons_cons _ (.cons_cons _ (.cons _ (.cons_cons _ (.cons_cons _ (.cons _ (List.nil_sublist _))))))))) (fun w1 hM => does_bin rfl rfl (fun w => ((bin_neqB Try.underlying4) w).trans (by rw [show (!(soundS fx ix ox == soundS fx ix ox)) = false from by simp]))) ?_
       intro a hA
       refine any_tk (v := .bool false) hA 27 rfl rfl rfl rfl hP (hM.sub (.cons_cons _ (.cons_cons _ (.cons_cons _ (.cons _ (.cons_cons _ (.cons_cons _ (.cons _ (List.nil_sublist _))))))))) (fun w1 hM => does_pick rfl rfl rfl rfl) ?_
       intro a hA
       refine any_end (by kernel_rfl) ?_
       refine hK107 _ _ ?_
       refine wp_cond_false (hA.ev rfl) ?_
       refine wp_skip ?_
       refine hK106 _ _ ?_
       refine wp_seq_k (fun K124 hK124 => ?_)
       replace hA := hA.keep [(1, .slice sS os.length cS), (5, .pointer (some ⟨ga, 0, none⟩)), (6, .pointer (some ⟨gb, 0, none⟩)), (7, .int .i64 (((i : Nat) : Int))), (8, .pointer (some ⟨g30, 0, none⟩)), (9, .pointer (some ⟨g53, 0, none⟩)), (10, .pointer (some ⟨g61, 0, none⟩)), (11, .pointer (some ⟨g63, 0, none⟩)), (12, .slice none 0 0), (13, .slice none 0 0), (14, .int .i64 ((putR nm d fx ix ox).1)), (15, .int .i64 ((putR nm d fx ix ox).1)), (35, .int .i64 kd)] ⟨rfl, rfl, rfl, rfl, rfl, rfl, rfl, rfl, rfl, rfl, rfl, rfl, rfl, trivial⟩
       refine wp_region_lit ?_
       refine seq_do hA rfl rfl rfl (does_move rfl) ?_
       intro a hA
       rcases Bool.eq_false_or_eq_true (((putR nm d fx ix ox).1 == 0)) with hb125 | hb125
       · have hb125' := eq_of_beq hb125
         refine seq_do (v := .bool true) hA rfl rfl rfl (does_bin rfl rfl (fun w => (bin_eql w).trans (by rw [hb125]))) ?_
         intro a hA
         refine seq_do hA rfl rfl rfl (does_move rfl) ?_
         intro a hA
         refine seq_do (v := .pointer (some ⟨g30, 0, none⟩)) hA rfl rfl rfl (does_field Wn_fld_41_0 rfl rfl) ?_
         intro a hA
         refine seq_do hA rfl rfl rfl (m_load1 hM Wn_is1_3 rfl 3 rfl rfl) ?_
         intro a hA
         refine seq_do (v := .bool true) hA rfl rfl rfl (does_bin rfl rfl (fun w => (bin_geq w).trans (by rw [show (decide (1 ≤ kd)) = true from decide_eq_true (by omega)]))) ?_
         intro a hA
         refine seq_do (v := .bool true) hA rfl rfl rfl (does_pick rfl rfl rfl rfl) ?_
         intro a hA
         refine seq_do hA rfl rfl rfl (does_move rfl) ?_
         intro a hA
         refine seq_do (v := .pointer (some ⟨g30, 0, none⟩)) hA rfl rfl rfl (does_field Wn_fld_41_0 rfl rfl) ?_
         intro a hA
         refine seq_do hA rfl rfl rfl (m_load1 hM Wn_is1_3 rfl 3 rfl rfl) ?_
         intro a hA
         refine seq_do (v := .bool true) hA rfl rfl rfl (does_bin rfl rfl (fun w => (bin_leq w).trans (by rw [show (decide (kd ≤ 5)) = true from decide_eq_true (by omega)]))) ?_
         intro a hA
         refine seq_do (v := .bool true) hA rfl rfl rfl (does_pick rfl rfl rfl rfl) ?_
         intro a hA
         refine seq_end ?_
         refine hK124 _ _ ?_
         refine wp_cond_true (hA.ev rfl) ?_
         replace hA := hA.keep [(1, .slice sS os.length cS), (5, .pointer (some ⟨ga, 0, none⟩)), (6, .pointer (some ⟨gb, 0, none⟩)), (7, .int .i64 (((i : Nat) : Int))), (8, .pointer (some ⟨g30, 0, none⟩)), (9, .pointer (some ⟨g53, 0, none⟩)), (10, .pointer (some ⟨g61, 0, none⟩)), (11, .pointer (some ⟨g63, 0, none⟩)), (12, .slice none 0 0), (13, .slice none 0 0), (14, .int .i64 ((putR nm d fx ix ox).1)), (15, .int .i64 ((putR nm d fx ix ox).1)), (35, .int .i64 kd)] ⟨rfl, rfl, rfl, rfl, rfl, rfl, rfl, rfl, rfl, rfl, rfl, rfl, rfl, trivial⟩
         refine wp_draw (S := fun w1 => Mg w w1 (.obj g63 (.cells #[.slice sF98 ((putR nm d fx ix ox).2.1.length) cF99, .slice sI100 ((putR nm d fx ix ox).2.2.1.length) cI101, .slice sO102 ((putR nm d fx ix ox).2.2.2.length) cO103] 37) :: .obj g61 (.cells #[.slice sF81 ((putR nm d fx ix ox).2.1.length) cF82, .slice sI83 ((putR nm d fx ix ox).2.2.1.length) cI84, .slice sO85 ((putR nm d fx ix ox).2.2.2.length) cO86] 37) :: [])) (by kernel_rfl) ?_
         replace hM := hM.drew
         refine any_tk hA 0 rfl rfl rfl rfl hP (hM.sub (.cons_cons _ (.cons_cons _ (.cons _ (.cons _ (.cons _ (.cons _ (.cons _ (List.nil_sublist _))))))))) (fun w1 hM => m_loadS hM Wn_isS_37 rfl 1 rfl (cs := [.slice sF81 ((putR nm d fx ix ox).2.1.length) cF82, .slice sI83 ((putR nm d fx ix ox).2.2.1.length) cI84, .slice sO85 ((putR nm d fx ix ox).2.2.2.length) cO86]) rfl rfl) ?_
         intro a hA
         refine any_tk hA 1 rfl rfl rfl rfl hP (hM.sub (.cons_cons _ (.cons_cons _ (.cons _ (.cons _ (.cons _ (.cons _ (.cons _ (List.nil_sublist _))))))))) (fun w1 hM => m_loadS hM Wn_isS_37 rfl 0 rfl (cs := [.slice sF98 ((putR nm d fx ix ox).2.1.length) cF99, .slice sI100 ((putR nm d fx ix ox).2.2.1.length) cI101, .slice sO102 ((putR nm d fx ix ox).2.2.2.length) cO103]) rfl rfl) ?_
         intro a hA
         refine any_one (by kernel_rfl) (g_store (us := [.slice sF81 ((putR nm d fx ix ox).2.1.length) cF82, .slice sI83 ((putR nm d fx ix ox).2.2.1.length) cI84, .slice sO85 ((putR nm d fx ix ox).2.2.2.length) cO86]) (L' := (.obj g63 (.cells #[.slice sF98 ((putR nm d fx ix ox).2.1.length) cF99, .slice sI100 ((putR nm d fx ix ox).2.2.1.length) cI101, .slice sO102 ((putR nm d fx ix ox).2.2.2.length) cO103] 37) :: .obj g61 (.cells #[.slice sF81 ((putR nm d fx ix ox).2.1.length) cF82, .slice sI83 ((putR nm d fx ix ox).2.2.1.length) cI84, .slice sO85 ((putR nm d fx ix ox).2.2.2.length) cO86] 37) :: .obj g53 (.cells #[.slice sF46 fx.length cF47, .slice sI48 ix.length cI49, .slice sO50 ox.length cO51] 37) :: .obj g30 (.cells #[.int .i64 kd, .int .i64 nn, .string nm, .slice sd d.length cd] 41) :: .obj ga (.cells #[.slice sF81 ((putR nm d fx ix ox).2.1.length) cF82, .slice sI83 ((putR nm d fx ix ox).2.2.1.length) cI84, .slice sO85 ((putR nm d fx ix ox).2.2.2.length) cO86] 37) :: .obj gb (.cells #[.slice sV1 fx.length cV1, .slice sV2 ix.length cV2, .slice sV3 ox.length cV3] 37) :: .obj g2 (.cells #[.slice sF fs.length cF_, .slice sI il.length cI, .slice sO ol.length cO] 37) :: D95)) hA hM 2 rfl rfl rfl (m_store rfl rfl rfl (by kernel_rfl) hM 4 rfl rfl rfl) 4 rfl rfl rfl ?_)
         intro w126 hM
         refine ⟨(hM.sub (.cons_cons _ (.cons_cons _ (.cons _ (.cons _ (.cons _ (.cons _ (.cons _ (List.nil_sublist _))))))))), ?_⟩
         refine any_one (by kernel_rfl) (g_store (us := [.slice sF98 ((putR nm d fx ix ox).2.1.length) cF99, .slice sI100 ((putR nm d fx ix ox).2.2.1.length) cI101, .slice sO102 ((putR nm d fx ix ox).2.2.2.length) cO103]) (L' := (.obj g63 (.cells #[.slice sF98 ((putR nm d fx ix ox).2.1.length) cF99, .slice sI100 ((putR nm d fx ix ox).2.2.1.length) cI101, .slice sO102 ((putR nm d fx ix ox).2.2.2.length) cO103] 37) :: .obj g61 (.cells #[.slice sF81 ((putR nm d fx ix ox).2.1.length) cF82, .slice sI83 ((putR nm d fx ix ox).2.2.1.length) cI84, .slice sO85 ((putR nm d fx ix ox).2.2.2.length) cO86] 37) :: .obj g53 (.cells #[.slice sF46 fx.length cF47, .slice sI48 ix.length cI49, .slice sO50 ox.length cO51] 37) :: .obj g30 (.cells #[.int .i64 kd, .int .i64 nn, .string nm, .slice sd d.length cd] 41) :: .obj ga (.cells #[.slice sF81 ((putR nm d fx ix ox).2.1.length) cF82, .slice sI83 ((putR nm d fx ix ox).2.2.1.length) cI84, .slice sO85 ((putR nm d fx ix ox).2.2.2.length) cO86] 37) :: .obj gb (.cells #[.slice sF98 ((putR nm d fx ix ox).2.1.length) cF99, .slice sI100 ((putR nm d fx ix ox).2.2.1.length) cI101, .slice sO102 ((putR nm d fx ix ox).2.2.2.length) cO103] 37) :: .obj g2 (.cells #[.slice sF fs.length cF_, .slice sI il.length cI, .slice sO ol.length cO] 37) :: D95)) hA hM 3 rfl rfl rfl (m_store rfl rfl rfl (by kernel_rfl) hM 5 rfl rfl rfl) 5 rfl rfl rfl ?_)
         intro w127 hM
         refine ⟨(hM.sub (.cons_cons _ (.cons_cons _ (.cons _ (.cons _ (.cons _ (.cons _ (.cons _ (List.nil_sublist _))))))))), ?_⟩
         refine any_end (by kernel_rfl) ?_
         refine hK19 _ _ ?_
         replace hA := hA.keep [(1, .slice sS os.length cS), (5, .pointer (some ⟨ga, 0, none⟩)), (6, .pointer (some ⟨gb, 0, none⟩)), (7, .int .i64 (((i : Nat) : Int))), (8, .pointer (some ⟨g30, 0, none⟩)), (9, .pointer (some ⟨g53, 0, none⟩)), (10, .pointer (some ⟨g61, 0, none⟩)), (11, .pointer (some ⟨g63, 0, none⟩)), (12, .slice none 0 0), (13, .slice none 0 0), (14, .int .i64 ((putR nm d fx ix ox).1)), (15, .int .i64 ((putR nm d fx ix ox).1)), (35, .int .i64 kd)] ⟨rfl, rfl, rfl, rfl, rfl, rfl, rfl, rfl, rfl, rfl, rfl, rfl, rfl, trivial⟩
         refine wp_region_lit ?_
         refine seq_do hA rfl rfl rfl (does_move rfl) ?_
         intro a hA
         refine seq_do (v := .int .i64 (((i + 1 : Nat) : Int))) hA rfl rfl rfl (does_bin rfl rfl (ar_add ((in_i64 (by omega) (by omega)).trans (by omega)))) ?_
         intro a hA
         refine seq_do hA rfl rfl rfl (does_assign rfl) ?_
         intro a hA
         refine seq_end ?_
         replace hM : Mg w w127 (.obj ga (.cells #[.slice sF81 ((putR nm d fx ix ox).2.1.length) cF82, .slice sI83 ((putR nm d fx ix ox).2.2.1.length) cI84, .slice sO85 ((putR nm d fx ix ox).2.2.2.length) cO86] 37) :: .obj gb (.cells #[.slice sF98 ((putR nm d fx ix ox).2.1.length) cF99, .slice sI100 ((putR nm d fx ix ox).2.2.1.length) cI101, .slice sO102 ((putR nm d fx ix ox).2.2.2.length) cO103] 37) :: .obj g2 (.cells #[.slice sF fs.length cF_, .slice sI il.length cI, .slice sO ol.length cO] 37) :: D95) := by
           have h9 := hM.sub (.cons _ (.cons _ (.cons _ (.cons _ (.cons_cons _ (.cons_cons _ (.cons_cons _ (.refl _))))))))
           exact h9
         refine hK14 _ _ _ (by omega) ⟨i + 1, (putR nm d fx ix ox).2.1, (putR nm d fx ix ox).2.2.1, (putR nm d fx ix ox).2.2.2, sF81, cF82, sI83, cI84, sO85, cO86, sF98, cF99, sI100, cI101, sO102, cO103, D95, rfl, ⟨hR76, hR93, hnD95, (bd_put), by omega⟩, hA.keep _ ⟨rfl, rfl, rfl, rfl, trivial⟩, hM⟩
       · have hb125' := ne_of_beq_false hb125
         refine seq_do (v := .bool false) hA rfl rfl rfl (does_bin rfl rfl (fun w => (bin_eql w).trans (by rw [hb125]))) ?_
         intro a hA
         refine seq_do hA rfl rfl rfl (does_move rfl) ?_
         intro a hA
         refine seq_skip hA rfl rfl rfl ?_
         intro a hA
         refine seq_skip hA rfl rfl rfl ?_
         intro a hA
         refine seq_skip hA rfl rfl rfl ?_
         intro a hA
         refine seq_do (v := .bool false) hA rfl rfl rfl (does_pick rfl rfl rfl rfl) ?_
         intro a hA
         refine seq_do hA rfl rfl rfl (does_move rfl) ?_
         intro a hA
         refine seq_skip hA rfl rfl rfl ?_
         intro a hA
         refine seq_skip hA rfl rfl rfl ?_
         intro a hA
         refine seq_skip hA rfl rfl rfl ?_
         intro a hA
         refine seq_do (v := .bool false) hA rfl rfl rfl (does_pick rfl rfl rfl rfl) ?_
         intro a hA
         refine seq_end ?_
         refine hK124 _ _ ?_
         refine wp_cond_false (hA.ev rfl) ?_
         refine wp_skip ?_
         refine hK19 _ _ ?_
         replace hA := hA.keep [(1, .slice sS os.length cS), (5, .pointer (some ⟨ga, 0, none⟩)), (6, .pointer (some ⟨gb, 0, none⟩)), (7, .int .i64 (((i : Nat) : Int))), (8, .pointer (some ⟨g30, 0, none⟩)), (9, .pointer (some ⟨g53, 0, none⟩)), (10, .pointer (some ⟨g61, 0, none⟩)), (11, .pointer (some ⟨g63, 0, none⟩)), (12, .slice none 0 0), (13, .slice none 0 0), (14, .int .i64 ((putR nm d fx ix ox).1)), (15, .int .i64 ((putR nm d fx ix ox).1)), (35, .int .i64 kd)] ⟨rfl, rfl, rfl, rfl, rfl, rfl, rfl, rfl, rfl, rfl, rfl, rfl, rfl, trivial⟩
         refine wp_region_lit ?_
         refine seq_do hA rfl rfl rfl (does_move rfl) ?_
         intro a hA
         refine seq_do (v := .int .i64 (((i + 1 : Nat) : Int))) hA rfl rfl rfl (does_bin rfl rfl (ar_add ((in_i64 (by omega) (by omega)).trans (by omega)))) ?_
         intro a hA
         refine seq_do hA rfl rfl rfl (does_assign rfl) ?_
         intro a hA
         refine seq_end ?_
         replace hM : Mg w w123 (.obj ga (.cells #[.slice sU1 fx.length cU1, .slice sU2 ix.length cU2, .slice sU3 ox.length cU3] 37) :: .obj gb (.cells #[.slice sV1 fx.length cV1, .slice sV2 ix.length cV2, .slice sV3 ox.length cV3] 37) :: .obj g2 (.cells #[.slice sF fs.length cF_, .slice sI il.length cI, .slice sO ol.length cO] 37) :: D95) := by
           have h9 := hM.sub (.cons _ (.cons _ (.cons _ (.cons _ (.cons_cons _ (.cons_cons _ (.cons_cons _ (.refl _))))))))
           exact h9
         refine hK14 _ _ _ (by omega) ⟨i + 1, fx, ix, ox, sU1, cU1, sU2, cU2, sU3, cU3, sV1, cV1, sV2, cV2, sV3, cV3, D95, rfl, ⟨hRu, hRv, hnD95, hBx, by omega⟩, hA.keep _ ⟨rfl, rfl, rfl, rfl, trivial⟩, hM⟩
     · have hb70' := ne_of_beq_false hb70
       refine seq_do (v := .bool false) hA rfl rfl rfl (does_bin rfl rfl (fun w => (bin_eql w).trans (by rw [hb70]))) ?_
       intro a hA
       refine seq_do hA rfl rfl rfl (does_assign rfl) ?_
       intro a hA
       refine seq_end ?_
       refine hK69 _ _ ?_
       refine wp_cond_false (hA.ev rfl) ?_
       refine wp_seq_k (fun K128 hK128 => ?_)
       replace hA := hA.keep [(1, .slice sS os.length cS), (5, .pointer (some ⟨ga, 0, none⟩)), (6, .pointer (some ⟨gb, 0, none⟩)), (7, .int .i64 (((i : Nat) : Int))), (8, .pointer (some ⟨g30, 0, none⟩)), (9, .pointer (some ⟨g53, 0, none⟩)), (10, .pointer (some ⟨g61, 0, none⟩)), (11, .pointer (some ⟨g63, 0, none⟩)), (12, .slice none 0 0), (13, .slice none 0 0), (14, .int .i64 0), (15, .int .i64 0), (35, .int .i64 kd)] ⟨rfl, rfl, rfl, rfl, rfl, rfl, rfl, rfl, rfl, rfl, rfl, rfl, rfl, trivial⟩
       refine wp_region_lit ?_
       rcases Bool.eq_false_or_eq_true ((kd == 2)) with hb129 | hb129
       · have hb129' := eq_of_beq hb129
         refine seq_do (v := .bool true) hA rfl rfl rfl (does_bin rfl rfl (fun w => (bin_eql w).trans (by rw [hb129]))) ?_
         intro a hA
         refine seq_do hA rfl rfl rfl (does_assign rfl) ?_
         intro a hA
         refine seq_end ?_
         refine hK128 _ _ ?_
         refine wp_cond_true (hA.ev rfl) ?_
         refine wp_seq_k (fun K130 hK130 => ?_)
         replace hA := hA.keep [(1, .slice sS os.length cS), (5, .pointer (some ⟨ga, 0, none⟩)), (6, .pointer (some ⟨gb, 0, none⟩)), (7, .int .i64 (((i : Nat) : Int))), (8, .pointer (some ⟨g30, 0, none⟩)), (9, .pointer (some ⟨g53, 0, none⟩)), (10, .pointer (some ⟨g61, 0, none⟩)), (11, .pointer (some ⟨g63, 0, none⟩)), (12, .slice none 0 0), (13, .slice none 0 0), (14, .int .i64 0), (15, .int .i64 0), (35, .int .i64 kd)] ⟨rfl, rfl, rfl, rfl, rfl, rfl, rfl, rfl, rfl, rfl, rfl, rfl, rfl, trivial⟩
         refine wp_region_lit ?_
         refine seq_do hA rfl rfl rfl (m_loadS hM Wn_isS_37 rfl 4 rfl (cs := [.slice sU1 fx.length cU1, .slice sU2 ix.length cU2, .slice sU3 ox.length cU3]) rfl rfl) ?_
         intro a hA
         refine seq_do (v := .pointer (some ⟨g30, 2, none⟩)) hA rfl rfl rfl (does_field Wn_fld_41_2 rfl rfl) ?_
         intro a hA
         refine seq_do hA rfl rfl rfl (m_load1 hM Wn_is1_9 rfl 3 rfl rfl) ?_
         intro a hA
         refine seq_do (v := .pointer (some ⟨g30, 1, none⟩)) hA rfl rfl rfl (does_field Wn_fld_41_1 rfl rfl) ?_
         intro a hA
         refine seq_do hA rfl rfl rfl (m_load1 hM Wn_is1_3 rfl 3 rfl rfl) ?_
         intro a hA
         refine seq_do (v := .pointer (some ⟨g30, 3, none⟩)) hA rfl rfl rfl (does_field Wn_fld_41_3 rfl rfl) ?_
         intro a hA
         refine seq_do hA rfl rfl rfl (m_load1 hM Wn_is1_24 rfl 3 rfl rfl) ?_
         intro a hA
         have hw131 := RwD.facts hM (hRu.mono (fun c hc => (List.mem_cons_of_mem _ (List.mem_cons_of_mem _ (List.mem_cons_of_mem _ (List.mem_cons_of_mem _ (List.mem_cons_of_mem _ (List.mem_cons_of_mem _ (List.mem_cons_of_mem _ hc)))))))))
         refine seq_call hA rfl rfl rfl (enters_func rfl rfl (fun w => by kernel_rfl)) (write_any (nm := nm) (z := nn) (d := d) (cd := cd) (cF_ := cU1) (cI := cU2) (cO := cU3) (fs := fx) (il := ix) (ol := ox) hw131.1 hw131.2.1 hw131.2.2.1 hBx.n (hbd.below hM.bel) hdl) ?_
         rintro _ w146 ⟨V132, hM133L, rfl, hM133, hnL134, hR135⟩
         obtain ⟨sF140, cF141, sI142, cI143, sO144, cO145, rfl, _⟩ := RwD.open_ hM133 hR135
         obtain ⟨D137, hg136, hnD137, hs138, hs139⟩ := grow [_, _, _, _, _, _, _] (D := D58) hM hM133 (noBld_cons (by simp) (noBld_cons (by simp) (noBld_cons (by simp) (noBld_cons (by simp) (noBld_cons (by simp) (noBld_cons (by simp) (noBld_cons (by simp) hnD58))))))) hnL134
         replace hRu := hRu.mono hs138
         replace hRv := hRv.mono hs138
         replace hR41 := hR41.mono hs138
         replace hz60 := hz60.mono hs138
         replace hR135 := hR135.mono hs139
         replace hM : Mg w w146 (.obj g63 (.cells #[.slice none 0 0, .slice none 0 0, .slice none 0 0] 37) :: .obj g61 (.cells #[.slice none 0 0, .slice none 0 0, .slice none 0 0] 37) :: .obj g53 (.cells #[.slice sF46 fx.length cF47, .slice sI48 ix.length cI49, .slice sO50 ox.length cO51] 37) :: .obj g30 (.cells #[.int .i64 kd, .int .i64 nn, .string nm, .slice sd d.length cd] 41) :: .obj ga (.cells #[.slice sU1 fx.length cU1, .slice sU2 ix.length cU2, .slice sU3 ox.length cU3] 37) :: .obj gb (.cells #[.slice sV1 fx.length cV1, .slice sV2 ix.length cV2, .slice sV3 ox.length cV3] 37) :: .obj g2 (.cells #[.slice sF fs.length cF_, .slice sI il.length cI, .slice sO ol.length cO] 37) :: D137) := hg136
         refine ⟨_, rfl, ?_⟩
         intro a hA
         refine seq_do hA rfl rfl rfl (does_move rfl) ?_
         intro a hA
         refine seq_do (v := .agg #[.slice sF140 ((wrR nm nn d fx ix ox).2.1.length) cF141, .slice sI142 ((wrR nm nn d fx ix ox).2.2.1.length) cI143, .slice sO144 ((wrR nm nn d fx ix ox).2.2.2.length) cO145]) hA rfl rfl rfl (does_extract (vs := [.agg #[.slice sF140 ((wrR nm nn d fx ix ox).2.1.length) cF141, .slice sI142 ((wrR nm nn d fx ix ox).2.2.1.length) cI143, .slice sO144 ((wrR nm nn d fx ix ox).2.2.2.length) cO145], .int .i64 ((wrR nm nn d fx ix ox).1)]) rfl rfl) ?_
         intro a hA
         refine seq_do (v := .int .i64 ((wrR nm nn d fx ix ox).1)) hA rfl rfl rfl (does_extract (vs := [.agg #[.slice sF140 ((wrR nm nn d fx ix ox).2.1.length) cF141, .slice sI142 ((wrR nm nn d fx ix ox).2.2.1.length) cI143, .slice sO144 ((wrR nm nn d fx ix ox).2.2.2.length) cO145], .int .i64 ((wrR nm nn d fx ix ox).1)]) rfl rfl) ?_
         intro a hA
         refine s_store (us := [.slice sF140 ((wrR nm nn d fx ix ox).2.1.length) cF141, .slice sI142 ((wrR nm nn d fx ix ox).2.2.1.length) cI143, .slice sO144 ((wrR nm nn d fx ix ox).2.2.2.length) cO145]) (L' := (.obj g63 (.cells #[.slice none 0 0, .slice none 0 0, .slice none 0 0] 37) :: .obj g61 (.cells #[.slice sF140 ((wrR nm nn d fx ix ox).2.1.length) cF141, .slice sI142 ((wrR nm nn d fx ix ox).2.2.1.length) cI143, .slice sO144 ((wrR nm nn d fx ix ox).2.2.2.length) cO145] 37) :: .obj g53 (.cells #[.slice sF46 fx.length cF47, .slice sI48 ix.length cI49, .slice sO50 ox.length cO51] 37) :: .obj g30 (.cells #[.int .i64 kd, .int .i64 nn, .string nm, .slice sd d.length cd] 41) :: .obj ga (.cells #[.slice sU1 fx.length cU1, .slice sU2 ix.length cU2, .slice sU3 ox.length cU3] 37) :: .obj gb (.cells #[.slice sV1 fx.length cV1, .slice sV2 ix.length cV2, .slice sV3 ox.length cV3] 37) :: .obj g2 (.cells #[.slice sF fs.length cF_, .slice sI il.length cI, .slice sO ol.length cO] 37) :: D137)) hA hM rfl rfl (m_store rfl rfl rfl (by kernel_rfl) hM 1 rfl rfl rfl) 1 rfl rfl rfl ?_
         intro w147 hM
         refine seq_do hA rfl rfl rfl (does_assign rfl) ?_
         intro a hA
         refine seq_end ?_
         refine hK130 _ _ ?_
         replace hA := hA.keep [(1, .slice sS os.length cS), (5, .pointer (some ⟨ga, 0, none⟩)), (6, .pointer (some ⟨gb, 0, none⟩)), (7, .int .i64 (((i : Nat) : Int))), (8, .pointer (some ⟨g30, 0, none⟩)), (9, .pointer (some ⟨g53, 0, none⟩)), (10, .pointer (some ⟨g61, 0, none⟩)), (11, .pointer (some ⟨g63, 0, none⟩)), (12, .slice none 0 0), (13, .slice none 0 0), (14, .int .i64 ((wrR nm nn d fx ix ox).1)), (15, .int .i64 0), (35, .int .i64 kd)] ⟨rfl, rfl, rfl, rfl, rfl, rfl, rfl, rfl, rfl, rfl, rfl, rfl, rfl, trivial⟩
         refine wp_region_lit ?_
         refine seq_do hA rfl rfl rfl (m_loadS hM Wn_isS_37 rfl 5 rfl (cs := [.slice sV1 fx.length cV1, .slice sV2 ix.length cV2, .slice sV3 ox.length cV3]) rfl rfl) ?_
         intro a hA
         refine seq_do (v := .pointer (some ⟨g30, 2, none⟩)) hA rfl rfl rfl (does_field Wn_fld_41_2 rfl rfl) ?_
         intro a hA
         refine seq_do hA rfl rfl rfl (m_load1 hM Wn_is1_9 rfl 3 rfl rfl) ?_
         intro a hA
         refine seq_do (v := .pointer (some ⟨g30, 1, none⟩)) hA rfl rfl rfl (does_field Wn_fld_41_1 rfl rfl) ?_
         intro a hA
         refine seq_do hA rfl rfl rfl (m_load1 hM Wn_is1_3 rfl 3 rfl rfl) ?_
         intro a hA
         refine seq_do (v := .pointer (some ⟨g30, 3, none⟩)) hA rfl rfl rfl (does_field Wn_fld_41_3 rfl rfl) ?_
         intro a hA
         refine seq_do hA rfl rfl rfl (m_load1 hM Wn_is1_24 rfl 3 rfl rfl) ?_
         intro a hA
         have hw148 := RwD.facts hM (hRv.mono (fun c hc => (List.mem_cons_of_mem _ (List.mem_cons_of_mem _ (List.mem_cons_of_mem _ (List.mem_cons_of_mem _ (List.mem_cons_of_mem _ (List.mem_cons_of_mem _ (List.mem_cons_of_mem _ hc)))))))))
         refine seq_call hA rfl rfl rfl (enters_func rfl rfl (fun w => by kernel_rfl)) (rwrite_any (nm := nm) (z := nn) (d := d) (cd := cd) (cF_ := cV1) (cI := cV2) (cO := cV3) (fs := fx) (il := ix) (ol := ox) hw148.1 hw148.2.1 hw148.2.2.1 hBx.n (hbd.below hM.bel) hdl) ?_
         rintro _ w163 ⟨V149, hM150L, rfl, hM150, hnL151, hR152⟩
         obtain ⟨sF157, cF158, sI159, cI160, sO161, cO162, rfl, _⟩ := RwD.open_ hM150 hR152
         obtain ⟨D154, hg153, hnD154, hs155, hs156⟩ := grow [_, _, _, _, _, _, _] (D := D137) hM hM150 (noBld_cons (by simp) (noBld_cons (by simp) (noBld_cons (by simp) (noBld_cons (by simp) (noBld_cons (by simp) (noBld_cons (by simp) (noBld_cons (by simp) hnD137))))))) hnL151
         replace hRu := hRu.mono hs155
         replace hRv := hRv.mono hs155
         replace hR41 := hR41.mono hs155
         replace hz60 := hz60.mono hs155
         replace hR135 := hR135.mono hs155
         replace hR152 := hR152.mono hs156
         replace hM : Mg w w163 (.obj g63 (.cells #[.slice none 0 0, .slice none 0 0, .slice none 0 0] 37) :: .obj g61 (.cells #[.slice sF140 ((wrR nm nn d fx ix ox).2.1.length) cF141, .slice sI142 ((wrR nm nn d fx ix ox).2.2.1.length) cI143, .slice sO144 ((wrR nm nn d fx ix ox).2.2.2.length) cO145] 37) :: .obj g53 (.cells #[.slice sF46 fx.length cF47, .slice sI48 ix.length cI49, .slice sO50 ox.length cO51] 37) :: .obj g30 (.cells #[.int .i64 kd, .int .i64 nn, .string nm, .slice sd d.length cd] 41) :: .obj ga (.cells #[.slice sU1 fx.length cU1, .slice sU2 ix.length cU2, .slice sU3 ox.length cU3] 37) :: .obj gb (.cells #[.slice sV1 fx.length cV1, .slice sV2 ix.length cV2, .slice sV3 ox.length cV3] 37) :: .obj g2 (.cells #[.slice sF fs.length cF_, .slice sI il.length cI, .slice sO ol.length cO] 37) :: D154) := hg153
         refine ⟨_, rfl, ?_⟩
         intro a hA
         refine seq_do hA rfl rfl rfl (does_move rfl) ?_
         intro a hA
         refine seq_do (v := .agg #[.slice sF157 ((wrR nm nn d fx ix ox).2.1.length) cF158, .slice sI159 ((wrR nm nn d fx ix ox).2.2.1.length) cI160, .slice sO161 ((wrR nm nn d fx ix ox).2.2.2.length) cO162]) hA rfl rfl rfl (does_extract (vs := [.agg #[.slice sF157 ((wrR nm nn d fx ix ox).2.1.length) cF158, .slice sI159 ((wrR nm nn d fx ix ox).2.2.1.length) cI160, .slice sO161 ((wrR nm nn d fx ix ox).2.2.2.length) cO162], .int .i64 ((wrR nm nn d fx ix ox).1)]) rfl rfl) ?_
         intro a hA
         refine seq_do (v := .int .i64 ((wrR nm nn d fx ix ox).1)) hA rfl rfl rfl (does_extract (vs := [.agg #[.slice sF157 ((wrR nm nn d fx ix ox).2.1.length) cF158, .slice sI159 ((wrR nm nn d fx ix ox).2.2.1.length) cI160, .slice sO161 ((wrR nm nn d fx ix ox).2.2.2.length) cO162], .int .i64 ((wrR nm nn d fx ix ox).1)]) rfl rfl) ?_
         intro a hA
         refine s_store (us := [.slice sF157 ((wrR nm nn d fx ix ox).2.1.length) cF158, .slice sI159 ((wrR nm nn d fx ix ox).2.2.1.length) cI160, .slice sO161 ((wrR nm nn d fx ix ox).2.2.2.length) cO162]) (L' := (.obj g63 (.cells #[.slice sF157 ((wrR nm nn d fx ix ox).2.1.length) cF158, .slice sI159 ((wrR nm nn d fx ix ox).2.2.1.length) cI160, .slice sO161 ((wrR nm nn d fx ix ox).2.2.2.length) cO162] 37) :: .obj g61 (.cells #[.slice sF140 ((wrR nm nn d fx ix ox).2.1.length) cF141, .slice sI142 ((wrR nm nn d fx ix ox).2.2.1.length) cI143, .slice sO144 ((wrR nm nn d fx ix ox).2.2.2.length) cO145] 37) :: .obj g53 (.cells #[.slice sF46 fx.length cF47, .slice sI48 ix.length cI49, .slice sO50 ox.length cO51] 37) :: .obj g30 (.cells #[.int .i64 kd, .int .i64 nn, .string nm, .slice sd d.length cd] 41) :: .obj ga (.cells #[.slice sU1 fx.length cU1, .slice sU2 ix.length cU2, .slice sU3 ox.length cU3] 37) :: .obj gb (.cells #[.slice sV1 fx.length cV1, .slice sV2 ix.length cV2, .slice sV3 ox.length cV3] 37) :: .obj g2 (.cells #[.slice sF fs.length cF_, .slice sI il.length cI, .slice sO ol.length cO] 37) :: D154)) hA hM rfl rfl (m_store rfl rfl rfl (by kernel_rfl) hM 0 rfl rfl rfl) 0 rfl rfl rfl ?_
         intro w164 hM
         refine seq_do hA rfl rfl rfl (does_assign rfl) ?_
         intro a hA
         refine seq_end ?_
         refine hK67 _ _ ?_
         refine wp_seq_k (fun K165 hK165 => ?_)
         refine wp_seq_k (fun K166 hK166 => ?_)
         replace hA := hA.keep [(1, .slice sS os.length cS), (5, .pointer (some ⟨ga, 0, none⟩)), (6, .pointer (some ⟨gb, 0, none⟩)), (7, .int .i64 (((i : Nat) : Int))), (8, .pointer (some ⟨g30, 0, none⟩)), (9, .pointer (some ⟨g53, 0, none⟩)), (10, .pointer (some ⟨g61, 0, none⟩)), (11, .pointer (some ⟨g63, 0, none⟩)), (12, .slice none 0 0), (13, .slice none 0 0), (14, .int .i64 ((wrR nm nn d fx ix ox).1)), (15, .int .i64 ((wrR nm nn d fx ix ox).1)), (35, .int .i64 kd)] ⟨rfl, rfl, rfl, rfl, rfl, rfl, rfl, rfl, rfl, rfl, rfl, rfl, rfl, trivial⟩
         refine wp_draw (S := fun w1 => Mg w w1 (.obj g63 (.cells #[.slice sF157 ((wrR nm nn d fx ix ox).2.1.length) cF158, .slice sI159 ((wrR nm nn d fx ix ox).2.2.1.length) cI160, .slice sO161 ((wrR nm nn d fx ix ox).2.2.2.length) cO162] 37) :: .obj g61 (.cells #[.slice sF140 ((wrR nm nn d fx ix ox).2.1.length) cF141, .slice sI142 ((wrR nm nn d fx ix ox).2.2.1.length) cI143, .slice sO144 ((wrR nm nn d fx ix ox).2.2.2.length) cO145] 37) :: .obj g53 (.cells #[.slice sF46 fx.length cF47, .slice sI48 ix.length cI49, .slice sO50 ox.length cO51] 37) :: .obj ga (.cells #[.slice sU1 fx.length cU1, .slice sU2 ix.length cU2, .slice sU3 ox.length cU3] 37) :: .obj gb (.cells #[.slice sV1 fx.length cV1, .slice sV2 ix.length cV2, .slice sV3 ox.length cV3] 37) :: [])) (by kernel_rfl) ?_
         replace hM := hM.drew
         refine any_tk hA 0 rfl rfl rfl rfl hP (hM.sub (.cons_cons _ (.cons_cons _ (.cons_cons _ (.cons _ (.cons_cons _ (.cons_cons _ (.cons _ (List.nil_sublist _))))))))) (fun w1 hM => does_move rfl) ?_
         intro a hA
         refine any_tk hA 1 rfl rfl rfl rfl hP (hM.sub (.cons_cons _ (.cons_cons _ (.cons_cons _ (.cons _ (.cons_cons _ (.cons_cons _ (.cons _ (List.nil_sublist _))))))))) (fun w1 hM => does_move rfl) ?_
         intro a hA
         refine any_tk (v := .bool false) hA 2 rfl rfl rfl rfl hP (hM.sub (.cons_cons _ (.cons_cons _ (.cons_cons _ (.cons _ (.cons_cons _ (.cons_cons _ (.cons _ (List.nil_sublist _))))))))) (fun w1 hM => does_bin rfl rfl (fun w => (bin_neq w).trans (by rw [show (((wrR nm nn d fx ix ox).1 != (wrR nm nn d fx ix ox).1)) = false from by simp]))) ?_
         intro a hA
         refine any_tk hA 3 rfl rfl rfl rfl hP (hM.sub (.cons_cons _ (.cons_cons _ (.cons_cons _ (.cons _ (.cons_cons _ (.cons_cons _ (.cons _ (List.nil_sublist _))))))))) (fun w1 hM => does_move rfl) ?_
         intro a hA
         refine any_tk hA 4 rfl rfl rfl rfl hP (hM.sub (.cons_cons _ (.cons_cons _ (.cons_cons _ (.cons _ (.cons_cons _ (.cons_cons _ (.cons _ (List.nil_sublist _))))))))) (fun w1 hM => m_loadS hM Wn_isS_37 rfl 1 rfl (cs := [.slice sF140 ((wrR nm nn d fx ix ox).2.1.length) cF141, .slice sI142 ((wrR nm nn d fx ix ox).2.2.1.length) cI143, .slice sO144 ((wrR nm nn d fx ix ox).2.2.2.length) cO145]) rfl rfl) ?_
         intro a hA
         refine any_tk hA 5 rfl rfl rfl rfl hP (hM.sub (.cons_cons _ (.cons_cons _ (.cons_cons _ (.cons _ (.cons_cons _ (.cons_cons _ (.cons _ (List.nil_sublist _))))))))) (fun w1 hM => m_loadS hM Wn_isS_37 rfl 0 rfl (cs := [.slice sF157 ((wrR nm nn d fx ix ox).2.1.length) cF158, .slice sI159 ((wrR nm nn d fx ix ox).2.2.1.length) cI160, .slice sO161 ((wrR nm nn d fx ix ox).2.2.2.length) cO162]) rfl rfl) ?_
         intro a hA
         have hw167 := RwD.facts hM (hR135.mono (fun c hc => (List.mem_cons_of_mem _ (List.mem_cons_of_mem _ (List.mem_cons_of_mem _ (List.mem_cons_of_mem _ (List.mem_cons_of_mem _ (List.mem_cons_of_mem _ (List.mem_cons_of_mem _ hc)))))))))
         have hw168 := RwD.facts hM (hR152.mono (fun c hc => (List.mem_cons_of_mem _ (List.mem_cons_of_mem _ (List.mem_cons_of_mem _ (List.mem_cons_of_mem _ (List.mem_cons_of_mem _ (List.mem_cons_of_mem _ (List.mem_cons_of_mem _ hc)))))))))
         refine any_one (by kernel_rfl) (op_call hA 6 rfl rfl rfl rfl (enters_func rfl rfl (fun w => by kernel_rfl)) (rsame_as  (b := true) hw167.1 hw167.2.1 hw167.2.2.1 hw168.1 hw168.2.1 hw168.2.2.1 (bd_wr) (Bd.n (bd_wr)) (decide_eq_true ⟨rfl, rfl, rfl⟩)) ?_)
         rintro _ w170 ⟨rfl, hb169⟩
         replace hM := hM.call hb169
         refine ⟨_, rfl, (hM.sub (.cons_cons _ (.cons_cons _ (.cons_cons _ (.cons _ (.cons_cons _ (.cons_cons _ (.cons _ (List.nil_sublist _))))))))), ?_⟩
         intro a hA
         refine any_tk (v := .bool false) hA 7 rfl rfl rfl rfl hP (hM.sub (.cons_cons _ (.cons_cons _ (.cons_cons _ (.cons _ (.cons_cons _ (.cons_cons _ (.cons _ (List.nil_sublist _))))))))) (fun w1 hM => does_un rfl un_not) ?_
         intro a hA
         refine any_tk (v := .bool false) hA 8 rfl rfl rfl rfl hP (hM.sub (.cons_cons _ (.cons_cons _ (.cons_cons _ (.cons _ (.cons_cons _ (.cons_cons _ (.cons _ (List.nil_sublist _))))))))) (fun w1 hM => does_pick rfl rfl rfl rfl) ?_
         intro a hA
         refine any_tk hA 9 rfl rfl rfl rfl hP (hM.sub (.cons_cons _ (.cons_cons _ (.cons_cons _ (.cons _ (.cons_cons _ (.cons_cons _ (.cons _ (List.nil_sublist _))))))))) (fun w1 hM => does_move rfl) ?_
         intro a hA
         refine any_tk hA 10 rfl rfl rfl rfl hP (hM.sub (.cons_cons _ (.cons_cons _ (.cons_cons _ (.cons _ (.cons_cons _ (.cons_cons _ (.cons _ (List.nil_sublist _))))))))) (fun w1 hM => does_move rfl) ?_
         intro a hA
         refine any_tk hA 11 rfl rfl rfl rfl hP (hM.sub (.cons_cons _ (.cons_cons _ (.cons_cons _ (.cons _ (.cons_cons _ (.cons_cons _ (.cons _ (List.nil_sublist _))))))))) (fun w1 hM => does_move rfl) ?_
         intro a hA
         refine any_one (by kernel_rfl) (op_call hA 12 rfl rfl rfl rfl (enters_func rfl rfl (fun w => by kernel_rfl)) (same_as (so := none) (to_ := none) (xs := []) (ys := []) (ca := 0) (cb := 0) (b := true) rb_nil rb_nil (by simp) (decide_eq_true rfl)) ?_)
         rintro _ w172 ⟨rfl, hb171⟩
         replace hM := hM.call hb171
         refine ⟨_, rfl, (hM.sub (.cons_cons _ (.cons_cons _ (.cons_cons _ (.cons _ (.cons_cons _ (.cons_cons _ (.cons _ (List.nil_sublist _))))))))), ?_⟩
         intro a hA
         refine any_tk (v := .bool false) hA 13 rfl rfl rfl rfl hP (hM.sub (.cons_cons _ (.cons_cons _ (.cons_cons _ (.cons _ (.cons_cons _ (.cons_cons _ (.cons _ (List.nil_sublist _))))))))) (fun w1 hM => does_un rfl un_not) ?_
         intro a hA
         refine any_tk (v := .bool false) hA 14 rfl rfl rfl rfl hP (hM.sub (.cons_cons _ (.cons_cons _ (.cons_cons _ (.cons _ (.cons_cons _ (.cons_cons _ (.cons _ (List.nil_sublist _))))))))) (fun w1 hM => does_pick rfl rfl rfl rfl) ?_
         intro a hA
         refine any_tk hA 15 rfl rfl rfl rfl hP (hM.sub (.cons_cons _ (.cons_cons _ (.cons_cons _ (.cons _ (.cons_cons _ (.cons_cons _ (.cons _ (List.nil_sublist _))))))))) (fun w1 hM => does_move rfl) ?_
         intro a hA
         refine any_tk hA 16 rfl rfl rfl rfl hP (hM.sub (.cons_cons _ (.cons_cons _ (.cons_cons _ (.cons _ (.cons_cons _ (.cons_cons _ (.cons _ (List.nil_sublist _))))))))) (fun w1 hM => m_loadS hM Wn_isS_37 rfl 3 rfl (cs := [.slice sU1 fx.length cU1, .slice sU2 ix.length cU2, .slice sU3 ox.length cU3]) rfl rfl) ?_
         intro a hA
         refine any_tk hA 17 rfl rfl rfl rfl hP (hM.sub (.cons_cons _ (.cons_cons _ (.cons_cons _ (.cons _ (.cons_cons _ (.cons_cons _ (.cons _ (List.nil_sublist _))))))))) (fun w1 hM => m_loadS hM Wn_isS_37 rfl 2 rfl (cs := [.slice sF46 fx.length cF47, .slice sI48 ix.length cI49, .slice sO50 ox.length cO51]) rfl rfl) ?_
         intro a hA
         have hw173 := RwD.facts hM (hRu.mono (fun c hc => (List.mem_cons_of_mem _ (List.mem_cons_of_mem _ (List.mem_cons_of_mem _ (List.mem_cons_of_mem _ (List.mem_cons_of_mem _ (List.mem_cons_of_mem _ (List.mem_cons_of_mem _ hc)))))))))
         have hw174 := RwD.facts hM (hR41.mono (fun c hc => (List.mem_cons_of_mem _ (List.mem_cons_of_mem _ (List.mem_cons_of_mem _ (List.mem_cons_of_mem _ (List.mem_cons_of_mem _ (List.mem_cons_of_mem _ (List.mem_cons_of_mem _ hc)))))))))
         refine any_one (by kernel_rfl) (op_call hA 18 rfl rfl rfl rfl (enters_func rfl rfl (fun w => by kernel_rfl)) (rsame_as  (b := true) hw173.1 hw173.2.1 hw173.2.2.1 hw174.1 hw174.2.1 hw174.2.2.1 hBx (Bd.n hBx) (decide_eq_true ⟨rfl, rfl, rfl⟩)) ?_)
         rintro _ w176 ⟨rfl, hb175⟩
         replace hM := hM.call hb175
         refine ⟨_, rfl, (hM.sub (.cons_cons _ (.cons_cons _ (.cons_cons _ (.cons _ (.cons_cons _ (.cons_cons _ (.cons _ (List.nil_sublist _))))))))), ?_⟩
         intro a hA
         refine any_tk (v := .bool false) hA 19 rfl rfl rfl rfl hP (hM.sub (.cons_cons _ (.cons_cons _ (.cons_cons _ (.cons _ (.cons_cons _ (.cons_cons _ (.cons _ (List.nil_sublist _))))))))) (fun w1 hM => does_un rfl un_not) ?_
         intro a hA
         refine any_tk (v := .bool false) hA 20 rfl rfl rfl rfl hP (hM.sub (.cons_cons _ (.cons_cons _ (.cons_cons _ (.cons _ (.cons_cons _ (.cons_cons _ (.cons _ (List.nil_sublist _))))))))) (fun w1 hM => does_pick rfl rfl rfl rfl) ?_
         intro a hA
         refine any_tk hA 21 rfl rfl rfl rfl hP (hM.sub (.cons_cons _ (.cons_cons _ (.cons_cons _ (.cons _ (.cons_cons _ (.cons_cons _ (.cons _ (List.nil_sublist _))))))))) (fun w1 hM => does_move rfl) ?_
         intro a hA
         refine any_tk hA 22 rfl rfl rfl rfl hP (hM.sub (.cons_cons _ (.cons_cons _ (.cons_cons _ (.cons _ (.cons_cons _ (.cons_cons _ (.cons _ (List.nil_sublist _))))))))) (fun w1 hM => m_loadS hM Wn_isS_37 rfl 3 rfl (cs := [.slice sU1 fx.length cU1, .slice sU2 ix.length cU2, .slice sU3 ox.length cU3]) rfl rfl) ?_
         intro a hA
         refine any_tk hA 24 rfl rfl rfl rfl hP (hM.sub (.cons_cons _ (.cons_cons _ (.cons_cons _ (.cons _ (.cons_cons _ (.cons_cons _ (.cons _ (List.nil_sublist _))))))))) (fun w1 hM => m_loadS hM Wn_isS_37 rfl 4 rfl (cs := [.slice sV1 fx.length cV1, .slice sV2 ix.length cV2, .slice sV3 ox.length cV3]) rfl rfl) ?_
         intro a hA
         have hw177 := RwD.facts hM (hRu.mono (fun c hc => (List.mem_cons_of_mem _ (List.mem_cons_of_mem _ (List.mem_cons_of_mem _ (List.mem_cons_of_mem _ (List.mem_cons_of_mem _ (List.mem_cons_of_mem _ (List.mem_cons_of_mem _ hc)))))))))
         refine any_one (by kernel_rfl) (op_call hA 23 rfl rfl rfl rfl (enters_func rfl rfl (fun w => by kernel_rfl)) (sound_any (cF_ := cU1) (cI := cU2) (cO := cU3) (fs := fx) (il := ix) (ol := ox) hw177.1 hBx.n) ?_)
         rintro _ w179 ⟨rfl, hb178⟩
         replace hM := hM.call hb178
         refine ⟨_, rfl, (hM.sub (.cons_cons _ (.cons_cons _ (.cons_cons _ (.cons _ (.cons_cons _ (.cons_cons _ (.cons _ (List.nil_sublist _))))))))), ?_⟩
         intro a hA
         have hw180 := RwD.facts hM (hRv.mono (fun c hc => (List.mem_cons_of_mem _ (List.mem_cons_of_mem _ (List.mem_cons_of_mem _ (List.mem_cons_of_mem _ (List.mem_cons_of_mem _ (List.mem_cons_of_mem _ (List.mem_cons_of_mem _ hc)))))))))
         refine any_one (by kernel_rfl) (op_call hA 25 rfl rfl rfl rfl (enters_func rfl rfl (fun w => by kernel_rfl)) (rsound_any (cF_ := cV1) (cI := cV2) (cO := cV3) (fs := fx) (il := ix) (ol := ox) hw180.1 hBx.n) ?_)
         rintro _ w182 ⟨rfl, hb181⟩
         replace hM := hM.call hb181
         refine ⟨_, rfl, (hM.sub (.cons_cons _ (.cons_cons _ (.cons_cons _ (.cons _ (.cons_cons _ (.cons_cons _ (.cons _ (List.nil_sublist _))))))))), ?_⟩
         intro a hA
         refine any_tk (v := .bool false) hA 26 rfl rfl rfl rfl hP (hM.sub (.cons_cons _ (.cons_cons _ (.cons_cons _ (.cons _ (.cons_cons _ (.cons_cons _ (.cons _ (List.nil_sublist _))))))))) (fun w1 hM => does_bin rfl rfl (fun w => ((bin_neqB Try.underlying4) w).trans (by rw [show (!(soundS fx ix ox == soundS fx ix ox)) = false from by simp]))) ?_
         intro a hA
         refine any_tk (v := .bool false) hA 27 rfl rfl rfl rfl hP (hM.sub (.cons_cons _ (.cons_cons _ (.cons_cons _ (.cons _ (.cons_cons _ (.cons_cons _ (.cons _ (List.nil_sublist _))))))))) (fun w1 hM => does_pick rfl rfl rfl rfl) ?_
         intro a hA
         refine any_end (by kernel_rfl) ?_
         refine hK166 _ _ ?_
         refine wp_cond_false (hA.ev rfl) ?_
         refine wp_skip ?_
         refine hK165 _ _ ?_
         refine wp_seq_k (fun K183 hK183 => ?_)
         replace hA := hA.keep [(1, .slice sS os.length cS), (5, .pointer (some ⟨ga, 0, none⟩)), (6, .pointer (some ⟨gb, 0, none⟩)), (7, .int .i64 (((i : Nat) : Int))), (8, .pointer (some ⟨g30, 0, none⟩)), (9, .pointer (some ⟨g53, 0, none⟩)), (10, .pointer (some ⟨g61, 0, none⟩)), (11, .pointer (some ⟨g63, 0, none⟩)), (12, .slice none 0 0), (13, .slice none 0 0), (14, .int .i64 ((wrR nm nn d fx ix ox).1)), (15, .int .i64 ((wrR nm nn d fx ix ox).1)), (35, .int .i64 kd)] ⟨rfl, rfl, rfl, rfl, rfl, rfl, rfl, rfl, rfl, rfl, rfl, rfl, rfl, trivial⟩
         refine wp_region_lit ?_
         refine seq_do hA rfl rfl rfl (does_move rfl) ?_
         intro a hA
         rcases Bool.eq_false_or_eq_true (((wrR nm nn d fx ix ox).1 == 0)) with hb184 | hb184
         · have hb184' := eq_of_beq hb184
           refine seq_do (v := .bool true) hA rfl rfl rfl (does_bin rfl rfl (fun w => (bin_eql w).trans (by rw [hb184]))) ?_
           intro a hA
           refine seq_do hA rfl rfl rfl (does_move rfl) ?_
           intro a hA
           refine seq_do (v := .pointer (some ⟨g30, 0, none⟩)) hA rfl rfl rfl (does_field Wn_fld_41_0 rfl rfl) ?_
           intro a hA
           refine seq_do hA rfl rfl rfl (m_load1 hM Wn_is1_3 rfl 3 rfl rfl) ?_
           intro a hA
           refine seq_do (v := .bool true) hA rfl rfl rfl (does_bin rfl rfl (fun w => (bin_geq w).trans (by rw [show (decide (1 ≤ kd)) = true from decide_eq_true (by omega)]))) ?_
           intro a hA
           refine seq_do (v := .bool true) hA rfl rfl rfl (does_pick rfl rfl rfl rfl) ?_
           intro a hA
           refine seq_do hA rfl rfl rfl (does_move rfl) ?_
           intro a hA
           refine seq_do (v := .pointer (some ⟨g30, 0, none⟩)) hA rfl rfl rfl (does_field Wn_fld_41_0 rfl rfl) ?_
           intro a hA
           refine seq_do hA rfl rfl rfl (m_load1 hM Wn_is1_3 rfl 3 rfl rfl) ?_
           intro a hA
           refine seq_do (v := .bool true) hA rfl rfl rfl (does_bin rfl rfl (fun w => (bin_leq w).trans (by rw [show (decide (kd ≤ 5)) = true from decide_eq_true (by omega)]))) ?_
           intro a hA
           refine seq_do (v := .bool true) hA rfl rfl rfl (does_pick rfl rfl rfl rfl) ?_
           intro a hA
           refine seq_end ?_
           refine hK183 _ _ ?_
           refine wp_cond_true (hA.ev rfl) ?_
           replace hA := hA.keep [(1, .slice sS os.length cS), (5, .pointer (some ⟨ga, 0, none⟩)), (6, .pointer (some ⟨gb, 0, none⟩)), (7, .int .i64 (((i : Nat) : Int))), (8, .pointer (some ⟨g30, 0, none⟩)), (9, .pointer (some ⟨g53, 0, none⟩)), (10, .pointer (some ⟨g61, 0, none⟩)), (11, .pointer (some ⟨g63, 0, none⟩)), (12, .slice none 0 0), (13, .slice none 0 0), (14, .int .i64 ((wrR nm nn d fx ix ox).1)), (15, .int .i64 ((wrR nm nn d fx ix ox).1)), (35, .int .i64 kd)] ⟨rfl, rfl, rfl, rfl, rfl, rfl, rfl, rfl, rfl, rfl, rfl, rfl, rfl, trivial⟩
           refine wp_draw (S := fun w1 => Mg w w1 (.obj g63 (.cells #[.slice sF157 ((wrR nm nn d fx ix ox).2.1.length) cF158, .slice sI159 ((wrR nm nn d fx ix ox).2.2.1.length) cI160, .slice sO161 ((wrR nm nn d fx ix ox).2.2.2.length) cO162] 37) :: .obj g61 (.cells #[.slice sF140 ((wrR nm nn d fx ix ox).2.1.length) cF141, .slice sI142 ((wrR nm nn d fx ix ox).2.2.1.length) cI143, .slice sO144 ((wrR nm nn d fx ix ox).2.2.2.length) cO145] 37) :: [])) (by kernel_rfl) ?_
           replace hM := hM.drew
           refine any_tk hA 0 rfl rfl rfl rfl hP (hM.sub (.cons_cons _ (.cons_cons _ (.cons _ (.cons _ (.cons _ (.cons _ (.cons _ (List.nil_sublist _))))))))) (fun w1 hM => m_loadS hM Wn_isS_37 rfl 1 rfl (cs := [.slice sF140 ((wrR nm nn d fx ix ox).2.1.length) cF141, .slice sI142 ((wrR nm nn d fx ix ox).2.2.1.length) cI143, .slice sO144 ((wrR nm nn d fx ix ox).2.2.2.length) cO145]) rfl rfl) ?_
           intro a hA
           refine any_tk hA 1 rfl rfl rfl rfl hP (hM.sub (.cons_cons _ (.cons_cons _ (.cons _ (.cons _ (.cons _ (.cons _ (.cons _ (List.nil_sublist _))))))))) (fun w1 hM => m_loadS hM Wn_isS_37 rfl 0 rfl (cs := [.slice sF157 ((wrR nm nn d fx ix ox).2.1.length) cF158, .slice sI159 ((wrR nm nn d fx ix ox).2.2.1.length) cI160, .slice sO161 ((wrR nm nn d fx ix ox).2.2.2.length) cO162]) rfl rfl) ?_
           intro a hA
           refine any_one (by kernel_rfl) (g_store (us := [.slice sF140 ((wrR nm nn d fx ix ox).2.1.length) cF141, .slice sI142 ((wrR nm nn d fx ix ox).2.2.1.length) cI143, .slice sO144 ((wrR nm nn d fx ix ox).2.2.2.length) cO145]) (L' := (.obj g63 (.cells #[.slice sF157 ((wrR nm nn d fx ix ox).2.1.length) cF158, .slice sI159 ((wrR nm nn d fx ix ox).2.2.1.length) cI160, .slice sO161 ((wrR nm nn d fx ix ox).2.2.2.length) cO162] 37) :: .obj g61 (.cells #[.slice sF140 ((wrR nm nn d fx ix ox).2.1.length) cF141, .slice sI142 ((wrR nm nn d fx ix ox).2.2.1.length) cI143, .slice sO144 ((wrR nm nn d fx ix ox).2.2.2.length) cO145] 37) :: .obj g53 (.cells #[.slice sF46 fx.length cF47, .slice sI48 ix.length cI49, .slice sO50 ox.length cO51] 37) :: .obj g30 (.cells #[.int .i64 kd, .int .i64 nn, .string nm, .slice sd d.length cd] 41) :: .obj ga (.cells #[.slice sF140 ((wrR nm nn d fx ix ox).2.1.length) cF141, .slice sI142 ((wrR nm nn d fx ix ox).2.2.1.length) cI143, .slice sO144 ((wrR nm nn d fx ix ox).2.2.2.length) cO145] 37) :: .obj gb (.cells #[.slice sV1 fx.length cV1, .slice sV2 ix.length cV2, .slice sV3 ox.length cV3] 37) :: .obj g2 (.cells #[.slice sF fs.length cF_, .slice sI il.length cI, .slice sO ol.length cO] 37) :: D154)) hA hM 2 rfl rfl rfl (m_store rfl rfl rfl (by kernel_rfl) hM 4 rfl rfl rfl) 4 rfl rfl rfl ?_)
           intro w185 hM
           refine ⟨(hM.sub (.cons_cons _ (.cons_cons _ (.cons _ (.cons _ (.cons _ (.cons _ (.cons _ (List.nil_sublist _))))))))), ?_⟩
           refine any_one (by kernel_rfl) (g_store (us := [.slice sF157 ((wrR nm nn d fx ix ox).2.1.length) cF158, .slice sI159 ((wrR nm nn d fx ix ox).2.2.1.length) cI160, .slice sO161 ((wrR nm nn d fx ix ox).2.2.2.length) cO162]) (L' := (.obj g63 (.cells #[.slice sF157 ((wrR nm nn d fx ix ox).2.1.length) cF158, .slice sI159 ((wrR nm nn d fx ix ox).2.2.1.length) cI160, .slice sO161 ((wrR nm nn d fx ix ox).2.2.2.length) cO162] 37) :: .obj g61 (.cells #[.slice sF140 ((wrR nm nn d fx ix ox).2.1.length) cF141, .slice sI142 ((wrR nm nn d fx ix ox).2.2.1.length) cI143, .slice sO144 ((wrR nm nn d fx ix ox).2.2.2.length) cO145] 37) :: .obj g53 (.cells #[.slice sF46 fx.length cF47, .slice sI48 ix.length cI49, .slice sO50 ox.length cO51] 37) :: .obj g30 (.cells #[.int .i64 kd, .int .i64 nn, .string nm, .slice sd d.length cd] 41) :: .obj ga (.cells #[.slice sF140 ((wrR nm nn d fx ix ox).2.1.length) cF141, .slice sI142 ((wrR nm nn d fx ix ox).2.2.1.length) cI143, .slice sO144 ((wrR nm nn d fx ix ox).2.2.2.length) cO145] 37) :: .obj gb (.cells #[.slice sF157 ((wrR nm nn d fx ix ox).2.1.length) cF158, .slice sI159 ((wrR nm nn d fx ix ox).2.2.1.length) cI160, .slice sO161 ((wrR nm nn d fx ix ox).2.2.2.length) cO162] 37) :: .obj g2 (.cells #[.slice sF fs.length cF_, .slice sI il.length cI, .slice sO ol.length cO] 37) :: D154)) hA hM 3 rfl rfl rfl (m_store rfl rfl rfl (by kernel_rfl) hM 5 rfl rfl rfl) 5 rfl rfl rfl ?_)
           intro w186 hM
           refine ⟨(hM.sub (.cons_cons _ (.cons_cons _ (.cons _ (.cons _ (.cons _ (.cons _ (.cons _ (List.nil_sublist _))))))))), ?_⟩
           refine any_end (by kernel_rfl) ?_
           refine hK19 _ _ ?_
           replace hA := hA.keep [(1, .slice sS os.length cS), (5, .pointer (some ⟨ga, 0, none⟩)), (6, .pointer (some ⟨gb, 0, none⟩)), (7, .int .i64 (((i : Nat) : Int))), (8, .pointer (some ⟨g30, 0, none⟩)), (9, .pointer (some ⟨g53, 0, none⟩)), (10, .pointer (some ⟨g61, 0, none⟩)), (11, .pointer (some ⟨g63, 0, none⟩)), (12, .slice none 0 0), (13, .slice none 0 0), (14, .int .i64 ((wrR nm nn d fx ix ox).1)), (15, .int .i64 ((wrR nm nn d fx ix ox).1)), (35, .int .i64 kd)] ⟨rfl, rfl, rfl, rfl, rfl, rfl, rfl, rfl, rfl, rfl, rfl, rfl, rfl, trivial⟩
           refine wp_region_lit ?_
           refine seq_do hA rfl rfl rfl (does_move rfl) ?_
           intro a hA
           refine seq_do (v := .int .i64 (((i + 1 : Nat) : Int))) hA rfl rfl rfl (does_bin rfl rfl (ar_add ((in_i64 (by omega) (by omega)).trans (by omega)))) ?_
           intro a hA
           refine seq_do hA rfl rfl rfl (does_assign rfl) ?_
           intro a hA
           refine seq_end ?_
           replace hM : Mg w w186 (.obj ga (.cells #[.slice sF140 ((wrR nm nn d fx ix ox).2.1.length) cF141, .slice sI142 ((wrR nm nn d fx ix ox).2.2.1.length) cI143, .slice sO144 ((wrR nm nn d fx ix ox).2.2.2.length) cO145] 37) :: .obj gb (.cells #[.slice sF157 ((wrR nm nn d fx ix ox).2.1.length) cF158, .slice sI159 ((wrR nm nn d fx ix ox).2.2.1.length) cI160, .slice sO161 ((wrR nm nn d fx ix ox).2.2.2.length) cO162] 37) :: .obj g2 (.cells #[.slice sF fs.length cF_, .slice sI il.length cI, .slice sO ol.length cO] 37) :: D154) := by
             have h9 := hM.sub (.cons _ (.cons _ (.cons _ (.cons _ (.cons_cons _ (.cons_cons _ (.cons_cons _ (.refl _))))))))
             exact h9
           refine hK14 _ _ _ (by omega) ⟨i + 1, (wrR nm nn d fx ix ox).2.1, (wrR nm nn d fx ix ox).2.2.1, (wrR nm nn d fx ix ox).2.2.2, sF140, cF141, sI142, cI143, sO144, cO145, sF157, cF158, sI159, cI160, sO161, cO162, D154, rfl, ⟨hR135, hR152, hnD154, (bd_wr), by omega⟩, hA.keep _ ⟨rfl, rfl, rfl, rfl, trivial⟩, hM⟩
         · have hb184' := ne_of_beq_false hb184
           refine seq_do (v := .bool false) hA rfl rfl rfl (does_bin rfl rfl (fun w => (bin_eql w).trans (by rw [hb184]))) ?_
           intro a hA
           refine seq_do hA rfl rfl rfl (does_move rfl) ?_
           intro a hA
           refine seq_skip hA rfl rfl rfl ?_
           intro a hA
           refine seq_skip hA rfl rfl rfl ?_
           intro a hA
           refine seq_skip hA rfl rfl rfl ?_
           intro a hA
           refine seq_do (v := .bool false) hA rfl rfl rfl (does_pick rfl rfl rfl rfl) ?_
           intro a hA
           refine seq_do hA rfl rfl rfl (does_move rfl) ?_
           intro a hA
           refine seq_skip hA rfl rfl rfl ?_
           intro a hA
           refine seq_skip hA rfl rfl rfl ?_
           intro a hA
           refine seq_skip hA rfl rfl rfl ?_
           intro a hA
           refine seq_do (v := .bool false) hA rfl rfl rfl (does_pick rfl rfl rfl rfl) ?_
           intro a hA
           refine seq_end ?_
           refine hK183 _ _ ?_
           refine wp_cond_false (hA.ev rfl) ?_
           refine wp_skip ?_
           refine hK19 _ _ ?_
           replace hA := hA.keep [(1, .slice sS os.length cS), (5, .pointer (some ⟨ga, 0, none⟩)), (6, .pointer (some ⟨gb, 0, none⟩)), (7, .int .i64 (((i : Nat) : Int))), (8, .pointer (some ⟨g30, 0, none⟩)), (9, .pointer (some ⟨g53, 0, none⟩)), (10, .pointer (some ⟨g61, 0, none⟩)), (11, .pointer (some ⟨g63, 0, none⟩)), (12, .slice none 0 0), (13, .slice none 0 0), (14, .int .i64 ((wrR nm nn d fx ix ox).1)), (15, .int .i64 ((wrR nm nn d fx ix ox).1)), (35, .int .i64 kd)] ⟨rfl, rfl, rfl, rfl, rfl, rfl, rfl, rfl, rfl, rfl, rfl, rfl, rfl, trivial⟩
           refine wp_region_lit ?_
           refine seq_do hA rfl rfl rfl (does_move rfl) ?_
           intro a hA
           refine seq_do (v := .int .i64 (((i + 1 : Nat) : Int))) hA rfl rfl rfl (does_bin rfl rfl (ar_add ((in_i64 (by omega) (by omega)).trans (by omega)))) ?_
           intro a hA
           refine seq_do hA rfl rfl rfl (does_assign rfl) ?_
           intro a hA
           refine seq_end ?_
           replace hM : Mg w w182 (.obj ga (.cells #[.slice sU1 fx.length cU1, .slice sU2 ix.length cU2, .slice sU3 ox.length cU3] 37) :: .obj gb (.cells #[.slice sV1 fx.length cV1, .slice sV2 ix.length cV2, .slice sV3 ox.length cV3] 37) :: .obj g2 (.cells #[.slice sF fs.length cF_, .slice sI il.length cI, .slice sO ol.length cO] 37) :: D154) := by
             have h9 := hM.sub (.cons _ (.cons _ (.cons _ (.cons _ (.cons_cons _ (.cons_cons _ (.cons_cons _ (.refl _))))))))
             exact h9
           refine hK14 _ _ _ (by omega) ⟨i + 1, fx, ix, ox, sU1, cU1, sU2, cU2, sU3, cU3, sV1, cV1, sV2, cV2, sV3, cV3, D154, rfl, ⟨hRu, hRv, hnD154, hBx, by omega⟩, hA.keep _ ⟨rfl, rfl, rfl, rfl, trivial⟩, hM⟩
       · have hb129' := ne_of_beq_false hb129
         refine seq_do (v := .bool false) hA rfl rfl rfl (does_bin rfl rfl (fun w => (bin_eql w).trans (by rw [hb129]))) ?_
         intro a hA
         refine seq_do hA rfl rfl rfl (does_assign rfl) ?_
         intro a hA
         refine seq_end ?_
         refine hK128 _ _ ?_
         refine wp_cond_false (hA.ev rfl) ?_
         refine wp_seq_k (fun K187 hK187 => ?_)
         replace hA := hA.keep [(1, .slice sS os.length cS), (5, .pointer (some ⟨ga, 0, none⟩)), (6, .pointer (some ⟨gb, 0, none⟩)), (7, .int .i64 (((i : Nat) : Int))), (8, .pointer (some ⟨g30, 0, none⟩)), (9, .pointer (some ⟨g53, 0, none⟩)), (10, .pointer (some ⟨g61, 0, none⟩)), (11, .pointer (some ⟨g63, 0, none⟩)), (12, .slice none 0 0), (13, .slice none 0 0), (14, .int .i64 0), (15, .int .i64 0), (35, .int .i64 kd)] ⟨rfl, rfl, rfl, rfl, rfl, rfl, rfl, rfl, rfl, rfl, rfl, rfl, rfl, trivial⟩
         refine wp_region_lit ?_
         rcases Bool.eq_false_or_eq_true ((kd == 3)) with hb188 | hb188
         · have hb188' := eq_of_beq hb188
           refine seq_do (v := .bool true) hA rfl rfl rfl (does_bin rfl rfl (fun w => (bin_eql w).trans (by rw [hb188]))) ?_
           intro a hA
           refine seq_do hA rfl rfl rfl (does_assign rfl) ?_
           intro a hA
           refine seq_end ?_
           refine hK187 _ _ ?_
           refine wp_cond_true (hA.ev rfl) ?_
           refine wp_seq_k (fun K189 hK189 => ?_)
           replace hA := hA.keep [(1, .slice sS os.length cS), (5, .pointer (some ⟨ga, 0, none⟩)), (6, .pointer (some ⟨gb, 0, none⟩)), (7, .int .i64 (((i : Nat) : Int))), (8, .pointer (some ⟨g30, 0, none⟩)), (9, .pointer (some ⟨g53, 0, none⟩)), (10, .pointer (some ⟨g61, 0, none⟩)), (11, .pointer (some ⟨g63, 0, none⟩)), (12, .slice none 0 0), (13, .slice none 0 0), (14, .int .i64 0), (15, .int .i64 0), (35, .int .i64 kd)] ⟨rfl, rfl, rfl, rfl, rfl, rfl, rfl, rfl, rfl, rfl, rfl, rfl, rfl, trivial⟩
           refine wp_region_lit ?_
           refine seq_do hA rfl rfl rfl (m_loadS hM Wn_isS_37 rfl 4 rfl (cs := [.slice sU1 fx.length cU1, .slice sU2 ix.length cU2, .slice sU3 ox.length cU3]) rfl rfl) ?_
           intro a hA
           refine seq_do (v := .pointer (some ⟨g30, 2, none⟩)) hA rfl rfl rfl (does_field Wn_fld_41_2 rfl rfl) ?_
           intro a hA
           refine seq_do hA rfl rfl rfl (m_load1 hM Wn_is1_9 rfl 3 rfl rfl) ?_
           intro a hA
           have hw190 := RwD.facts hM (hRu.mono (fun c hc => (List.mem_cons_of_mem _ (List.mem_cons_of_mem _ (List.mem_cons_of_mem _ (List.mem_cons_of_mem _ (List.mem_cons_of_mem _ (List.mem_cons_of_mem _ (List.mem_cons_of_mem _ hc)))))))))
           refine seq_call hA rfl rfl rfl (enters_func rfl rfl (fun w => by kernel_rfl)) (del_any (nm := nm) (cF_ := cU1) (cI := cU2) (cO := cU3) (fs := fx) (il := ix) (ol := ox) hw190.1 hw190.2.1 hw190.2.2.1 hBx.n ) ?_
           rintro _ w205 ⟨V191, hM192L, rfl, hM192, hnL193, hR194⟩
           obtain ⟨sF199, cF200, sI201, cI202, sO203, cO204, rfl, _⟩ := RwD.open_ hM192 hR194
           obtain ⟨D196, hg195, hnD196, hs197, hs198⟩ := grow [_, _, _, _, _, _, _] (D := D58) hM hM192 (noBld_cons (by simp) (noBld_cons (by simp) (noBld_cons (by simp) (noBld_cons (by simp) (noBld_cons (by simp) (noBld_cons (by simp) (noBld_cons (by simp) hnD58))))))) hnL193
           replace hRu := hRu.mono hs197
           replace hRv := hRv.mono hs197
           replace hR41 := hR41.mono hs197
           replace hz60 := hz60.mono hs197
           replace hR194 := hR194.mono hs198
           replace hM : Mg w w205 (.obj g63 (.cells #[.slice none 0 0, .slice none 0 0, .slice none 0 0] 37) :: .obj g61 (.cells #[.slice none 0 0, .slice none 0 0, .slice none 0 0] 37) :: .obj g53 (.cells #[.slice sF46 fx.length cF47, .slice sI48 ix.length cI49, .slice sO50 ox.length cO51] 37) :: .obj g30 (.cells #[.int .i64 kd, .int .i64 nn, .string nm, .slice sd d.length cd] 41) :: .obj ga (.cells #[.slice sU1 fx.length cU1, .slice sU2 ix.length cU2, .slice sU3 ox.length cU3] 37) :: .obj gb (.cells #[.slice sV1 fx.length cV1, .slice sV2 ix.length cV2, .slice sV3 ox.length cV3] 37) :: .obj g2 (.cells #[.slice sF fs.length cF_, .slice sI il.length cI, .slice sO ol.length cO] 37) :: D196) := hg195
           refine ⟨_, rfl, ?_⟩
           intro a hA
           refine seq_do hA rfl rfl rfl (does_move rfl) ?_
           intro a hA
           refine seq_do (v := .agg #[.slice sF199 ((delR nm fx ix ox).2.1.length) cF200, .slice sI201 ((delR nm fx ix ox).2.2.1.length) cI202, .slice sO203 ((delR nm fx ix ox).2.2.2.length) cO204]) hA rfl rfl rfl (does_extract (vs := [.agg #[.slice sF199 ((delR nm fx ix ox).2.1.length) cF200, .slice sI201 ((delR nm fx ix ox).2.2.1.length) cI202, .slice sO203 ((delR nm fx ix ox).2.2.2.length) cO204], .int .i64 ((delR nm fx ix ox).1)]) rfl rfl) ?_
           intro a hA
           refine seq_do (v := .int .i64 ((delR nm fx ix ox).1)) hA rfl rfl rfl (does_extract (vs := [.agg #[.slice sF199 ((delR nm fx ix ox).2.1.length) cF200, .slice sI201 ((delR nm fx ix ox).2.2.1.length) cI202, .slice sO203 ((delR nm fx ix ox).2.2.2.length) cO204], .int .i64 ((delR nm fx ix ox).1)]) rfl rfl) ?_
           intro a hA
           refine s_store (us := [.slice sF199 ((delR nm fx ix ox).2.1.length) cF200, .slice sI201 ((delR nm fx ix ox).2.2.1.length) cI202, .slice sO203 ((delR nm fx ix ox).2.2.2.length) cO204]) (L' := (.obj g63 (.cells #[.slice none 0 0, .slice none 0 0, .slice none 0 0] 37) :: .obj g61 (.cells #[.slice sF199 ((delR nm fx ix ox).2.1.length) cF200, .slice sI201 ((delR nm fx ix ox).2.2.1.length) cI202, .slice sO203 ((delR nm fx ix ox).2.2.2.length) cO204] 37) :: .obj g53 (.cells #[.slice sF46 fx.length cF47, .slice sI48 ix.length cI49, .slice sO50 ox.length cO51] 37) :: .obj g30 (.cells #[.int .i64 kd, .int .i64 nn, .string nm, .slice sd d.length cd] 41) :: .obj ga (.cells #[.slice sU1 fx.length cU1, .slice sU2 ix.length cU2, .slice sU3 ox.length cU3] 37) :: .obj gb (.cells #[.slice sV1 fx.length cV1, .slice sV2 ix.length cV2, .slice sV3 ox.length cV3] 37) :: .obj g2 (.cells #[.slice sF fs.length cF_, .slice sI il.length cI, .slice sO ol.length cO] 37) :: D196)) hA hM rfl rfl (m_store rfl rfl rfl (by kernel_rfl) hM 1 rfl rfl rfl) 1 rfl rfl rfl ?_
           intro w206 hM
           refine seq_do hA rfl rfl rfl (does_assign rfl) ?_
           intro a hA
           refine seq_end ?_
           refine hK189 _ _ ?_
           replace hA := hA.keep [(1, .slice sS os.length cS), (5, .pointer (some ⟨ga, 0, none⟩)), (6, .pointer (some ⟨gb, 0, none⟩)), (7, .int .i64 (((i : Nat) : Int))), (8, .pointer (some ⟨g30, 0, none⟩)), (9, .pointer (some ⟨g53, 0, none⟩)), (10, .pointer (some ⟨g61, 0, none⟩)), (11, .pointer (some ⟨g63, 0, none⟩)), (12, .slice none 0 0), (13, .slice none 0 0), (14, .int .i64 ((delR nm fx ix ox).1)), (15, .int .i64 0), (35, .int .i64 kd)] ⟨rfl, rfl, rfl, rfl, rfl, rfl, rfl, rfl, rfl, rfl, rfl, rfl, rfl, trivial⟩
           refine wp_region_lit ?_
           refine seq_do hA rfl rfl rfl (m_loadS hM Wn_isS_37 rfl 5 rfl (cs := [.slice sV1 fx.length cV1, .slice sV2 ix.length cV2, .slice sV3 ox.length cV3]) rfl rfl) ?_
           intro a hA
           refine seq_do (v := .pointer (some ⟨g30, 2, none⟩)) hA rfl rfl rfl (does_field Wn_fld_41_2 rfl rfl) ?_
           intro a hA
           refine seq_do hA rfl rfl rfl (m_load1 hM Wn_is1_9 rfl 3 rfl rfl) ?_
           intro a hA
           have hw207 := RwD.facts hM (hRv.mono (fun c hc => (List.mem_cons_of_mem _ (List.mem_cons_of_mem _ (List.mem_cons_of_mem _ (List.mem_cons_of_mem _ (List.mem_cons_of_mem _ (List.mem_cons_of_mem _ (List.mem_cons_of_mem _ hc)))))))))
           refine seq_call hA rfl rfl rfl (enters_func rfl rfl (fun w => by kernel_rfl)) (rdel_any (nm := nm) (cF_ := cV1) (cI := cV2) (cO := cV3) (fs := fx) (il := ix) (ol := ox) hw207.1 hw207.2.1 hw207.2.2.1 hBx.n ) ?_
           rintro _ w222 ⟨V208, hM209L, rfl, hM209, hnL210, hR211⟩
           obtain ⟨sF216, cF217, sI218, cI219, sO220, cO221, rfl, _⟩ := RwD.open_ hM209 hR211
           obtain ⟨D213, hg212, hnD213, hs214, hs215⟩ := grow [_, _, _, _, _, _, _] (D := D196) hM hM209 (noBld_cons (by simp) (noBld_cons (by simp) (noBld_cons (by simp) (noBld_cons (by simp) (noBld_cons (by simp) (noBld_cons (by simp) (noBld_cons (by simp) hnD196))))))) hnL210
           replace hRu := hRu.mono hs214
           replace hRv := hRv.mono hs214
           replace hR41 := hR41.mono hs214
           replace hz60 := hz60.mono hs214
           replace hR194 := hR194.mono hs214
           replace hR211 := hR211.mono hs215
           replace hM : Mg w w222 (.obj g63 (.cells #[.slice none 0 0, .slice none 0 0, .slice none 0 0] 37) :: .obj g61 (.cells #[.slice sF199 ((delR nm fx ix ox).2.1.length) cF200, .slice sI201 ((delR nm fx ix ox).2.2.1.length) cI202, .slice sO203 ((delR nm fx ix ox).2.2.2.length) cO204] 37) :: .obj g53 (.cells #[.slice sF46 fx.length cF47, .slice sI48 ix.length cI49, .slice sO50 ox.length cO51] 37) :: .obj g30 (.cells #[.int .i64 kd, .int .i64 nn, .string nm, .slice sd d.length cd] 41) :: .obj ga (.cells #[.slice sU1 fx.length cU1, .slice sU2 ix.length cU2, .slice sU3 ox.length cU3] 37) :: .obj gb (.cells #[.slice sV1 fx.length cV1, .slice sV2 ix.length cV2, .slice sV3 ox.length cV3] 37) :: .obj g2 (.cells #[.slice sF fs.length cF_, .slice sI il.length cI, .slice sO ol.length cO] 37) :: D213) := hg212
           refine ⟨_, rfl, ?_⟩
           intro a hA
           refine seq_do hA rfl rfl rfl (does_move rfl) ?_
           intro a hA
           refine seq_do (v := .agg #[.slice sF216 ((delR nm fx ix ox).2.1.length) cF217, .slice sI218 ((delR nm fx ix ox).2.2.1.length) cI219, .slice sO220 ((delR nm fx ix ox).2.2.2.length) cO221]) hA rfl rfl rfl (does_extract (vs := [.agg #[.slice sF216 ((delR nm fx ix ox).2.1.length) cF217, .slice sI218 ((delR nm fx ix ox).2.2.1.length) cI219, .slice sO220 ((delR nm fx ix ox).2.2.2.length) cO221], .int .i64 ((delR nm fx ix ox).1)]) rfl rfl) ?_
           intro a hA
           refine seq_do (v := .int .i64 ((delR nm fx ix ox).1)) hA rfl rfl rfl (does_extract (vs := [.agg #[.slice sF216 ((delR nm fx ix ox).2.1.length) cF217, .slice sI218 ((delR nm fx ix ox).2.2.1.length) cI219, .slice sO220 ((delR nm fx ix ox).2.2.2.length) cO221], .int .i64 ((delR nm fx ix ox).1)]) rfl rfl) ?_
           intro a hA
           refine s_store (us := [.slice sF216 ((delR nm fx ix ox).2.1.length) cF217, .slice sI218 ((delR nm fx ix ox).2.2.1.length) cI219, .slice sO220 ((delR nm fx ix ox).2.2.2.length) cO221]) (L' := (.obj g63 (.cells #[.slice sF216 ((delR nm fx ix ox).2.1.length) cF217, .slice sI218 ((delR nm fx ix ox).2.2.1.length) cI219, .slice sO220 ((delR nm fx ix ox).2.2.2.length) cO221] 37) :: .obj g61 (.cells #[.slice sF199 ((delR nm fx ix ox).2.1.length) cF200, .slice sI201 ((delR nm fx ix ox).2.2.1.length) cI202, .slice sO203 ((delR nm fx ix ox).2.2.2.length) cO204] 37) :: .obj g53 (.cells #[.slice sF46 fx.length cF47, .slice sI48 ix.length cI49, .slice sO50 ox.length cO51] 37) :: .obj g30 (.cells #[.int .i64 kd, .int .i64 nn, .string nm, .slice sd d.length cd] 41) :: .obj ga (.cells #[.slice sU1 fx.length cU1, .slice sU2 ix.length cU2, .slice sU3 ox.length cU3] 37) :: .obj gb (.cells #[.slice sV1 fx.length cV1, .slice sV2 ix.length cV2, .slice sV3 ox.length cV3] 37) :: .obj g2 (.cells #[.slice sF fs.length cF_, .slice sI il.length cI, .slice sO ol.length cO] 37) :: D213)) hA hM rfl rfl (m_store rfl rfl rfl (by kernel_rfl) hM 0 rfl rfl rfl) 0 rfl rfl rfl ?_
           intro w223 hM
           refine seq_do hA rfl rfl rfl (does_assign rfl) ?_
           intro a hA
           refine seq_end ?_
           refine hK67 _ _ ?_
           refine wp_seq_k (fun K224 hK224 => ?_)
           refine wp_seq_k (fun K225 hK225 => ?_)
           replace hA := hA.keep [(1, .slice sS os.length cS), (5, .pointer (some ⟨ga, 0, none⟩)), (6, .pointer (some ⟨gb, 0, none⟩)), (7, .int .i64 (((i : Nat) : Int))), (8, .pointer (some ⟨g30, 0, none⟩)), (9, .pointer (some ⟨g53, 0, none⟩)), (10, .pointer (some ⟨g61, 0, none⟩)), (11, .pointer (some ⟨g63, 0, none⟩)), (12, .slice none 0 0), (13, .slice none 0 0), (14, .int .i64 ((delR nm fx ix ox).1)), (15, .int .i64 ((delR nm fx ix ox).1)), (35, .int .i64 kd)] ⟨rfl, rfl, rfl, rfl, rfl, rfl, rfl, rfl, rfl, rfl, rfl, rfl, rfl, trivial⟩
           refine wp_draw (S := fun w1 => Mg w w1 (.obj g63 (.cells #[.slice sF216 ((delR nm fx ix ox).2.1.length) cF217, .slice sI218 ((delR nm fx ix ox).2.2.1.length) cI219, .slice sO220 ((delR nm fx ix ox).2.2.2.length) cO221] 37) :: .obj g61 (.cells #[.slice sF199 ((delR nm fx ix ox).2.1.length) cF200, .slice sI201 ((delR nm fx ix ox).2.2.1.length) cI202, .slice sO203 ((delR nm fx ix ox).2.2.2.length) cO204] 37) :: .obj g53 (.cells #[.slice sF46 fx.length cF47, .slice sI48 ix.length cI49, .slice sO50 ox.length cO51] 37) :: .obj ga (.cells #[.slice sU1 fx.length cU1, .slice sU2 ix.length cU2, .slice sU3 ox.length cU3] 37) :: .obj gb (.cells #[.slice sV1 fx.length cV1, .slice sV2 ix.length cV2, .slice sV3 ox.length cV3] 37) :: [])) (by kernel_rfl) ?_
           replace hM := hM.drew
           refine any_tk hA 0 rfl rfl rfl rfl hP (hM.sub (.cons_cons _ (.cons_cons _ (.cons_cons _ (.cons _ (.cons_cons _ (.cons_cons _ (.cons _ (List.nil_sublist _))))))))) (fun w1 hM => does_move rfl) ?_
           intro a hA
           refine any_tk hA 1 rfl rfl rfl rfl hP (hM.sub (.cons_cons _ (.cons_cons _ (.cons_cons _ (.cons _ (.cons_cons _ (.cons_cons _ (.cons _ (List.nil_sublist _))))))))) (fun w1 hM => does_move rfl) ?_
           intro a hA
           refine any_tk (v := .bool false) hA 2 rfl rfl rfl rfl hP (hM.sub (.cons_cons _ (.cons_cons _ (.cons_cons _ (.cons _ (.cons_cons _ (.cons_cons _ (.cons _ (List.nil_sublist _))))))))) (fun w1 hM => does_bin rfl rfl (fun w => (bin_neq w).trans (by rw [show (((delR nm fx ix ox).1 != (delR nm fx ix ox).1)) = false from by simp]))) ?_
           intro a hA
           refine any_tk hA 3 rfl rfl rfl rfl hP (hM.sub (.cons_cons _ (.cons_cons _ (.cons_cons _ (.cons _ (.cons_cons _ (.cons_cons _ (.cons _ (List.nil_sublist _))))))))) (fun w1 hM => does_move rfl) ?_
           intro a hA
           refine any_tk hA 4 rfl rfl rfl rfl hP (hM.sub (.cons_cons _ (.cons_cons _ (.cons_cons _ (.cons _ (.cons_cons _ (.cons_cons _ (.cons _ (List.nil_sublist _))))))))) (fun w1 hM => m_loadS hM Wn_isS_37 rfl 1 rfl (cs := [.slice sF199 ((delR nm fx ix ox).2.1.length) cF200, .slice sI201 ((delR nm fx ix ox).2.2.1.length) cI202, .slice sO203 ((delR nm fx ix ox).2.2.2.length) cO204]) rfl rfl) ?_
           intro a hA
           refine any_tk hA 5 rfl rfl rfl rfl hP (hM.sub (.cons_cons _ (.cons_cons _ (.cons_cons _ (.cons _ (.cons_cons _ (.cons_cons _ (.cons _ (List.nil_sublist _))))))))) (fun w1 hM => m_loadS hM Wn_isS_37 rfl 0 rfl (cs := [.slice sF216 ((delR nm fx ix ox).2.1.length) cF217, .slice sI218 ((delR nm fx ix ox).2.2.1.length) cI219, .slice sO220 ((delR nm fx ix ox).2.2.2.length) cO221]) rfl rfl) ?_
           intro a hA
           have hw226 := RwD.facts hM (hR194.mono (fun c hc => (List.mem_cons_of_mem _ (List.mem_cons_of_mem _ (List.mem_cons_of_mem _ (List.mem_cons_of_mem _ (List.mem_cons_of_mem _ (List.mem_cons_of_mem _ (List.mem_cons_of_mem _ hc)))))))))
           have hw227 := RwD.facts hM (hR211.mono (fun c hc => (List.mem_cons_of_mem _ (List.mem_cons_of_mem _ (List.mem_cons_of_mem _ (List.mem_cons_of_mem _ (List.mem_cons_of_mem _ (List.mem_cons_of_mem _ (List.mem_cons_of_mem _ hc)))))))))
           refine any_one (by kernel_rfl) (op_call hA 6 rfl rfl rfl rfl (enters_func rfl rfl (fun w => by kernel_rfl)) (rsame_as  (b := true) hw226.1 hw226.2.1 hw226.2.2.1 hw227.1 hw227.2.1 hw227.2.2.1 (bd_del) (Bd.n (bd_del)) (decide_eq_true ⟨rfl, rfl, rfl⟩)) ?_)
           rintro _ w229 ⟨rfl, hb228⟩
           replace hM := hM.call hb228
           refine ⟨_, rfl, (hM.sub (.cons_cons _ (.cons_cons _ (.cons_cons _ (.cons _ (.cons_cons _ (.cons_cons _ (.cons _ (List.nil_sublist _))))))))), ?_⟩
           intro a hA
           refine any_tk (v := .bool false) hA 7 rfl rfl rfl rfl hP (hM.sub (.cons_cons _ (.cons_cons _ (.cons_cons _ (.cons _ (.cons_cons _ (.cons_cons _ (.cons _ (List.nil_sublist _))))))))) (fun w1 hM => does_un rfl un_not) ?_
           intro a hA
           refine any_tk (v := .bool false) hA 8 rfl rfl rfl rfl hP (hM.sub (.cons_cons _ (.cons_cons _ (.cons_cons _ (.cons _ (.cons_cons _ (.cons_cons _ (.cons _ (List.nil_sublist _))))))))) (fun w1 hM => does_pick rfl rfl rfl rfl) ?_
           intro a hA
           refine any_tk hA 9 rfl rfl rfl rfl hP (hM.sub (.cons_cons _ (.cons_cons _ (.cons_cons _ (.cons _ (.cons_cons _ (.cons_cons _ (.cons _ (List.nil_sublist _))))))))) (fun w1 hM => does_move rfl) ?_
           intro a hA
           refine any_tk hA 10 rfl rfl rfl rfl hP (hM.sub (.cons_cons _ (.cons_cons _ (.cons_cons _ (.cons _ (.cons_cons _ (.cons_cons _ (.cons _ (List.nil_sublist _))))))))) (fun w1 hM => does_move rfl) ?_
           intro a hA
           refine any_tk hA 11 rfl rfl rfl rfl hP (hM.sub (.cons_cons _ (.cons_cons _ (.cons_cons _ (.cons _ (.cons_cons _ (.cons_cons _ (.cons _ (List.nil_sublist _))))))))) (fun w1 hM => does_move rfl) ?_
           intro a hA
           refine any_one (by kernel_rfl) (op_call hA 12 rfl rfl rfl rfl (enters_func rfl rfl (fun w => by kernel_rfl)) (same_as (so := none) (to_ := none) (xs := []) (ys := []) (ca := 0) (cb := 0) (b := true) rb_nil rb_nil (by simp) (decide_eq_true rfl)) ?_)
           rintro _ w231 ⟨rfl, hb230⟩
           replace hM := hM.call hb230
           refine ⟨_, rfl, (hM.sub (.cons_cons _ (.cons_cons _ (.cons_cons _ (.cons _ (.cons_cons _ (.cons_cons _ (.cons _ (List.nil_sublist _))))))))), ?_⟩
           intro a hA
           refine any_tk (v := .bool false) hA 13 rfl rfl rfl rfl hP (hM.sub (.cons_cons _ (.cons_cons _ (.cons_cons _ (.cons _ (.cons_cons _ (.cons_cons _ (.cons _ (List.nil_sublist _))))))))) (fun w1 hM => does_un rfl un_not) ?_
           intro a hA
           refine any_tk (v := .bool false) hA 14 rfl rfl rfl rfl hP (hM.sub (.cons_cons _ (.cons_cons _ (.cons_cons _ (.cons _ (.cons_cons _ (.cons_cons _ (.cons _ (List.nil_sublist _))))))))) (fun w1 hM => does_pick rfl rfl rfl rfl) ?_
           intro a hA
           refine any_tk hA 15 rfl rfl rfl rfl hP (hM.sub (.cons_cons _ (.cons_cons _ (.cons_cons _ (.cons _ (.cons_cons _ (.cons_cons _ (.cons _ (List.nil_sublist _))))))))) (fun w1 hM => does_move rfl) ?_
           intro a hA
           refine any_tk hA 16 rfl rfl rfl rfl hP (hM.sub (.cons_cons _ (.cons_cons _ (.cons_cons _ (.cons _ (.cons_cons _ (.cons_cons _ (.cons _ (List.nil_sublist _))))))))) (fun w1 hM => m_loadS hM Wn_isS_37 rfl 3 rfl (cs := [.slice sU1 fx.length cU1, .slice sU2 ix.length cU2, .slice sU3 ox.length cU3]) rfl rfl) ?_
           intro a hA
           refine any_tk hA 17 rfl rfl rfl rfl hP (hM.sub (.cons_cons _ (.cons_cons _ (.cons_cons _ (.cons _ (.cons_cons _ (.cons_cons _ (.cons _ (List.nil_sublist _))))))))) (fun w1 hM => m_loadS hM Wn_isS_37 rfl 2 rfl (cs := [.slice sF46 fx.length cF47, .slice sI48 ix.length cI49, .slice sO50 ox.length cO51]) rfl rfl) ?_
           intro a hA
           have hw232 := RwD.facts hM (hRu.mono (fun c hc => (List.mem_cons_of_mem _ (List.mem_cons_of_mem _ (List.mem_cons_of_mem _ (List.mem_cons_of_mem _ (List.mem_cons_of_mem _ (List.mem_cons_of_mem _ (List.mem_cons_of_mem _ hc)))))))))
           have hw233 := RwD.facts hM (hR41.mono (fun c hc => (List.mem_cons_of_mem _ (List.mem_cons_of_mem _ (List.mem_cons_of_mem _ (List.mem_cons_of_mem _ (List.mem_cons_of_mem _ (List.mem_cons_of_mem _ (List.mem_cons_of_mem _ hc)))))))))
           refine any_one (by kernel_rfl) (op_call hA 18 rfl rfl rfl rfl (enters_func rfl rfl (fun w => by kernel_rfl)) (rsame_as  (b := true) hw232.1 hw232.2.1 hw232.2.2.1 hw233.1 hw233.2.1 hw233.2.2.1 hBx (Bd.n hBx) (decide_eq_true ⟨rfl, rfl, rfl⟩)) ?_)
           rintro _ w235 ⟨rfl, hb234⟩
           replace hM := hM.call hb234
           refine ⟨_, rfl, (hM.sub (.cons_cons _ (.cons_cons _ (.cons_cons _ (.cons _ (.cons_cons _ (.cons_cons _ (.cons _ (List.nil_sublist _))))))))), ?_⟩
           intro a hA
           refine any_tk (v := .bool false) hA 19 rfl rfl rfl rfl hP (hM.sub (.cons_cons _ (.cons_cons _ (.cons_cons _ (.cons _ (.cons_cons _ (.cons_cons _ (.cons _ (List.nil_sublist _))))))))) (fun w1 hM => does_un rfl un_not) ?_
           intro a hA
           refine any_tk (v := .bool false) hA 20 rfl rfl rfl rfl hP (hM.sub (.cons_cons _ (.cons_cons _ (.cons_cons _ (.cons _ (.cons_cons _ (.cons_cons _ (.cons _ (List.nil_sublist _))))))))) (fun w1 hM => does_pick rfl rfl rfl rfl) ?_
           intro a hA
           refine any_tk hA 21 rfl rfl rfl rfl hP (hM.sub (.cons_cons _ (.cons_cons _ (.cons_cons _ (.cons _ (.cons_cons _ (.cons_cons _ (.cons _ (List.nil_sublist _))))))))) (fun w1 hM => does_move rfl) ?_
           intro a hA
           refine any_tk hA 22 rfl rfl rfl rfl hP (hM.sub (.cons_cons _ (.cons_cons _ (.cons_cons _ (.cons _ (.cons_cons _ (.cons_cons _ (.cons _ (List.nil_sublist _))))))))) (fun w1 hM => m_loadS hM Wn_isS_37 rfl 3 rfl (cs := [.slice sU1 fx.length cU1, .slice sU2 ix.length cU2, .slice sU3 ox.length cU3]) rfl rfl) ?_
           intro a hA
           refine any_tk hA 24 rfl rfl rfl rfl hP (hM.sub (.cons_cons _ (.cons_cons _ (.cons_cons _ (.cons _ (.cons_cons _ (.cons_cons _ (.cons _ (List.nil_sublist _))))))))) (fun w1 hM => m_loadS hM Wn_isS_37 rfl 4 rfl (cs := [.slice sV1 fx.length cV1, .slice sV2 ix.length cV2, .slice sV3 ox.length cV3]) rfl rfl) ?_
           intro a hA
           have hw236 := RwD.facts hM (hRu.mono (fun c hc => (List.mem_cons_of_mem _ (List.mem_cons_of_mem _ (List.mem_cons_of_mem _ (List.mem_cons_of_mem _ (List.mem_cons_of_mem _ (List.mem_cons_of_mem _ (List.mem_cons_of_mem _ hc)))))))))
           refine any_one (by kernel_rfl) (op_call hA 23 rfl rfl rfl rfl (enters_func rfl rfl (fun w => by kernel_rfl)) (sound_any (cF_ := cU1) (cI := cU2) (cO := cU3) (fs := fx) (il := ix) (ol := ox) hw236.1 hBx.n) ?_)
           rintro _ w238 ⟨rfl, hb237⟩
           replace hM := hM.call hb237
           refine ⟨_, rfl, (hM.sub (.cons_cons _ (.cons_cons _ (.cons_cons _ (.cons _ (.cons_cons _ (.cons_cons _ (.cons _ (List.nil_sublist _))))))))), ?_⟩
           intro a hA
           have hw239 := RwD.facts hM (hRv.mono (fun c hc => (List.mem_cons_of_mem _ (List.mem_cons_of_mem _ (List.mem_cons_of_mem _ (List.mem_cons_of_mem _ (List.mem_cons_of_mem _ (List.mem_cons_of_mem _ (List.mem_cons_of_mem _ hc)))))))))
           refine any_one (by kernel_rfl) (op_call hA 25 rfl rfl rfl rfl (enters_func rfl rfl (fun w => by kernel_rfl)) (rsound_any (cF_ := cV1) (cI := cV2) (cO := cV3) (fs := fx) (il := ix) (ol := ox) hw239.1 hBx.n) ?_)
           rintro _ w241 ⟨rfl, hb240⟩
           replace hM := hM.call hb240
           refine ⟨_, rfl, (hM.sub (.cons_cons _ (.cons_cons _ (.cons_cons _ (.cons _ (.cons_cons _ (.cons_cons _ (.cons _ (List.nil_sublist _))))))))), ?_⟩
           intro a hA
           refine any_tk (v := .bool false) hA 26 rfl rfl rfl rfl hP (hM.sub (.cons_cons _ (.cons_cons _ (.cons_cons _ (.cons _ (.cons_cons _ (.cons_cons _ (.cons _ (List.nil_sublist _))))))))) (fun w1 hM => does_bin rfl rfl (fun w => ((bin_neqB Try.underlying4) w).trans (by rw [show (!(soundS fx ix ox == soundS fx ix ox)) = false from by simp]))) ?_
           intro a hA
           refine any_tk (v := .bool false) hA 27 rfl rfl rfl rfl hP (hM.sub (.cons_cons _ (.cons_cons _ (.cons_cons _ (.cons _ (.cons_cons _ (.cons_cons _ (.cons _ (List.nil_sublist _))))))))) (fun w1 hM => does_pick rfl rfl rfl rfl) ?_
           intro a hA
           refine any_end (by kernel_rfl) ?_
           refine hK225 _ _ ?_
           refine wp_cond_false (hA.ev rfl) ?_
           refine wp_skip ?_
           refine hK224 _ _ ?_
           refine wp_seq_k (fun K242 hK242 => ?_)
           replace hA := hA.keep [(1, .slice sS os.length cS), (5, .pointer (some ⟨ga, 0, none⟩)), (6, .pointer (some ⟨gb, 0, none⟩)), (7, .int .i64 (((i : Nat) : Int))), (8, .pointer (some ⟨g30, 0, none⟩)), (9, .pointer (some ⟨g53, 0, none⟩)), (10, .pointer (some ⟨g61, 0, none⟩)), (11, .pointer (some ⟨g63, 0, none⟩)), (12, .slice none 0 0), (13, .slice none 0 0), (14, .int .i64 ((delR nm fx ix ox).1)), (15, .int .i64 ((delR nm fx ix ox).1)), (35, .int .i64 kd)] ⟨rfl, rfl, rfl, rfl, rfl, rfl, rfl, rfl, rfl, rfl, rfl, rfl, rfl, trivial⟩
           refine wp_region_lit ?_
           refine seq_do hA rfl rfl rfl (does_move rfl) ?_
           intro a hA
           rcases Bool.eq_false_or_eq_true (((delR nm fx ix ox).1 == 0)) with hb243 | hb243
           · have hb243' := eq_of_beq hb243
             refine seq_do (v := .bool true) hA rfl rfl rfl (does_bin rfl rfl (fun w => (bin_eql w).trans (by rw [hb243]))) ?_
             intro a hA
             refine seq_do hA rfl rfl rfl (does_move rfl) ?_
             intro a hA
             refine seq_do (v := .pointer (some ⟨g30, 0, none⟩)) hA rfl rfl rfl (does_field Wn_fld_41_0 rfl rfl) ?_
             intro a hA
             refine seq_do hA rfl rfl rfl (m_load1 hM Wn_is1_3 rfl 3 rfl rfl) ?_
             intro a hA
             refine seq_do (v := .bool true) hA rfl rfl rfl (does_bin rfl rfl (fun w => (bin_geq w).trans (by rw [show (decide (1 ≤ kd)) = true from decide_eq_true (by omega)]))) ?_
             intro a hA
             refine seq_do (v := .bool true) hA rfl rfl rfl (does_pick rfl rfl rfl rfl) ?_
             intro a hA
             refine seq_do hA rfl rfl rfl (does_move rfl) ?_
             intro a hA
             refine seq_do (v := .pointer (some ⟨g30, 0, none⟩)) hA rfl rfl rfl (does_field Wn_fld_41_0 rfl rfl) ?_
             intro a hA
             refine seq_do hA rfl rfl rfl (m_load1 hM Wn_is1_3 rfl 3 rfl rfl) ?_
             intro a hA
             refine seq_do (v := .bool true) hA rfl rfl rfl (does_bin rfl rfl (fun w => (bin_leq w).trans (by rw [show (decide (kd ≤ 5)) = true from decide_eq_true (by omega)]))) ?_
             intro a hA
             refine seq_do (v := .bool true) hA rfl rfl rfl (does_pick rfl rfl rfl rfl) ?_
             intro a hA
             refine seq_end ?_
             refine hK242 _ _ ?_
             refine wp_cond_true (hA.ev rfl) ?_
             replace hA := hA.keep [(1, .slice sS os.length cS), (5, .pointer (some ⟨ga, 0, none⟩)), (6, .pointer (some ⟨gb, 0, none⟩)), (7, .int .i64 (((i : Nat) : Int))), (8, .pointer (some ⟨g30, 0, none⟩)), (9, .pointer (some ⟨g53, 0, none⟩)), (10, .pointer (some ⟨g61, 0, none⟩)), (11, .pointer (some ⟨g63, 0, none⟩)), (12, .slice none 0 0), (13, .slice none 0 0), (14, .int .i64 ((delR nm fx ix ox).1)), (15, .int .i64 ((delR nm fx ix ox).1)), (35, .int .i64 kd)] ⟨rfl, rfl, rfl, rfl, rfl, rfl, rfl, rfl, rfl, rfl, rfl, rfl, rfl, trivial⟩
             refine wp_draw (S := fun w1 => Mg w w1 (.obj g63 (.cells #[.slice sF216 ((delR nm fx ix ox).2.1.length) cF217, .slice sI218 ((delR nm fx ix ox).2.2.1.length) cI219, .slice sO220 ((delR nm fx ix ox).2.2.2.length) cO221] 37) :: .obj g61 (.cells #[.slice sF199 ((delR nm fx ix ox).2.1.length) cF200, .slice sI201 ((delR nm fx ix ox).2.2.1.length) cI202, .slice sO203 ((delR nm fx ix ox).2.2.2.length) cO204] 37) :: [])) (by kernel_rfl) ?_
             replace hM := hM.drew
             refine any_tk hA 0 rfl rfl rfl rfl hP (hM.sub (.cons_cons _ (.cons_cons _ (.cons _ (.cons _ (.cons _ (.cons _ (.cons _ (List.nil_sublist _))))))))) (fun w1 hM => m_loadS hM Wn_isS_37 rfl 1 rfl (cs := [.slice sF199 ((delR nm fx ix ox).2.1.length) cF200, .slice sI201 ((delR nm fx ix ox).2.2.1.length) cI202, .slice sO203 ((delR nm fx ix ox).2.2.2.length) cO204]) rfl rfl) ?_
             intro a hA
             refine any_tk hA 1 rfl rfl rfl rfl hP (hM.sub (.cons_cons _ (.cons_cons _ (.cons _ (.cons _ (.cons _ (.cons _ (.cons _ (List.nil_sublist _))))))))) (fun w1 hM => m_loadS hM Wn_isS_37 rfl 0 rfl (cs := [.slice sF216 ((delR nm fx ix ox).2.1.length) cF217, .slice sI218 ((delR nm fx ix ox).2.2.1.length) cI219, .slice sO220 ((delR nm fx ix ox).2.2.2.length) cO221]) rfl rfl) ?_
             intro a hA
             refine any_one (by kernel_rfl) (g_store (us := [.slice sF199 ((delR nm fx ix ox).2.1.length) cF200, .slice sI201 ((delR nm fx ix ox).2.2.1.length) cI202, .slice sO203 ((delR nm fx ix ox).2.2.2.length) cO204]) (L' := (.obj g63 (.cells #[.slice sF216 ((delR nm fx ix ox).2.1.length) cF217, .slice sI218 ((delR nm fx ix ox).2.2.1.length) cI219, .slice sO220 ((delR nm fx ix ox).2.2.2.length) cO221] 37) :: .obj g61 (.cells #[.slice sF199 ((delR nm fx ix ox).2.1.length) cF200, .slice sI201 ((delR nm fx ix ox).2.2.1.length) cI202, .slice sO203 ((delR nm fx ix ox).2.2.2.length) cO204] 37) :: .obj g53 (.cells #[.slice sF46 fx.length cF47, .slice sI48 ix.length cI49, .slice sO50 ox.length cO51] 37) :: .obj g30 (.cells #[.int .i64 kd, .int .i64 nn, .string nm, .slice sd d.length cd] 41) :: .obj ga (.cells #[.slice sF199 ((delR nm fx ix ox).2.1.length) cF200, .slice sI201 ((delR nm fx ix ox).2.2.1.length) cI202, .slice sO203 ((delR nm fx ix ox).2.2.2.length) cO204] 37) :: .obj gb (.cells #[.slice sV1 fx.length cV1, .slice sV2 ix.length cV2, .slice sV3 ox.length cV3] 37) :: .obj g2 (.cells #[.slice sF fs.length cF_, .slice sI il.length cI, .slice sO ol.length cO] 37) :: D213)) hA hM 2 rfl rfl rfl (m_store rfl rfl rfl (by kernel_rfl) hM 4 rfl rfl rfl) 4 rfl rfl rfl ?_)
             intro w244 hM
             refine ⟨(hM.sub (.cons_cons _ (.cons_cons _ (.cons _ (.cons _ (.cons _ (.cons _ (.cons _ (List.nil_sublist _))))))))), ?_⟩
             refine any_one (by kernel_rfl) (g_store (us := [.slice sF216 ((delR nm fx ix ox).2.1.length) cF217, .slice sI218 ((delR nm fx ix ox).2.2.1.length) cI219, .slice sO220 ((delR nm fx ix ox).2.2.2.length) cO221]) (L' := (.obj g63 (.cells #[.slice sF216 ((delR nm fx ix ox).2.1.length) cF217, .slice sI218 ((delR nm fx ix ox).2.2.1.length) cI219, .slice sO220 ((delR nm fx ix ox).2.2.2.length) cO221] 37) :: .obj g61 (.cells #[.slice sF199 ((delR nm fx ix ox).2.1.length) cF200, .slice sI201 ((delR nm fx ix ox).2.2.1.length) cI202, .slice sO203 ((delR nm fx ix ox).2.2.2.length) cO204] 37) :: .obj g53 (.cells #[.slice sF46 fx.length cF47, .slice sI48 ix.length cI49, .slice sO50 ox.length cO51] 37) :: .obj g30 (.cells #[.int .i64 kd, .int .i64 nn, .string nm, .slice sd d.length cd] 41) :: .obj ga (.cells #[.slice sF199 ((delR nm fx ix ox).2.1.length) cF200, .slice sI201 ((delR nm fx ix ox).2.2.1.length) cI202, .slice sO203 ((delR nm fx ix ox).2.2.2.length) cO204] 37) :: .obj gb (.cells #[.slice sF216 ((delR nm fx ix ox).2.1.length) cF217, .slice sI218 ((delR nm fx ix ox).2.2.1.length) cI219, .slice sO220 ((delR nm fx ix ox).2.2.2.length) cO221] 37) :: .obj g2 (.cells #[.slice sF fs.length cF_, .slice sI il.length cI, .slice sO ol.length cO] 37) :: D213)) hA hM 3 rfl rfl rfl (m_store rfl rfl rfl (by kernel_rfl) hM 5 rfl rfl rfl) 5 rfl rfl rfl ?_)
             intro w245 hM
             refine ⟨(hM.sub (.cons_cons _ (.cons_cons _ (.cons _ (.cons _ (.cons _ (.cons _ (.cons _ (List.nil_sublist _))))))))), ?_⟩
             refine any_end (by kernel_rfl) ?_
             refine hK19 _ _ ?_
             replace hA := hA.keep [(1, .slice sS os.length cS), (5, .pointer (some ⟨ga, 0, none⟩)), (6, .pointer (some ⟨gb, 0, none⟩)), (7, .int .i64 (((i : Nat) : Int))), (8, .pointer (some ⟨g30, 0, none⟩)), (9, .pointer (some ⟨g53, 0, none⟩)), (10, .pointer (some ⟨g61, 0, none⟩)), (11, .pointer (some ⟨g63, 0, none⟩)), (12, .slice none 0 0), (13, .slice none 0 0), (14, .int .i64 ((delR nm fx ix ox).1)), (15, .int .i64 ((delR nm fx ix ox).1)), (35, .int .i64 kd)] ⟨rfl, rfl, rfl, rfl, rfl, rfl, rfl, rfl, rfl, rfl, rfl, rfl, rfl, trivial⟩
             refine wp_region_lit ?_
             refine seq_do hA rfl rfl rfl (does_move rfl) ?_
             intro a hA
             refine seq_do (v := .int .i64 (((i + 1 : Nat) : Int))) hA rfl rfl rfl (does_bin rfl rfl (ar_add ((in_i64 (by omega) (by omega)).trans (by omega)))) ?_
             intro a hA
             refine seq_do hA rfl rfl rfl (does_assign rfl) ?_
             intro a hA
             refine seq_end ?_
             replace hM : Mg w w245 (.obj ga (.cells #[.slice sF199 ((delR nm fx ix ox).2.1.length) cF200, .slice sI201 ((delR nm fx ix ox).2.2.1.length) cI202, .slice sO203 ((delR nm fx ix ox).2.2.2.length) cO204] 37) :: .obj gb (.cells #[.slice sF216 ((delR nm fx ix ox).2.1.length) cF217, .slice sI218 ((delR nm fx ix ox).2.2.1.length) cI219, .slice sO220 ((delR nm fx ix ox).2.2.2.length) cO221] 37) :: .obj g2 (.cells #[.slice sF fs.length cF_, .slice sI il.length cI, .slice sO ol.length cO] 37) :: D213) := by
               have h9 := hM.sub (.cons _ (.cons _ (.cons _ (.cons _ (.cons_cons _ (.cons_cons _ (.cons_cons _ (.refl _))))))))
               exact h9
             refine hK14 _ _ _ (by omega) ⟨i + 1, (delR nm fx ix ox).2.1, (delR nm fx ix ox).2.2.1, (delR nm fx ix ox).2.2.2, sF199, cF200, sI201, cI202, sO203, cO204, sF216, cF217, sI218, cI219, sO220, cO221, D213, rfl, ⟨hR194, hR211, hnD213, (bd_del), by omega⟩, hA.keep _ ⟨rfl, rfl, rfl, rfl, trivial⟩, hM⟩
           · have hb243' := ne_of_beq_false hb243
             refine seq_do (v := .bool false) hA rfl rfl rfl (does_bin rfl rfl (fun w => (bin_eql w).trans (by rw [hb243]))) ?_
             intro a hA
             refine seq_do hA rfl rfl rfl (does_move rfl) ?_
             intro a hA
             refine seq_skip hA rfl rfl rfl ?_
             intro a hA
             refine seq_skip hA rfl rfl rfl ?_
             intro a hA
             refine seq_skip hA rfl rfl rfl ?_
             intro a hA
             refine seq_do (v := .bool false) hA rfl rfl rfl (does_pick rfl rfl rfl rfl) ?_
             intro a hA
             refine seq_do hA rfl rfl rfl (does_move rfl) ?_
             intro a hA
             refine seq_skip hA rfl rfl rfl ?_
             intro a hA
             refine seq_skip hA rfl rfl rfl ?_
             intro a hA
             refine seq_skip hA rfl rfl rfl ?_
             intro a hA
             refine seq_do (v := .bool false) hA rfl rfl rfl (does_pick rfl rfl rfl rfl) ?_
             intro a hA
             refine seq_end ?_
             refine hK242 _ _ ?_
             refine wp_cond_false (hA.ev rfl) ?_
             refine wp_skip ?_
             refine hK19 _ _ ?_
             replace hA := hA.keep [(1, .slice sS os.length cS), (5, .pointer (some ⟨ga, 0, none⟩)), (6, .pointer (some ⟨gb, 0, none⟩)), (7, .int .i64 (((i : Nat) : Int))), (8, .pointer (some ⟨g30, 0, none⟩)), (9, .pointer (some ⟨g53, 0, none⟩)), (10, .pointer (some ⟨g61, 0, none⟩)), (11, .pointer (some ⟨g63, 0, none⟩)), (12, .slice none 0 0), (13, .slice none 0 0), (14, .int .i64 ((delR nm fx ix ox).1)), (15, .int .i64 ((delR nm fx ix ox).1)), (35, .int .i64 kd)] ⟨rfl, rfl, rfl, rfl, rfl, rfl, rfl, rfl, rfl, rfl, rfl, rfl, rfl, trivial⟩
             refine wp_region_lit ?_
             refine seq_do hA rfl rfl rfl (does_move rfl) ?_
             intro a hA
             refine seq_do (v := .int .i64 (((i + 1 : Nat) : Int))) hA rfl rfl rfl (does_bin rfl rfl (ar_add ((in_i64 (by omega) (by omega)).trans (by omega)))) ?_
             intro a hA
             refine seq_do hA rfl rfl rfl (does_assign rfl) ?_
             intro a hA
             refine seq_end ?_
             replace hM : Mg w w241 (.obj ga (.cells #[.slice sU1 fx.length cU1, .slice sU2 ix.length cU2, .slice sU3 ox.length cU3] 37) :: .obj gb (.cells #[.slice sV1 fx.length cV1, .slice sV2 ix.length cV2, .slice sV3 ox.length cV3] 37) :: .obj g2 (.cells #[.slice sF fs.length cF_, .slice sI il.length cI, .slice sO ol.length cO] 37) :: D213) := by
               have h9 := hM.sub (.cons _ (.cons _ (.cons _ (.cons _ (.cons_cons _ (.cons_cons _ (.cons_cons _ (.refl _))))))))
               exact h9
             refine hK14 _ _ _ (by omega) ⟨i + 1, fx, ix, ox, sU1, cU1, sU2, cU2, sU3, cU3, sV1, cV1, sV2, cV2, sV3, cV3, D213, rfl, ⟨hRu, hRv, hnD213, hBx, by omega⟩, hA.keep _ ⟨rfl, rfl, rfl, rfl, trivial⟩, hM⟩
         · have hb188' := ne_of_beq_false hb188
           refine seq_do (v := .bool false) hA rfl rfl rfl (does_bin rfl rfl (fun w => (bin_eql w).trans (by rw [hb188]))) ?_
           intro a hA
           refine seq_do hA rfl rfl rfl (does_assign rfl) ?_
           intro a hA
           refine seq_end ?_
           refine hK187 _ _ ?_
           refine wp_cond_false (hA.ev rfl) ?_
           refine wp_seq_k (fun K246 hK246 => ?_)
           replace hA := hA.keep [(1, .slice sS os.length cS), (5, .pointer (some ⟨ga, 0, none⟩)), (6, .pointer (some ⟨gb, 0, none⟩)), (7, .int .i64 (((i : Nat) : Int))), (8, .pointer (some ⟨g30, 0, none⟩)), (9, .pointer (some ⟨g53, 0, none⟩)), (10, .pointer (some ⟨g61, 0, none⟩)), (11, .pointer (some ⟨g63, 0, none⟩)), (12, .slice none 0 0), (13, .slice none 0 0), (14, .int .i64 0), (15, .int .i64 0), (35, .int .i64 kd)] ⟨rfl, rfl, rfl, rfl, rfl, rfl, rfl, rfl, rfl, rfl, rfl, rfl, rfl, trivial⟩
           refine wp_region_lit ?_
           rcases Bool.eq_false_or_eq_true ((kd == 4)) with hb247 | hb247
           · have hb247' := eq_of_beq hb247
             refine seq_do (v := .bool true) hA rfl rfl rfl (does_bin rfl rfl (fun w => (bin_eql w).trans (by rw [hb247]))) ?_
             intro a hA
             refine seq_do hA rfl rfl rfl (does_assign rfl) ?_
             intro a hA
             refine seq_end ?_
             refine hK246 _ _ ?_
             refine wp_cond_true (hA.ev rfl) ?_
             refine wp_seq_k (fun K248 hK248 => ?_)
             replace hA := hA.keep [(1, .slice sS os.length cS), (5, .pointer (some ⟨ga, 0, none⟩)), (6, .pointer (some ⟨gb, 0, none⟩)), (7, .int .i64 (((i : Nat) : Int))), (8, .pointer (some ⟨g30, 0, none⟩)), (9, .pointer (some ⟨g53, 0, none⟩)), (10, .pointer (some ⟨g61, 0, none⟩)), (11, .pointer (some ⟨g63, 0, none⟩)), (12, .slice none 0 0), (13, .slice none 0 0), (14, .int .i64 0), (15, .int .i64 0), (35, .int .i64 kd)] ⟨rfl, rfl, rfl, rfl, rfl, rfl, rfl, rfl, rfl, rfl, rfl, rfl, rfl, trivial⟩
             refine wp_region_lit ?_
             refine seq_do hA rfl rfl rfl (m_loadS hM Wn_isS_37 rfl 4 rfl (cs := [.slice sU1 fx.length cU1, .slice sU2 ix.length cU2, .slice sU3 ox.length cU3]) rfl rfl) ?_
             intro a hA
             refine seq_do (v := .pointer (some ⟨g30, 1, none⟩)) hA rfl rfl rfl (does_field Wn_fld_41_1 rfl rfl) ?_
             intro a hA
             refine seq_do hA rfl rfl rfl (m_load1 hM Wn_is1_3 rfl 3 rfl rfl) ?_
             intro a hA
             have hw249 := RwD.facts hM (hRu.mono (fun c hc => (List.mem_cons_of_mem _ (List.mem_cons_of_mem _ (List.mem_cons_of_mem _ (List.mem_cons_of_mem _ (List.mem_cons_of_mem _ (List.mem_cons_of_mem _ (List.mem_cons_of_mem _ hc)))))))))
             refine seq_call hA rfl rfl rfl (enters_func rfl rfl (fun w => by kernel_rfl)) (take_any (z := nn) (cF_ := cU1) (cI := cU2) (cO := cU3) (fs := fx) (il := ix) (ol := ox) hw249.1 hw249.2.1 hw249.2.2.1 hBx.n hw249.2.2.2) ?_
             rintro _ w268 ⟨v264, V250, hM251L, rfl, hM251, hnL252, hp265, hR253⟩
             obtain ⟨sF258, cF259, sI260, cI261, sO262, cO263, rfl, _⟩ := RwD.open_ hM251 hR253
             obtain ⟨so266, ca267, rfl, _, _⟩ := rb_mem hM251 hp265
             obtain ⟨D255, hg254, hnD255, hs256, hs257⟩ := grow [_, _, _, _, _, _, _] (D := D58) hM hM251 (noBld_cons (by simp) (noBld_cons (by simp) (noBld_cons (by simp) (noBld_cons (by simp) (noBld_cons (by simp) (noBld_cons (by simp) (noBld_cons (by simp) hnD58))))))) hnL252
             replace hRu := hRu.mono hs256
             replace hRv := hRv.mono hs256
             replace hR41 := hR41.mono hs256
             replace hz60 := hz60.mono hs256
             replace hR253 := hR253.mono hs257
             replace hp265 := hs257 _ hp265
             replace hM : Mg w w268 (.obj g63 (.cells #[.slice none 0 0, .slice none 0 0, .slice none 0 0] 37) :: .obj g61 (.cells #[.slice none 0 0, .slice none 0 0, .slice none 0 0] 37) :: .obj g53 (.cells #[.slice sF46 fx.length cF47, .slice sI48 ix.length cI49, .slice sO50 ox.length cO51] 37) :: .obj g30 (.cells #[.int .i64 kd, .int .i64 nn, .string nm, .slice sd d.length cd] 41) :: .obj ga (.cells #[.slice sU1 fx.length cU1, .slice sU2 ix.length cU2, .slice sU3 ox.length cU3] 37) :: .obj gb (.cells #[.slice sV1 fx.length cV1, .slice sV2 ix.length cV2, .slice sV3 ox.length cV3] 37) :: .obj g2 (.cells #[.slice sF fs.length cF_, .slice sI il.length cI, .slice sO ol.length cO] 37) :: D255) := hg254
             refine ⟨_, rfl, ?_⟩
             intro a hA
             refine seq_do hA rfl rfl rfl (does_move rfl) ?_
             intro a hA
             refine seq_do (v := .slice so266 ((takeR nn fx ix ox).1.length) ca267) hA rfl rfl rfl (does_extract (vs := [.slice so266 ((takeR nn fx ix ox).1.length) ca267, .agg #[.slice sF258 ((takeR nn fx ix ox).2.2.1.length) cF259, .slice sI260 ((takeR nn fx ix ox).2.2.2.1.length) cI261, .slice sO262 ((takeR nn fx ix ox).2.2.2.2.length) cO263], .int .i64 ((takeR nn fx ix ox).2.1)]) rfl rfl) ?_
             intro a hA
             refine seq_do (v := .agg #[.slice sF258 ((takeR nn fx ix ox).2.2.1.length) cF259, .slice sI260 ((takeR nn fx ix ox).2.2.2.1.length) cI261, .slice sO262 ((takeR nn fx ix ox).2.2.2.2.length) cO263]) hA rfl rfl rfl (does_extract (vs := [.slice so266 ((takeR nn fx ix ox).1.length) ca267, .agg #[.slice sF258 ((takeR nn fx ix ox).2.2.1.length) cF259, .slice sI260 ((takeR nn fx ix ox).2.2.2.1.length) cI261, .slice sO262 ((takeR nn fx ix ox).2.2.2.2.length) cO263], .int .i64 ((takeR nn fx ix ox).2.1)]) rfl rfl) ?_
             intro a hA
             refine seq_do (v := .int .i64 ((takeR nn fx ix ox).2.1)) hA rfl rfl rfl (does_extract (vs := [.slice so266 ((takeR nn fx ix ox).1.length) ca267, .agg #[.slice sF258 ((takeR nn fx ix ox).2.2.1.length) cF259, .slice sI260 ((takeR nn fx ix ox).2.2.2.1.length) cI261, .slice sO262 ((takeR nn fx ix ox).2.2.2.2.length) cO263], .int .i64 ((takeR nn fx ix ox).2.1)]) rfl rfl) ?_
             intro a hA
             refine seq_do hA rfl rfl rfl (does_assign rfl) ?_
             intro a hA
             refine s_store (us := [.slice sF258 ((takeR nn fx ix ox).2.2.1.length) cF259, .slice sI260 ((takeR nn fx ix ox).2.2.2.1.length) cI261, .slice sO262 ((takeR nn fx ix ox).2.2.2.2.length) cO263]) (L' := (.obj g63 (.cells #[.slice none 0 0, .slice none 0 0, .slice none 0 0] 37) :: .obj g61 (.cells #[.slice sF258 ((takeR nn fx ix ox).2.2.1.length) cF259, .slice sI260 ((takeR nn fx ix ox).2.2.2.1.length) cI261, .slice sO262 ((takeR nn fx ix ox).2.2.2.2.length) cO263] 37) :: .obj g53 (.cells #[.slice sF46 fx.length cF47, .slice sI48 ix.length cI49, .slice sO50 ox.length cO51] 37) :: .obj g30 (.cells #[.int .i64 kd, .int .i64 nn, .string nm, .slice sd d.length cd] 41) :: .obj ga (.cells #[.slice sU1 fx.length cU1, .slice sU2 ix.length cU2, .slice sU3 ox.length cU3] 37) :: .obj gb (.cells #[.slice sV1 fx.length cV1, .slice sV2 ix.length cV2, .slice sV3 ox.length cV3] 37) :: .obj g2 (.cells #[.slice sF fs.length cF_, .slice sI il.length cI, .slice sO ol.length cO] 37) :: D255)) hA hM rfl rfl (m_store rfl rfl rfl (by kernel_rfl) hM 1 rfl rfl rfl) 1 rfl rfl rfl ?_
             intro w269 hM
             refine seq_do hA rfl rfl rfl (does_assign rfl) ?_
             intro a hA
             refine seq_end ?_
             refine hK248 _ _ ?_
             replace hA := hA.keep [(1, .slice sS os.length cS), (5, .pointer (some ⟨ga, 0, none⟩)), (6, .pointer (some ⟨gb, 0, none⟩)), (7, .int .i64 (((i : Nat) : Int))), (8, .pointer (some ⟨g30, 0, none⟩)), (9, .pointer (some ⟨g53, 0, none⟩)), (10, .pointer (some ⟨g61, 0, none⟩)), (11, .pointer (some ⟨g63, 0, none⟩)), (12, .slice so266 ((takeR nn fx ix ox).1.length) ca267), (13, .slice none 0 0), (14, .int .i64 ((takeR nn fx ix ox).2.1)), (15, .int .i64 0), (35, .int .i64 kd)] ⟨rfl, rfl, rfl, rfl, rfl, rfl, rfl, rfl, rfl, rfl, rfl, rfl, rfl, trivial⟩
             refine wp_region_lit ?_
             refine seq_do hA rfl rfl rfl (m_loadS hM Wn_isS_37 rfl 5 rfl (cs := [.slice sV1 fx.length cV1, .slice sV2 ix.length cV2, .slice sV3 ox.length cV3]) rfl rfl) ?_
             intro a hA
             refine seq_do (v := .pointer (some ⟨g30, 1, none⟩)) hA rfl rfl rfl (does_field Wn_fld_41_1 rfl rfl) ?_
             intro a hA
             refine seq_do hA rfl rfl rfl (m_load1 hM Wn_is1_3 rfl 3 rfl rfl) ?_
             intro a hA
             have hw270 := RwD.facts hM (hRv.mono (fun c hc => (List.mem_cons_of_mem _ (List.mem_cons_of_mem _ (List.mem_cons_of_mem _ (List.mem_cons_of_mem _ (List.mem_cons_of_mem _ (List.mem_cons_of_mem _ (List.mem_cons_of_mem _ hc)))))))))
             refine seq_call hA rfl rfl rfl (enters_func rfl rfl (fun w => by kernel_rfl)) (rtake_any (z := nn) (cF_ := cV1) (cI := cV2) (cO := cV3) (fs := fx) (il := ix) (ol := ox) hw270.1 hw270.2.1 hw270.2.2.1 hBx.n hw270.2.2.2) ?_
             rintro _ w289 ⟨v285, V271, hM272L, rfl, hM272, hnL273, hp286, hR274⟩
             obtain ⟨sF279, cF280, sI281, cI282, sO283, cO284, rfl, _⟩ := RwD.open_ hM272 hR274
             obtain ⟨so287, ca288, rfl, _, _⟩ := rb_mem hM272 hp286
             obtain ⟨D276, hg275, hnD276, hs277, hs278⟩ := grow [_, _, _, _, _, _, _] (D := D255) hM hM272 (noBld_cons (by simp) (noBld_cons (by simp) (noBld_cons (by simp) (noBld_cons (by simp) (noBld_cons (by simp) (noBld_cons (by simp) (noBld_cons (by simp) hnD255))))))) hnL273
             replace hRu := hRu.mono hs277
             replace hRv := hRv.mono hs277
             replace hR41 := hR41.mono hs277
             replace hz60 := hz60.mono hs277
             replace hR253 := hR253.mono hs277
             replace hp265 := hs277 _ hp265
             replace hR274 := hR274.mono hs278
             replace hp286 := hs278 _ hp286
             replace hM : Mg w w289 (.obj g63 (.cells #[.slice none 0 0, .slice none 0 0, .slice none 0 0] 37) :: .obj g61 (.cells #[.slice sF258 ((takeR nn fx ix ox).2.2.1.length) cF259, .slice sI260 ((takeR nn fx ix ox).2.2.2.1.length) cI261, .slice sO262 ((takeR nn fx ix ox).2.2.2.2.length) cO263] 37) :: .obj g53 (.cells #[.slice sF46 fx.length cF47, .slice sI48 ix.length cI49, .slice sO50 ox.length cO51] 37) :: .obj g30 (.cells #[.int .i64 kd, .int .i64 nn, .string nm, .slice sd d.length cd] 41) :: .obj ga (.cells #[.slice sU1 fx.length cU1, .slice sU2 ix.length cU2, .slice sU3 ox.length cU3] 37) :: .obj gb (.cells #[.slice sV1 fx.length cV1, .slice sV2 ix.length cV2, .slice sV3 ox.length cV3] 37) :: .obj g2 (.cells #[.slice sF fs.length cF_, .slice sI il.length cI, .slice sO ol.length cO] 37) :: D276) := hg275
             refine ⟨_, rfl, ?_⟩
             intro a hA
             refine seq_do hA rfl rfl rfl (does_move rfl) ?_
             intro a hA
             refine seq_do (v := .slice so287 ((takeR nn fx ix ox).1.length) ca288) hA rfl rfl rfl (does_extract (vs := [.slice so287 ((takeR nn fx ix ox).1.length) ca288, .agg #[.slice sF279 ((takeR nn fx ix ox).2.2.1.length) cF280, .slice sI281 ((takeR nn fx ix ox).2.2.2.1.length) cI282, .slice sO283 ((takeR nn fx ix ox).2.2.2.2.length) cO284], .int .i64 ((takeR nn fx ix ox).2.1)]) rfl rfl) ?_
             intro a hA
             refine seq_do (v := .agg #[.slice sF279 ((takeR nn fx ix ox).2.2.1.length) cF280, .slice sI281 ((takeR nn fx ix ox).2.2.2.1.length) cI282, .slice sO283 ((takeR nn fx ix ox).2.2.2.2.length) cO284]) hA rfl rfl rfl (does_extract (vs := [.slice so287 ((takeR nn fx ix ox).1.length) ca288, .agg #[.slice sF279 ((takeR nn fx ix ox).2.2.1.length) cF280, .slice sI281 ((takeR nn fx ix ox).2.2.2.1.length) cI282, .slice sO283 ((takeR nn fx ix ox).2.2.2.2.length) cO284], .int .i64 ((takeR nn fx ix ox).2.1)]) rfl rfl) ?_
             intro a hA
             refine seq_do (v := .int .i64 ((takeR nn fx ix ox).2.1)) hA rfl rfl rfl (does_extract (vs := [.slice so287 ((takeR nn fx ix ox).1.length) ca288, .agg #[.slice sF279 ((takeR nn fx ix ox).2.2.1.length) cF280, .slice sI281 ((takeR nn fx ix ox).2.2.2.1.length) cI282, .slice sO283 ((takeR nn fx ix ox).2.2.2.2.length) cO284], .int .i64 ((takeR nn fx ix ox).2.1)]) rfl rfl) ?_
             intro a hA
             refine seq_do hA rfl rfl rfl (does_assign rfl) ?_
             intro a hA
             refine s_store (us := [.slice sF279 ((takeR nn fx ix ox).2.2.1.length) cF280, .slice sI281 ((takeR nn fx ix ox).2.2.2.1.length) cI282, .slice sO283 ((takeR nn fx ix ox).2.2.2.2.length) cO284]) (L' := (.obj g63 (.cells #[.slice sF279 ((takeR nn fx ix ox).2.2.1.length) cF280, .slice sI281 ((takeR nn fx ix ox).2.2.2.1.length) cI282, .slice sO283 ((takeR nn fx ix ox).2.2.2.2.length) cO284] 37) :: .obj g61 (.cells #[.slice sF258 ((takeR nn fx ix ox).2.2.1.length) cF259, .slice sI260 ((takeR nn fx ix ox).2.2.2.1.length) cI261, .slice sO262 ((takeR nn fx ix ox).2.2.2.2.length) cO263] 37) :: .obj g53 (.cells #[.slice sF46 fx.length cF47, .slice sI48 ix.length cI49, .slice sO50 ox.length cO51] 37) :: .obj g30 (.cells #[.int .i64 kd, .int .i64 nn, .string nm, .slice sd d.length cd] 41) :: .obj ga (.cells #[.slice sU1 fx.length cU1, .slice sU2 ix.length cU2, .slice sU3 ox.length cU3] 37) :: .obj gb (.cells #[.slice sV1 fx.length cV1, .slice sV2 ix.length cV2, .slice sV3 ox.length cV3] 37) :: .obj g2 (.cells #[.slice sF fs.length cF_, .slice sI il.length cI, .slice sO ol.length cO] 37) :: D276)) hA hM rfl rfl (m_store rfl rfl rfl (by kernel_rfl) hM 0 rfl rfl rfl) 0 rfl rfl rfl ?_
             intro w290 hM
             refine seq_do hA rfl rfl rfl (does_assign rfl) ?_
             intro a hA
             refine seq_end ?_
             refine hK67 _ _ ?_
             refine wp_seq_k (fun K291 hK291 => ?_)
             refine wp_seq_k (fun K292 hK292 => ?_)
             replace hA := hA.keep [(1, .slice sS os.length cS), (5, .pointer (some ⟨ga, 0, none⟩)), (6, .pointer (some ⟨gb, 0, none⟩)), (7, .int .i64 (((i : Nat) : Int))), (8, .pointer (some ⟨g30, 0, none⟩)), (9, .pointer (some ⟨g53, 0, none⟩)), (10, .pointer (some ⟨g61, 0, none⟩)), (11, .pointer (some ⟨g63, 0, none⟩)), (12, .slice so266 ((takeR nn fx ix ox).1.length) ca267), (13, .slice so287 ((takeR nn fx ix ox).1.length) ca288), (14, .int .i64 ((takeR nn fx ix ox).2.1)), (15, .int .i64 ((takeR nn fx ix ox).2.1)), (35, .int .i64 kd)] ⟨rfl, rfl, rfl, rfl, rfl, rfl, rfl, rfl, rfl, rfl, rfl, rfl, rfl, trivial⟩
             refine wp_draw (S := fun w1 => Mg w w1 (.obj g63 (.cells #[.slice sF279 ((takeR nn fx ix ox).2.2.1.length) cF280, .slice sI281 ((takeR nn fx ix ox).2.2.2.1.length) cI282, .slice sO283 ((takeR nn fx ix ox).2.2.2.2.length) cO284] 37) :: .obj g61 (.cells #[.slice sF258 ((takeR nn fx ix ox).2.2.1.length) cF259, .slice sI260 ((takeR nn fx ix ox).2.2.2.1.length) cI261, .slice sO262 ((takeR nn fx ix ox).2.2.2.2.length) cO263] 37) :: .obj g53 (.cells #[.slice sF46 fx.length cF47, .slice sI48 ix.length cI49, .slice sO50 ox.length cO51] 37) :: .obj ga (.cells #[.slice sU1 fx.length cU1, .slice sU2 ix.length cU2, .slice sU3 ox.length cU3] 37) :: .obj gb (.cells #[.slice sV1 fx.length cV1, .slice sV2 ix.length cV2, .slice sV3 ox.length cV3] 37) :: [])) (by kernel_rfl) ?_
             replace hM := hM.drew
             refine any_tk hA 0 rfl rfl rfl rfl hP (hM.sub (.cons_cons _ (.cons_cons _ (.cons_cons _ (.cons _ (.cons_cons _ (.cons_cons _ (.cons _ (List.nil_sublist _))))))))) (fun w1 hM => does_move rfl) ?_
             intro a hA
             refine any_tk hA 1 rfl rfl rfl rfl hP (hM.sub (.cons_cons _ (.cons_cons _ (.cons_cons _ (.cons _ (.cons_cons _ (.cons_cons _ (.cons _ (List.nil_sublist _))))))))) (fun w1 hM => does_move rfl) ?_
             intro a hA
             refine any_tk (v := .bool false) hA 2 rfl rfl rfl rfl hP (hM.sub (.cons_cons _ (.cons_cons _ (.cons_cons _ (.cons _ (.cons_cons _ (.cons_cons _ (.cons _ (List.nil_sublist _))))))))) (fun w1 hM => does_bin rfl rfl (fun w => (bin_neq w).trans (by rw [show (((takeR nn fx ix ox).2.1 != (takeR nn fx ix ox).2.1)) = false from by simp]))) ?_
             intro a hA
             refine any_tk hA 3 rfl rfl rfl rfl hP (hM.sub (.cons_cons _ (.cons_cons _ (.cons_cons _ (.cons _ (.cons_cons _ (.cons_cons _ (.cons _ (List.nil_sublist _))))))))) (fun w1 hM => does_move rfl) ?_
             intro a hA
             refine any_tk hA 4 rfl rfl rfl rfl hP (hM.sub (.cons_cons _ (.cons_cons _ (.cons_cons _ (.cons _ (.cons_cons _ (.cons_cons _ (.cons _ (List.nil_sublist _))))))))) (fun w1 hM => m_loadS hM Wn_isS_37 rfl 1 rfl (cs := [.slice sF258 ((takeR nn fx ix ox).2.2.1.length) cF259, .slice sI260 ((takeR nn fx ix ox).2.2.2.1.length) cI261, .slice sO262 ((takeR nn fx ix ox).2.2.2.2.length) cO263]) rfl rfl) ?_
             intro a hA
             refine any_tk hA 5 rfl rfl rfl rfl hP (hM.sub (.cons_cons _ (.cons_cons _ (.cons_cons _ (.cons _ (.cons_cons _ (.cons_cons _ (.cons _ (List.nil_sublist _))))))))) (fun w1 hM => m_loadS hM Wn_isS_37 rfl 0 rfl (cs := [.slice sF279 ((takeR nn fx ix ox).2.2.1.length) cF280, .slice sI281 ((takeR nn fx ix ox).2.2.2.1.length) cI282, .slice sO283 ((takeR nn fx ix ox).2.2.2.2.length) cO284]) rfl rfl) ?_
             intro a hA
             have hw293 := RwD.facts hM (hR253.mono (fun c hc => (List.mem_cons_of_mem _ (List.mem_cons_of_mem _ (List.mem_cons_of_mem _ (List.mem_cons_of_mem _ (List.mem_cons_of_mem _ (List.mem_cons_of_mem _ (List.mem_cons_of_mem _ hc)))))))))
             have hw294 := RwD.facts hM (hR274.mono (fun c hc => (List.mem_cons_of_mem _ (List.mem_cons_of_mem _ (List.mem_cons_of_mem _ (List.mem_cons_of_mem _ (List.mem_cons_of_mem _ (List.mem_cons_of_mem _ (List.mem_cons_of_mem _ hc)))))))))
             refine any_one (by kernel_rfl) (op_call hA 6 rfl rfl rfl rfl (enters_func rfl rfl (fun w => by kernel_rfl)) (rsame_as  (b := true) hw293.1 hw293.2.1 hw293.2.2.1 hw294.1 hw294.2.1 hw294.2.2.1 (bd_take) (Bd.n (bd_take)) (decide_eq_true ⟨rfl, rfl, rfl⟩)) ?_)
             rintro _ w296 ⟨rfl, hb295⟩
             replace hM := hM.call hb295
             refine ⟨_, rfl, (hM.sub (.cons_cons _ (.cons_cons _ (.cons_cons _ (.cons _ (.cons_cons _ (.cons_cons _ (.cons _ (List.nil_sublist _))))))))), ?_⟩
             intro a hA
             refine any_tk (v := .bool false) hA 7 rfl rfl rfl rfl hP (hM.sub (.cons_cons _ (.cons_cons _ (.cons_cons _ (.cons _ (.cons_cons _ (.cons_cons _ (.cons _ (List.nil_sublist _))))))))) (fun w1 hM => does_un rfl un_not) ?_
             intro a hA
             refine any_tk (v := .bool false) hA 8 rfl rfl rfl rfl hP (hM.sub (.cons_cons _ (.cons_cons _ (.cons_cons _ (.cons _ (.cons_cons _ (.cons_cons _ (.cons _ (List.nil_sublist _))))))))) (fun w1 hM => does_pick rfl rfl rfl rfl) ?_
             intro a hA
             refine any_tk hA 9 rfl rfl rfl rfl hP (hM.sub (.cons_cons _ (.cons_cons _ (.cons_cons _ (.cons _ (.cons_cons _ (.cons_cons _ (.cons _ (List.nil_sublist _))))))))) (fun w1 hM => does_move rfl) ?_
             intro a hA
             refine any_tk hA 10 rfl rfl rfl rfl hP (hM.sub (.cons_cons _ (.cons_cons _ (.cons_cons _ (.cons _ (.cons_cons _ (.cons_cons _ (.cons _ (List.nil_sublist _))))))))) (fun w1 hM => does_move rfl) ?_
             intro a hA
             refine any_tk hA 11 rfl rfl rfl rfl hP (hM.sub (.cons_cons _ (.cons_cons _ (.cons_cons _ (.cons _ (.cons_cons _ (.cons_cons _ (.cons _ (List.nil_sublist _))))))))) (fun w1 hM => does_move rfl) ?_
             intro a hA
             refine any_one (by kernel_rfl) (op_call hA 12 rfl rfl rfl rfl (enters_func rfl rfl (fun w => by kernel_rfl)) (same_as (xs := (takeR nn fx ix ox).1) (ys := (takeR nn fx ix ox).1) (ca := ca267) (cb := ca288) (b := true) (rb_of hM (List.mem_cons_of_mem _ (List.mem_cons_of_mem _ (List.mem_cons_of_mem _ (List.mem_cons_of_mem _ (List.mem_cons_of_mem _ (List.mem_cons_of_mem _ (List.mem_cons_of_mem _ hp265)))))))) (rb_of hM (List.mem_cons_of_mem _ (List.mem_cons_of_mem _ (List.mem_cons_of_mem _ (List.mem_cons_of_mem _ (List.mem_cons_of_mem _ (List.mem_cons_of_mem _ (List.mem_cons_of_mem _ hp286)))))))) bd_taken (decide_eq_true rfl)) ?_)
             rintro _ w298 ⟨rfl, hb297⟩
             replace hM := hM.call hb297
             refine ⟨_, rfl, (hM.sub (.cons_cons _ (.cons_cons _ (.cons_cons _ (.cons _ (.cons_cons _ (.cons_cons _ (.cons _ (List.nil_sublist _))))))))), ?_⟩
             intro a hA
             refine any_tk (v := .bool false) hA 13 rfl rfl rfl rfl hP (hM.sub (.cons_cons _ (.cons_cons _ (.cons_cons _ (.cons _ (.cons_cons _ (.cons_cons _ (.cons _ (List.nil_sublist _))))))))) (fun w1 hM => does_un rfl un_not) ?_
             intro a hA
             refine any_tk (v := .bool false) hA 14 rfl rfl rfl rfl hP (hM.sub (.cons_cons _ (.cons_cons _ (.cons_cons _ (.cons _ (.cons_cons _ (.cons_cons _ (.cons _ (List.nil_sublist _))))))))) (fun w1 hM => does_pick rfl rfl rfl rfl) ?_
             intro a hA
             refine any_tk hA 15 rfl rfl rfl rfl hP (hM.sub (.cons_cons _ (.cons_cons _ (.cons_cons _ (.cons _ (.cons_cons _ (.cons_cons _ (.cons _ (List.nil_sublist _))))))))) (fun w1 hM => does_move rfl) ?_
             intro a hA
             refine any_tk hA 16 rfl rfl rfl rfl hP (hM.sub (.cons_cons _ (.cons_cons _ (.cons_cons _ (.cons _ (.cons_cons _ (.cons_cons _ (.cons _ (List.nil_sublist _))))))))) (fun w1 hM => m_loadS hM Wn_isS_37 rfl 3 rfl (cs := [.slice sU1 fx.length cU1, .slice sU2 ix.length cU2, .slice sU3 ox.length cU3]) rfl rfl) ?_
             intro a hA
             refine any_tk hA 17 rfl rfl rfl rfl hP (hM.sub (.cons_cons _ (.cons_cons _ (.cons_cons _ (.cons _ (.cons_cons _ (.cons_cons _ (.cons _ (List.nil_sublist _))))))))) (fun w1 hM => m_loadS hM Wn_isS_37 rfl 2 rfl (cs := [.slice sF46 fx.length cF47, .slice sI48 ix.length cI49, .slice sO50 ox.length cO51]) rfl rfl) ?_
             intro a hA
             have hw299 := RwD.facts hM (hRu.mono (fun c hc => (List.mem_cons_of_mem _ (List.mem_cons_of_mem _ (List.mem_cons_of_mem _ (List.mem_cons_of_mem _ (List.mem_cons_of_mem _ (List.mem_cons_of_mem _ (List.mem_cons_of_mem _ hc)))))))))
             have hw300 := RwD.facts hM (hR41.mono (fun c hc => (List.mem_cons_of_mem _ (List.mem_cons_of_mem _ (List.mem_cons_of_mem _ (List.mem_cons_of_mem _ (List.mem_cons_of_mem _ (List.mem_cons_of_mem _ (List.mem_cons_of_mem _ hc)))))))))
             refine any_one (by kernel_rfl) (op_call hA 18 rfl rfl rfl rfl (enters_func rfl rfl (fun w => by kernel_rfl)) (rsame_as  (b := true) hw299.1 hw299.2.1 hw299.2.2.1 hw300.1 hw300.2.1 hw300.2.2.1 hBx (Bd.n hBx) (decide_eq_true ⟨rfl, rfl, rfl⟩)) ?_)
             rintro _ w302 ⟨rfl, hb301⟩
             replace hM := hM.call hb301
             refine ⟨_, rfl, (hM.sub (.cons_cons _ (.cons_cons _ (.cons_cons _ (.cons _ (.cons_cons _ (.cons_cons _ (.cons _ (List.nil_sublist _))))))))), ?_⟩
             intro a hA
             refine any_tk (v := .bool false) hA 19 rfl rfl rfl rfl hP (hM.sub (.cons_cons _ (.cons_cons _ (.cons_cons _ (.cons _ (.cons_cons _ (.cons_cons _ (.cons _ (List.nil_sublist _))))))))) (fun w1 hM => does_un rfl un_not) ?_
             intro a hA
             refine any_tk (v := .bool false) hA 20 rfl rfl rfl rfl hP (hM.sub (.cons_cons _ (.cons_cons _ (.cons_cons _ (.cons _ (.cons_cons _ (.cons_cons _ (.cons _ (List.nil_sublist _))))))))) (fun w1 hM => does_pick rfl rfl rfl rfl) ?_
             intro a hA
             refine any_tk hA 21 rfl rfl rfl rfl hP (hM.sub (.cons_cons _ (.cons_cons _ (.cons_cons _ (.cons _ (.cons_cons _ (.cons_cons _ (.cons _ (List.nil_sublist _))))))))) (fun w1 hM => does_move rfl) ?_
             intro a hA
             refine any_tk hA 22 rfl rfl rfl rfl hP (hM.sub (.cons_cons _ (.cons_cons _ (.cons_cons _ (.cons _ (.cons_cons _ (.cons_cons _ (.cons _ (List.nil_sublist _))))))))) (fun w1 hM => m_loadS hM Wn_isS_37 rfl 3 rfl (cs := [.slice sU1 fx.length cU1, .slice sU2 ix.length cU2, .slice sU3 ox.length cU3]) rfl rfl) ?_
             intro a hA
             refine any_tk hA 24 rfl rfl rfl rfl hP (hM.sub (.cons_cons _ (.cons_cons _ (.cons_cons _ (.cons _ (.cons_cons _ (.cons_cons _ (.cons _ (List.nil_sublist _))))))))) (fun w1 hM => m_loadS hM Wn_isS_37 rfl 4 rfl (cs := [.slice sV1 fx.length cV1, .slice sV2 ix.length cV2, .slice sV3 ox.length cV3]) rfl rfl) ?_
             intro a hA
             have hw303 := RwD.facts hM (hRu.mono (fun c hc => (List.mem_cons_of_mem _ (List.mem_cons_of_mem _ (List.mem_cons_of_mem _ (List.mem_cons_of_mem _ (List.mem_cons_of_mem _ (List.mem_cons_of_mem _ (List.mem_cons_of_mem _ hc)))))))))
             refine any_one (by kernel_rfl) (op_call hA 23 rfl rfl rfl rfl (enters_func rfl rfl (fun w => by kernel_rfl)) (sound_any (cF_ := cU1) (cI := cU2) (cO := cU3) (fs := fx) (il := ix) (ol := ox) hw303.1 hBx.n) ?_)
             rintro _ w305 ⟨rfl, hb304⟩
             replace hM := hM.call hb304
             refine ⟨_, rfl, (hM.sub (.cons_cons _ (.cons_cons _ (.cons_cons _ (.cons _ (.cons_cons _ (.cons_cons _ (.cons _ (List.nil_sublist _))))))))), ?_⟩
             intro a hA
             have hw306 := RwD.facts hM (hRv.mono (fun c hc => (List.mem_cons_of_mem _ (List.mem_cons_of_mem _ (List.mem_cons_of_mem _ (List.mem_cons_of_mem _ (List.mem_cons_of_mem _ (List.mem_cons_of_mem _ (List.mem_cons_of_mem _ hc)))))))))
             refine any_one (by kernel_rfl) (op_call hA 25 rfl rfl rfl rfl (enters_func rfl rfl (fun w => by kernel_rfl)) (rsound_any (cF_ := cV1) (cI := cV2) (cO := cV3) (fs := fx) (il := ix) (ol := ox) hw306.1 hBx.n) ?_)
             rintro _ w308 ⟨rfl, hb307⟩
             replace hM := hM.call hb307
             refine ⟨_, rfl, (hM.sub (.cons_cons _ (.cons_cons _ (.cons_cons _ (.cons _ (.cons_cons _ (.cons_cons _ (.cons _ (List.nil_sublist _))))))))), ?_⟩
             intro a hA
             refine any_tk (v := .bool false) hA 26 rfl rfl rfl rfl hP (hM.sub (.cons_cons _ (.cons_cons _ (.cons_cons _ (.cons _ (.cons_cons _ (.cons_cons _ (.cons _ (List.nil_sublist _))))))))) (fun w1 hM => does_bin rfl rfl (fun w => ((bin_neqB Try.underlying4) w).trans (by rw [show (!(soundS fx ix ox == soundS fx ix ox)) = false from by simp]))) ?_
             intro a hA
             refine any_tk (v := .bool false) hA 27 rfl rfl rfl rfl hP (hM.sub (.cons_cons _ (.cons_cons _ (.cons_cons _ (.cons _ (.cons_cons _ (.cons_cons _ (.cons _ (List.nil_sublist _))))))))) (fun w1 hM => does_pick rfl rfl rfl rfl) ?_
             intro a hA
             refine any_end (by kernel_rfl) ?_
             refine hK292 _ _ ?_
             refine wp_cond_false (hA.ev rfl) ?_
             refine wp_skip ?_
             refine hK291 _ _ ?_
             refine wp_seq_k (fun K309 hK309 => ?_)
             replace hA := hA.keep [(1, .slice sS os.length cS), (5, .pointer (some ⟨ga, 0, none⟩)), (6, .pointer (some ⟨gb, 0, none⟩)), (7, .int .i64 (((i : Nat) : Int))), (8, .pointer (some ⟨g30, 0, none⟩)), (9, .pointer (some ⟨g53, 0, none⟩)), (10, .pointer (some ⟨g61, 0, none⟩)), (11, .pointer (some ⟨g63, 0, none⟩)), (12, .slice so266 ((takeR nn fx ix ox).1.length) ca267), (13, .slice so287 ((takeR nn fx ix ox).1.length) ca288), (14, .int .i64 ((takeR nn fx ix ox).2.1)), (15, .int .i64 ((takeR nn fx ix ox).2.1)), (35, .int .i64 kd)] ⟨rfl, rfl, rfl, rfl, rfl, rfl, rfl, rfl, rfl, rfl, rfl, rfl, rfl, trivial⟩
             refine wp_region_lit ?_
             refine seq_do hA rfl rfl rfl (does_move rfl) ?_
             intro a hA
             rcases Bool.eq_false_or_eq_true (((takeR nn fx ix ox).2.1 == 0)) with hb310 | hb310
             · have hb310' := eq_of_beq hb310
               refine seq_do (v := .bool true) hA rfl rfl rfl (does_bin rfl rfl (fun w => (bin_eql w).trans (by rw [hb310]))) ?_
               intro a hA
               refine seq_do hA rfl rfl rfl (does_move rfl) ?_
               intro a hA
               refine seq_do (v := .pointer (some ⟨g30, 0, none⟩)) hA rfl rfl rfl (does_field Wn_fld_41_0 rfl rfl) ?_
               intro a hA
               refine seq_do hA rfl rfl rfl (m_load1 hM Wn_is1_3 rfl 3 rfl rfl) ?_
               intro a hA
               refine seq_do (v := .bool true) hA rfl rfl rfl (does_bin rfl rfl (fun w => (bin_geq w).trans (by rw [show (decide (1 ≤ kd)) = true from decide_eq_true (by omega)]))) ?_
               intro a hA
               refine seq_do (v := .bool true) hA rfl rfl rfl (does_pick rfl rfl rfl rfl) ?_
               intro a hA
               refine seq_do hA rfl rfl rfl (does_move rfl) ?_
               intro a hA
               refine seq_do (v := .pointer (some ⟨g30, 0, none⟩)) hA rfl rfl rfl (does_field Wn_fld_41_0 rfl rfl) ?_
               intro a hA
               refine seq_do hA rfl rfl rfl (m_load1 hM Wn_is1_3 rfl 3 rfl rfl) ?_
               intro a hA
               refine seq_do (v := .bool true) hA rfl rfl rfl (does_bin rfl rfl (fun w => (bin_leq w).trans (by rw [show (decide (kd ≤ 5)) = true from decide_eq_true (by omega)]))) ?_
               intro a hA
               refine seq_do (v := .bool true) hA rfl rfl rfl (does_pick rfl rfl rfl rfl) ?_
               intro a hA
               refine seq_end ?_
               refine hK309 _ _ ?_
               refine wp_cond_true (hA.ev rfl) ?_
               replace hA := hA.keep [(1, .slice sS os.length cS), (5, .pointer (some ⟨ga, 0, none⟩)), (6, .pointer (some ⟨gb, 0, none⟩)), (7, .int .i64 (((i : Nat) : Int))), (8, .pointer (some ⟨g30, 0, none⟩)), (9, .pointer (some ⟨g53, 0, none⟩)), (10, .pointer (some ⟨g61, 0, none⟩)), (11, .pointer (some ⟨g63, 0, none⟩)), (12, .slice so266 ((takeR nn fx ix ox).1.length) ca267), (13, .slice so287 ((takeR nn fx ix ox).1.length) ca288), (14, .int .i64 ((takeR nn fx ix ox).2.1)), (15, .int .i64 ((takeR nn fx ix ox).2.1)), (35, .int .i64 kd)] ⟨rfl, rfl, rfl, rfl, rfl, rfl, rfl, rfl, rfl, rfl, rfl, rfl, rfl, trivial⟩
               refine wp_draw (S := fun w1 => Mg w w1 (.obj g63 (.cells #[.slice sF279 ((takeR nn fx ix ox).2.2.1.length) cF280, .slice sI281 ((takeR nn fx ix ox).2.2.2.1.length) cI282, .slice sO283 ((takeR nn fx ix ox).2.2.2.2.length) cO284] 37) :: .obj g61 (.cells #[.slice sF258 ((takeR nn fx ix ox).2.2.1.length) cF259, .slice sI260 ((takeR nn fx ix ox).2.2.2.1.length) cI261, .slice sO262 ((takeR nn fx ix ox).2.2.2.2.length) cO263] 37) :: [])) (by kernel_rfl) ?_
               replace hM := hM.drew
               refine any_tk hA 0 rfl rfl rfl rfl hP (hM.sub (.cons_cons _ (.cons_cons _ (.cons _ (.cons _ (.cons _ (.cons _ (.cons _ (List.nil_sublist _))))))))) (fun w1 hM => m_loadS hM Wn_isS_37 rfl 1 rfl (cs := [.slice sF258 ((takeR nn fx ix ox).2.2.1.length) cF259, .slice sI260 ((takeR nn fx ix ox).2.2.2.1.length) cI261, .slice sO262 ((takeR nn fx ix ox).2.2.2.2.length) cO263]) rfl rfl) ?_
               intro a hA
               refine any_tk hA 1 rfl rfl rfl rfl hP (hM.sub (.cons_cons _ (.cons_cons _ (.cons _ (.cons _ (.cons _ (.cons _ (.cons _ (List.nil_sublist _))))))))) (fun w1 hM => m_loadS hM Wn_isS_37 rfl 0 rfl (cs := [.slice sF279 ((takeR nn fx ix ox).2.2.1.length) cF280, .slice sI281 ((takeR nn fx ix ox).2.2.2.1.length) cI282, .slice sO283 ((takeR nn fx ix ox).2.2.2.2.length) cO284]) rfl rfl) ?_
               intro a hA
               refine any_one (by kernel_rfl) (g_store (us := [.slice sF258 ((takeR nn fx ix ox).2.2.1.length) cF259, .slice sI260 ((takeR nn fx ix ox).2.2.2.1.length) cI261, .slice sO262 ((takeR nn fx ix ox).2.2.2.2.length) cO263]) (L' := (.obj g63 (.cells #[.slice sF279 ((takeR nn fx ix ox).2.2.1.length) cF280, .slice sI281 ((takeR nn fx ix ox).2.2.2.1.length) cI282, .slice sO283 ((takeR nn fx ix ox).2.2.2.2.length) cO284] 37) :: .obj g61 (.cells #[.slice sF258 ((takeR nn fx ix ox).2.2.1.length) cF259, .slice sI260 ((takeR nn fx ix ox).2.2.2.1.length) cI261, .slice sO262 ((takeR nn fx ix ox).2.2.2.2.length) cO263] 37) :: .obj g53 (.cells #[.slice sF46 fx.length cF47, .slice sI48 ix.length cI49, .slice sO50 ox.length cO51] 37) :: .obj g30 (.cells #[.int .i64 kd, .int .i64 nn, .string nm, .slice sd d.length cd] 41) :: .obj ga (.cells #[.slice sF258 ((takeR nn fx ix ox).2.2.1.length) cF259, .slice sI260 ((takeR nn fx ix ox).2.2.2.1.length) cI261, .slice sO262 ((takeR nn fx ix ox).2.2.2.2.length) cO263] 37) :: .obj gb (.cells #[.slice sV1 fx.length cV1, .slice sV2 ix.length cV2, .slice sV3 ox.length cV3] 37) :: .obj g2 (.cells #[.slice sF fs.length cF_, .slice sI il.length cI, .slice sO ol.length cO] 37) :: D276)) hA hM 2 rfl rfl rfl (m_store rfl rfl rfl (by kernel_rfl) hM 4 rfl rfl rfl) 4 rfl rfl rfl ?_)
               intro w311 hM
               refine ⟨(hM.sub (.cons_cons _ (.cons_cons _ (.cons _ (.cons _ (.cons _ (.cons _ (.cons _ (List.nil_sublist _))))))))), ?_⟩
               refine any_one (by kernel_rfl) (g_store (us := [.slice sF279 ((takeR nn fx ix ox).2.2.1.length) cF280, .slice sI281 ((takeR nn fx ix ox).2.2.2.1.length) cI282, .slice sO283 ((takeR nn fx ix ox).2.2.2.2.length) cO284]) (L' := (.obj g63 (.cells #[.slice sF279 ((takeR nn fx ix ox).2.2.1.length) cF280, .slice sI281 ((takeR nn fx ix ox).2.2.2.1.length) cI282, .slice sO283 ((takeR nn fx ix ox).2.2.2.2.length) cO284] 37) :: .obj g61 (.cells #[.slice sF258 ((takeR nn fx ix ox).2.2.1.length) cF259, .slice sI260 ((takeR nn fx ix ox).2.2.2.1.length) cI261, .slice sO262 ((takeR nn fx ix ox).2.2.2.2.length) cO263] 37) :: .obj g53 (.cells #[.slice sF46 fx.length cF47, .slice sI48 ix.length cI49, .slice sO50 ox.length cO51] 37) :: .obj g30 (.cells #[.int .i64 kd, .int .i64 nn, .string nm, .slice sd d.length cd] 41) :: .obj ga (.cells #[.slice sF258 ((takeR nn fx ix ox).2.2.1.length) cF259, .slice sI260 ((takeR nn fx ix ox).2.2.2.1.length) cI261, .slice sO262 ((takeR nn fx ix ox).2.2.2.2.length) cO263] 37) :: .obj gb (.cells #[.slice sF279 ((takeR nn fx ix ox).2.2.1.length) cF280, .slice sI281 ((takeR nn fx ix ox).2.2.2.1.length) cI282, .slice sO283 ((takeR nn fx ix ox).2.2.2.2.length) cO284] 37) :: .obj g2 (.cells #[.slice sF fs.length cF_, .slice sI il.length cI, .slice sO ol.length cO] 37) :: D276)) hA hM 3 rfl rfl rfl (m_store rfl rfl rfl (by kernel_rfl) hM 5 rfl rfl rfl) 5 rfl rfl rfl ?_)
               intro w312 hM
               refine ⟨(hM.sub (.cons_cons _ (.cons_cons _ (.cons _ (.cons _ (.cons _ (.cons _ (.cons _ (List.nil_sublist _))))))))), ?_⟩
               refine any_end (by kernel_rfl) ?_
               refine hK19 _ _ ?_
               replace hA := hA.keep [(1, .slice sS os.length cS), (5, .pointer (some ⟨ga, 0, none⟩)), (6, .pointer (some ⟨gb, 0, none⟩)), (7, .int .i64 (((i : Nat) : Int))), (8, .pointer (some ⟨g30, 0, none⟩)), (9, .pointer (some ⟨g53, 0, none⟩)), (10, .pointer (some ⟨g61, 0, none⟩)), (11, .pointer (some ⟨g63, 0, none⟩)), (12, .slice so266 ((takeR nn fx ix ox).1.length) ca267), (13, .slice so287 ((takeR nn fx ix ox).1.length) ca288), (14, .int .i64 ((takeR nn fx ix ox).2.1)), (15, .int .i64 ((takeR nn fx ix ox).2.1)), (35, .int .i64 kd)] ⟨rfl, rfl, rfl, rfl, rfl, rfl, rfl, rfl, rfl, rfl, rfl, rfl, rfl, trivial⟩
               refine wp_region_lit ?_
               refine seq_do hA rfl rfl rfl (does_move rfl) ?_
               intro a hA
               refine seq_do (v := .int .i64 (((i + 1 : Nat) : Int))) hA rfl rfl rfl (does_bin rfl rfl (ar_add ((in_i64 (by omega) (by omega)).trans (by omega)))) ?_
               intro a hA
               refine seq_do hA rfl rfl rfl (does_assign rfl) ?_
               intro a hA
               refine seq_end ?_
               replace hM : Mg w w312 (.obj ga (.cells #[.slice sF258 ((takeR nn fx ix ox).2.2.1.length) cF259, .slice sI260 ((takeR nn fx ix ox).2.2.2.1.length) cI261, .slice sO262 ((takeR nn fx ix ox).2.2.2.2.length) cO263] 37) :: .obj gb (.cells #[.slice sF279 ((takeR nn fx ix ox).2.2.1.length) cF280, .slice sI281 ((takeR nn fx ix ox).2.2.2.1.length) cI282, .slice sO283 ((takeR nn fx ix ox).2.2.2.2.length) cO284] 37) :: .obj g2 (.cells #[.slice sF fs.length cF_, .slice sI il.length cI, .slice sO ol.length cO] 37) :: D276) := by
                 have h9 := hM.sub (.cons _ (.cons _ (.cons _ (.cons _ (.cons_cons _ (.cons_cons _ (.cons_cons _ (.refl _))))))))
                 exact h9
               refine hK14 _ _ _ (by omega) ⟨i + 1, (takeR nn fx ix ox).2.2.1, (takeR nn fx ix ox).2.2.2.1, (takeR nn fx ix ox).2.2.2.2, sF258, cF259, sI260, cI261, sO262, cO263, sF279, cF280, sI281, cI282, sO283, cO284, D276, rfl, ⟨hR253, hR274, hnD276, (bd_take), by omega⟩, hA.keep _ ⟨rfl, rfl, rfl, rfl, trivial⟩, hM⟩
             · have hb310' := ne_of_beq_false hb310
               refine seq_do (v := .bool false) hA rfl rfl rfl (does_bin rfl rfl (fun w => (bin_eql w).trans (by rw [hb310]))) ?_
               intro a hA
               refine seq_do hA rfl rfl rfl (does_move rfl) ?_
               intro a hA
               refine seq_skip hA rfl rfl rfl ?_
               intro a hA
               refine seq_skip hA rfl rfl rfl ?_
               intro a hA
               refine seq_skip hA rfl rfl rfl ?_
               intro a hA
               refine seq_do (v := .bool false) hA rfl rfl rfl (does_pick rfl rfl rfl rfl) ?_
               intro a hA
               refine seq_do hA rfl rfl rfl (does_move rfl) ?_
               intro a hA
               refine seq_skip hA rfl rfl rfl ?_
               intro a hA
               refine seq_skip hA rfl rfl rfl ?_
               intro a hA
               refine seq_skip hA rfl rfl rfl ?_
               intro a hA
               refine seq_do (v := .bool false) hA rfl rfl rfl (does_pick rfl rfl rfl rfl) ?_
               intro a hA
               refine seq_end ?_
               refine hK309 _ _ ?_
               refine wp_cond_false (hA.ev rfl) ?_
               refine wp_skip ?_
               refine hK19 _ _ ?_
               replace hA := hA.keep [(1, .slice sS os.length cS), (5, .pointer (some ⟨ga, 0, none⟩)), (6, .pointer (some ⟨gb, 0, none⟩)), (7, .int .i64 (((i : Nat) : Int))), (8, .pointer (some ⟨g30, 0, none⟩)), (9, .pointer (some ⟨g53, 0, none⟩)), (10, .pointer (some ⟨g61, 0, none⟩)), (11, .pointer (some ⟨g63, 0, none⟩)), (12, .slice so266 ((takeR nn fx ix ox).1.length) ca267), (13, .slice so287 ((takeR nn fx ix ox).1.length) ca288), (14, .int .i64 ((takeR nn fx ix ox).2.1)), (15, .int .i64 ((takeR nn fx ix ox).2.1)), (35, .int .i64 kd)] ⟨rfl, rfl, rfl, rfl, rfl, rfl, rfl, rfl, rfl, rfl, rfl, rfl, rfl, trivial⟩
               refine wp_region_lit ?_
               refine seq_do hA rfl rfl rfl (does_move rfl) ?_
               intro a hA
               refine seq_do (v := .int .i64 (((i + 1 : Nat) : Int))) hA rfl rfl rfl (does_bin rfl rfl (ar_add ((in_i64 (by omega) (by omega)).trans (by omega)))) ?_
               intro a hA
               refine seq_do hA rfl rfl rfl (does_assign rfl) ?_
               intro a hA
               refine seq_end ?_
               replace hM : Mg w w308 (.obj ga (.cells #[.slice sU1 fx.length cU1, .slice sU2 ix.length cU2, .slice sU3 ox.length cU3] 37) :: .obj gb (.cells #[.slice sV1 fx.length cV1, .slice sV2 ix.length cV2, .slice sV3 ox.length cV3] 37) :: .obj g2 (.cells #[.slice sF fs.length cF_, .slice sI il.length cI, .slice sO ol.length cO] 37) :: D276) := by
                 have h9 := hM.sub (.cons _ (.cons _ (.cons _ (.cons _ (.cons_cons _ (.cons_cons _ (.cons_cons _ (.refl _))))))))
                 exact h9
               refine hK14 _ _ _ (by omega) ⟨i + 1, fx, ix, ox, sU1, cU1, sU2, cU2, sU3, cU3, sV1, cV1, sV2, cV2, sV3, cV3, D276, rfl, ⟨hRu, hRv, hnD276, hBx, by omega⟩, hA.keep _ ⟨rfl, rfl, rfl, rfl, trivial⟩, hM⟩
           · have hb247' := ne_of_beq_false hb247
             refine seq_do (v := .bool false) hA rfl rfl rfl (does_bin rfl rfl (fun w => (bin_eql w).trans (by rw [hb247]))) ?_
             intro a hA
             refine seq_do hA rfl rfl rfl (does_assign rfl) ?_
             intro a hA
             refine seq_end ?_
             refine hK246 _ _ ?_
             refine wp_cond_false (hA.ev rfl) ?_
             refine wp_seq_k (fun K313 hK313 => ?_)
             replace hA := hA.keep [(1, .slice sS os.length cS), (5, .pointer (some ⟨ga, 0, none⟩)), (6, .pointer (some ⟨gb, 0, none⟩)), (7, .int .i64 (((i : Nat) : Int))), (8, .pointer (some ⟨g30, 0, none⟩)), (9, .pointer (some ⟨g53, 0, none⟩)), (10, .pointer (some ⟨g61, 0, none⟩)), (11, .pointer (some ⟨g63, 0, none⟩)), (12, .slice none 0 0), (13, .slice none 0 0), (14, .int .i64 0), (15, .int .i64 0), (35, .int .i64 kd)] ⟨rfl, rfl, rfl, rfl, rfl, rfl, rfl, rfl, rfl, rfl, rfl, rfl, rfl, trivial⟩
             refine wp_region_lit ?_
             rcases Bool.eq_false_or_eq_true ((kd == 5)) with hb314 | hb314
             · have hb314' := eq_of_beq hb314
               refine seq_do (v := .bool true) hA rfl rfl rfl (does_bin rfl rfl (fun w => (bin_eql w).trans (by rw [hb314]))) ?_
               intro a hA
               refine seq_do hA rfl rfl rfl (does_assign rfl) ?_
               intro a hA
               refine seq_end ?_
               refine hK313 _ _ ?_
               refine wp_cond_true (hA.ev rfl) ?_
               refine wp_seq_k (fun K315 hK315 => ?_)
               replace hA := hA.keep [(1, .slice sS os.length cS), (5, .pointer (some ⟨ga, 0, none⟩)), (6, .pointer (some ⟨gb, 0, none⟩)), (7, .int .i64 (((i : Nat) : Int))), (8, .pointer (some ⟨g30, 0, none⟩)), (9, .pointer (some ⟨g53, 0, none⟩)), (10, .pointer (some ⟨g61, 0, none⟩)), (11, .pointer (some ⟨g63, 0, none⟩)), (12, .slice none 0 0), (13, .slice none 0 0), (14, .int .i64 0), (15, .int .i64 0), (35, .int .i64 kd)] ⟨rfl, rfl, rfl, rfl, rfl, rfl, rfl, rfl, rfl, rfl, rfl, rfl, rfl, trivial⟩
               refine wp_region_lit ?_
               refine seq_do hA rfl rfl rfl (m_loadS hM Wn_isS_37 rfl 4 rfl (cs := [.slice sU1 fx.length cU1, .slice sU2 ix.length cU2, .slice sU3 ox.length cU3]) rfl rfl) ?_
               intro a hA
               refine seq_do (v := .pointer (some ⟨g30, 3, none⟩)) hA rfl rfl rfl (does_field Wn_fld_41_3 rfl rfl) ?_
               intro a hA
               refine seq_do hA rfl rfl rfl (m_load1 hM Wn_is1_24 rfl 3 rfl rfl) ?_
               intro a hA
               have hw316 := RwD.facts hM (hRu.mono (fun c hc => (List.mem_cons_of_mem _ (List.mem_cons_of_mem _ (List.mem_cons_of_mem _ (List.mem_cons_of_mem _ (List.mem_cons_of_mem _ (List.mem_cons_of_mem _ (List.mem_cons_of_mem _ hc)))))))))
               refine seq_call hA rfl rfl rfl (enters_func rfl rfl (fun w => by kernel_rfl)) (say_any (d := d) (cd := cd) (cF_ := cU1) (cI := cU2) (cO := cU3) (fs := fx) (il := ix) (ol := ox) hw316.1 hw316.2.1 hw316.2.2.1 hBx.n (hbd.below hM.bel) hdl) ?_
               rintro _ w331 ⟨V317, hM318L, rfl, hM318, hnL319, hR320⟩
               obtain ⟨sF325, cF326, sI327, cI328, sO329, cO330, rfl, _⟩ := RwD.open_ hM318 hR320
               obtain ⟨D322, hg321, hnD322, hs323, hs324⟩ := grow [_, _, _, _, _, _, _] (D := D58) hM hM318 (noBld_cons (by simp) (noBld_cons (by simp) (noBld_cons (by simp) (noBld_cons (by simp) (noBld_cons (by simp) (noBld_cons (by simp) (noBld_cons (by simp) hnD58))))))) hnL319
               replace hRu := hRu.mono hs323
               replace hRv := hRv.mono hs323
               replace hR41 := hR41.mono hs323
               replace hz60 := hz60.mono hs323
               replace hR320 := hR320.mono hs324
               replace hM : Mg w w331 (.obj g63 (.cells #[.slice none 0 0, .slice none 0 0, .slice none 0 0] 37) :: .obj g61 (.cells #[.slice none 0 0, .slice none 0 0, .slice none 0 0] 37) :: .obj g53 (.cells #[.slice sF46 fx.length cF47, .slice sI48 ix.length cI49, .slice sO50 ox.length cO51] 37) :: .obj g30 (.cells #[.int .i64 kd, .int .i64 nn, .string nm, .slice sd d.length cd] 41) :: .obj ga (.cells #[.slice sU1 fx.length cU1, .slice sU2 ix.length cU2, .slice sU3 ox.length cU3] 37) :: .obj gb (.cells #[.slice sV1 fx.length cV1, .slice sV2 ix.length cV2, .slice sV3 ox.length cV3] 37) :: .obj g2 (.cells #[.slice sF fs.length cF_, .slice sI il.length cI, .slice sO ol.length cO] 37) :: D322) := hg321
               refine ⟨_, rfl, ?_⟩
               intro a hA
               refine seq_do hA rfl rfl rfl (does_move rfl) ?_
               intro a hA
               refine seq_do (v := .agg #[.slice sF325 ((sayR d fx ix ox).2.1.length) cF326, .slice sI327 ((sayR d fx ix ox).2.2.1.length) cI328, .slice sO329 ((sayR d fx ix ox).2.2.2.length) cO330]) hA rfl rfl rfl (does_extract (vs := [.agg #[.slice sF325 ((sayR d fx ix ox).2.1.length) cF326, .slice sI327 ((sayR d fx ix ox).2.2.1.length) cI328, .slice sO329 ((sayR d fx ix ox).2.2.2.length) cO330], .int .i64 ((sayR d fx ix ox).1)]) rfl rfl) ?_
               intro a hA
               refine seq_do (v := .int .i64 ((sayR d fx ix ox).1)) hA rfl rfl rfl (does_extract (vs := [.agg #[.slice sF325 ((sayR d fx ix ox).2.1.length) cF326, .slice sI327 ((sayR d fx ix ox).2.2.1.length) cI328, .slice sO329 ((sayR d fx ix ox).2.2.2.length) cO330], .int .i64 ((sayR d fx ix ox).1)]) rfl rfl) ?_
               intro a hA
               refine s_store (us := [.slice sF325 ((sayR d fx ix ox).2.1.length) cF326, .slice sI327 ((sayR d fx ix ox).2.2.1.length) cI328, .slice sO329 ((sayR d fx ix ox).2.2.2.length) cO330]) (L' := (.obj g63 (.cells #[.slice none 0 0, .slice none 0 0, .slice none 0 0] 37) :: .obj g61 (.cells #[.slice sF325 ((sayR d fx ix ox).2.1.length) cF326, .slice sI327 ((sayR d fx ix ox).2.2.1.length) cI328, .slice sO329 ((sayR d fx ix ox).2.2.2.length) cO330] 37) :: .obj g53 (.cells #[.slice sF46 fx.length cF47, .slice sI48 ix.length cI49, .slice sO50 ox.length cO51] 37) :: .obj g30 (.cells #[.int .i64 kd, .int .i64 nn, .string nm, .slice sd d.length cd] 41) :: .obj ga (.cells #[.slice sU1 fx.length cU1, .slice sU2 ix.length cU2, .slice sU3 ox.length cU3] 37) :: .obj gb (.cells #[.slice sV1 fx.length cV1, .slice sV2 ix.length cV2, .slice sV3 ox.length cV3] 37) :: .obj g2 (.cells #[.slice sF fs.length cF_, .slice sI il.length cI, .slice sO ol.length cO] 37) :: D322)) hA hM rfl rfl (m_store rfl rfl rfl (by kernel_rfl) hM 1 rfl rfl rfl) 1 rfl rfl rfl ?_
               intro w332 hM
               refine seq_do hA rfl rfl rfl (does_assign rfl) ?_
               intro a hA
               refine seq_end ?_
               refine hK315 _ _ ?_
               replace hA := hA.keep [(1, .slice sS os.length cS), (5, .pointer (some ⟨ga, 0, none⟩)), (6, .pointer (some ⟨gb, 0, none⟩)), (7, .int .i64 (((i : Nat) : Int))), (8, .pointer (some ⟨g30, 0, none⟩)), (9, .pointer (some ⟨g53, 0, none⟩)), (10, .pointer (some ⟨g61, 0, none⟩)), (11, .pointer (some ⟨g63, 0, none⟩)), (12, .slice none 0 0), (13, .slice none 0 0), (14, .int .i64 ((sayR d fx ix ox).1)), (15, .int .i64 0), (35, .int .i64 kd)] ⟨rfl, rfl, rfl, rfl, rfl, rfl, rfl, rfl, rfl, rfl, rfl, rfl, rfl, trivial⟩
               refine wp_region_lit ?_
               refine seq_do hA rfl rfl rfl (m_loadS hM Wn_isS_37 rfl 5 rfl (cs := [.slice sV1 fx.length cV1, .slice sV2 ix.length cV2, .slice sV3 ox.length cV3]) rfl rfl) ?_
               intro a hA
               refine seq_do (v := .pointer (some ⟨g30, 3, none⟩)) hA rfl rfl rfl (does_field Wn_fld_41_3 rfl rfl) ?_
               intro a hA
               refine seq_do hA rfl rfl rfl (m_load1 hM Wn_is1_24 rfl 3 rfl rfl) ?_
               intro a hA
               have hw333 := RwD.facts hM (hRv.mono (fun c hc => (List.mem_cons_of_mem _ (List.mem_cons_of_mem _ (List.mem_cons_of_mem _ (List.mem_cons_of_mem _ (List.mem_cons_of_mem _ (List.mem_cons_of_mem _ (List.mem_cons_of_mem _ hc)))))))))
               refine seq_call hA rfl rfl rfl (enters_func rfl rfl (fun w => by kernel_rfl)) (rsay_any (d := d) (cd := cd) (cF_ := cV1) (cI := cV2) (cO := cV3) (fs := fx) (il := ix) (ol := ox) hw333.1 hw333.2.1 hw333.2.2.1 hBx.n (hbd.below hM.bel) hdl) ?_
               rintro _ w348 ⟨V334, hM335L, rfl, hM335, hnL336, hR337⟩
               obtain ⟨sF342, cF343, sI344, cI345, sO346, cO347, rfl, _⟩ := RwD.open_ hM335 hR337
               obtain ⟨D339, hg338, hnD339, hs340, hs341⟩ := grow [_, _, _, _, _, _, _] (D := D322) hM hM335 (noBld_cons (by simp) (noBld_cons (by simp) (noBld_cons (by simp) (noBld_cons (by simp) (noBld_cons (by simp) (noBld_cons (by simp) (noBld_cons (by simp) hnD322))))))) hnL336
               replace hRu := hRu.mono hs340
               replace hRv := hRv.mono hs340
               replace hR41 := hR41.mono hs340
               replace hz60 := hz60.mono hs340
               replace hR320 := hR320.mono hs340
               replace hR337 := hR337.mono hs341
               replace hM : Mg w w348 (.obj g63 (.cells #[.slice none 0 0, .slice none 0 0, .slice none 0 0] 37) :: .obj g61 (.cells #[.slice sF325 ((sayR d fx ix ox).2.1.length) cF326, .slice sI327 ((sayR d fx ix ox).2.2.1.length) cI328, .slice sO329 ((sayR d fx ix ox).2.2.2.length) cO330] 37) :: .obj g53 (.cells #[.slice sF46 fx.length cF47, .slice sI48 ix.length cI49, .slice sO50 ox.length cO51] 37) :: .obj g30 (.cells #[.int .i64 kd, .int .i64 nn, .string nm, .slice sd d.length cd] 41) :: .obj ga (.cells #[.slice sU1 fx.length cU1, .slice sU2 ix.length cU2, .slice sU3 ox.length cU3] 37) :: .obj gb (.cells #[.slice sV1 fx.length cV1, .slice sV2 ix.length cV2, .slice sV3 ox.length cV3] 37) :: .obj g2 (.cells #[.slice sF fs.length cF_, .slice sI il.length cI, .slice sO ol.length cO] 37) :: D339) := hg338
               refine ⟨_, rfl, ?_⟩
               intro a hA
               refine seq_do hA rfl rfl rfl (does_move rfl) ?_
               intro a hA
               refine seq_do (v := .agg #[.slice sF342 ((sayR d fx ix ox).2.1.length) cF343, .slice sI344 ((sayR d fx ix ox).2.2.1.length) cI345, .slice sO346 ((sayR d fx ix ox).2.2.2.length) cO347]) hA rfl rfl rfl (does_extract (vs := [.agg #[.slice sF342 ((sayR d fx ix ox).2.1.length) cF343, .slice sI344 ((sayR d fx ix ox).2.2.1.length) cI345, .slice sO346 ((sayR d fx ix ox).2.2.2.length) cO347], .int .i64 ((sayR d fx ix ox).1)]) rfl rfl) ?_
               intro a hA
               refine seq_do (v := .int .i64 ((sayR d fx ix ox).1)) hA rfl rfl rfl (does_extract (vs := [.agg #[.slice sF342 ((sayR d fx ix ox).2.1.length) cF343, .slice sI344 ((sayR d fx ix ox).2.2.1.length) cI345, .slice sO346 ((sayR d fx ix ox).2.2.2.length) cO347], .int .i64 ((sayR d fx ix ox).1)]) rfl rfl) ?_
               intro a hA
               refine s_store (us := [.slice sF342 ((sayR d fx ix ox).2.1.length) cF343, .slice sI344 ((sayR d fx ix ox).2.2.1.length) cI345, .slice sO346 ((sayR d fx ix ox).2.2.2.length) cO347]) (L' := (.obj g63 (.cells #[.slice sF342 ((sayR d fx ix ox).2.1.length) cF343, .slice sI344 ((sayR d fx ix ox).2.2.1.length) cI345, .slice sO346 ((sayR d fx ix ox).2.2.2.length) cO347] 37) :: .obj g61 (.cells #[.slice sF325 ((sayR d fx ix ox).2.1.length) cF326, .slice sI327 ((sayR d fx ix ox).2.2.1.length) cI328, .slice sO329 ((sayR d fx ix ox).2.2.2.length) cO330] 37) :: .obj g53 (.cells #[.slice sF46 fx.length cF47, .slice sI48 ix.length cI49, .slice sO50 ox.length cO51] 37) :: .obj g30 (.cells #[.int .i64 kd, .int .i64 nn, .string nm, .slice sd d.length cd] 41) :: .obj ga (.cells #[.slice sU1 fx.length cU1, .slice sU2 ix.length cU2, .slice sU3 ox.length cU3] 37) :: .obj gb (.cells #[.slice sV1 fx.length cV1, .slice sV2 ix.length cV2, .slice sV3 ox.length cV3] 37) :: .obj g2 (.cells #[.slice sF fs.length cF_, .slice sI il.length cI, .slice sO ol.length cO] 37) :: D339)) hA hM rfl rfl (m_store rfl rfl rfl (by kernel_rfl) hM 0 rfl rfl rfl) 0 rfl rfl rfl ?_
               intro w349 hM
               refine seq_do hA rfl rfl rfl (does_assign rfl) ?_
               intro a hA
               refine seq_end ?_
               refine hK67 _ _ ?_
               refine wp_seq_k (fun K350 hK350 => ?_)
               refine wp_seq_k (fun K351 hK351 => ?_)
               replace hA := hA.keep [(1, .slice sS os.length cS), (5, .pointer (some ⟨ga, 0, none⟩)), (6, .pointer (some ⟨gb, 0, none⟩)), (7, .int .i64 (((i : Nat) : Int))), (8, .pointer (some ⟨g30, 0, none⟩)), (9, .pointer (some ⟨g53, 0, none⟩)), (10, .pointer (some ⟨g61, 0, none⟩)), (11, .pointer (some ⟨g63, 0, none⟩)), (12, .slice none 0 0), (13, .slice none 0 0), (14, .int .i64 ((sayR d fx ix ox).1)), (15, .int .i64 ((sayR d fx ix ox).1)), (35, .int .i64 kd)] ⟨rfl, rfl, rfl, rfl, rfl, rfl, rfl, rfl, rfl, rfl, rfl, rfl, rfl, trivial⟩
               refine wp_draw (S := fun w1 => Mg w w1 (.obj g63 (.cells #[.slice sF342 ((sayR d fx ix ox).2.1.length) cF343, .slice sI344 ((sayR d fx ix ox).2.2.1.length) cI345, .slice sO346 ((sayR d fx ix ox).2.2.2.length) cO347] 37) :: .obj g61 (.cells #[.slice sF325 ((sayR d fx ix ox).2.1.length) cF326, .slice sI327 ((sayR d fx ix ox).2.2.1.length) cI328, .slice sO329 ((sayR d fx ix ox).2.2.2.length) cO330] 37) :: .obj g53 (.cells #[.slice sF46 fx.length cF47, .slice sI48 ix.length cI49, .slice sO50 ox.length cO51] 37) :: .obj ga (.cells #[.slice sU1 fx.length cU1, .slice sU2 ix.length cU2, .slice sU3 ox.length cU3] 37) :: .obj gb (.cells #[.slice sV1 fx.length cV1, .slice sV2 ix.length cV2, .slice sV3 ox.length cV3] 37) :: [])) (by kernel_rfl) ?_
               replace hM := hM.drew
               refine any_tk hA 0 rfl rfl rfl rfl hP (hM.sub (.cons_cons _ (.cons_cons _ (.cons_cons _ (.cons _ (.cons_cons _ (.cons_cons _ (.cons _ (List.nil_sublist _))))))))) (fun w1 hM => does_move rfl) ?_
               intro a hA
               refine any_tk hA 1 rfl rfl rfl rfl hP (hM.sub (.cons_cons _ (.cons_cons _ (.cons_cons _ (.cons _ (.cons_cons _ (.cons_cons _ (.cons _ (List.nil_sublist _))))))))) (fun w1 hM => does_move rfl) ?_
               intro a hA
               refine any_tk (v := .bool false) hA 2 rfl rfl rfl rfl hP (hM.sub (.cons_cons _ (.cons_cons _ (.cons_cons _ (.cons _ (.cons_cons _ (.cons_cons _ (.cons _ (List.nil_sublist _))))))))) (fun w1 hM => does_bin rfl rfl (fun w => (bin_neq w).trans (by rw [show (((sayR d fx ix ox).1 != (sayR d fx ix ox).1)) = false from by simp]))) ?_
               intro a hA
               refine any_tk hA 3 rfl rfl rfl rfl hP (hM.sub (.cons_cons _ (.cons_cons _ (.cons_cons _ (.cons _ (.cons_cons _ (.cons_cons _ (.cons _ (List.nil_sublist _))))))))) (fun w1 hM => does_move rfl) ?_
               intro a hA
               refine any_tk hA 4 rfl rfl rfl rfl hP (hM.sub (.cons_cons _ (.cons_cons _ (.cons_cons _ (.cons _ (.cons_cons _ (.cons_cons _ (.cons _ (List.nil_sublist _))))))))) (fun w1 hM => m_loadS hM Wn_isS_37 rfl 1 rfl (cs := [.slice sF325 ((sayR d fx ix ox).2.1.length) cF326, .slice sI327 ((sayR d fx ix ox).2.2.1.length) cI328, .slice sO329 ((sayR d fx ix ox).2.2.2.length) cO330]) rfl rfl) ?_
               intro a hA
               refine any_tk hA 5 rfl rfl rfl rfl hP (hM.sub (.cons_cons _ (.cons_cons _ (.cons_cons _ (.cons _ (.cons_cons _ (.cons_cons _ (.cons _ (List.nil_sublist _))))))))) (fun w1 hM => m_loadS hM Wn_isS_37 rfl 0 rfl (cs := [.slice sF342 ((sayR d fx ix ox).2.1.length) cF343, .slice sI344 ((sayR d fx ix ox).2.2.1.length) cI345, .slice sO346 ((sayR d fx ix ox).2.2.2.length) cO347]) rfl rfl) ?_
               intro a hA
               have hw352 := RwD.facts hM (hR320.mono (fun c hc => (List.mem_cons_of_mem _ (List.mem_cons_of_mem _ (List.mem_cons_of_mem _ (List.mem_cons_of_mem _ (List.mem_cons_of_mem _ (List.mem_cons_of_mem _ (List.mem_cons_of_mem _ hc)))))))))
               have hw353 := RwD.facts hM (hR337.mono (fun c hc => (List.mem_cons_of_mem _ (List.mem_cons_of_mem _ (List.mem_cons_of_mem _ (List.mem_cons_of_mem _ (List.mem_cons_of_mem _ (List.mem_cons_of_mem _ (List.mem_cons_of_mem _ hc)))))))))
               refine any_one (by kernel_rfl) (op_call hA 6 rfl rfl rfl rfl (enters_func rfl rfl (fun w => by kernel_rfl)) (rsame_as  (b := true) hw352.1 hw352.2.1 hw352.2.2.1 hw353.1 hw353.2.1 hw353.2.2.1 (bd_say) (Bd.n (bd_say)) (decide_eq_true ⟨rfl, rfl, rfl⟩)) ?_)
               rintro _ w355 ⟨rfl, hb354⟩
               replace hM := hM.call hb354
               refine ⟨_, rfl, (hM.sub (.cons_cons _ (.cons_cons _ (.cons_cons _ (.cons _ (.cons_cons _ (.cons_cons _ (.cons _ (List.nil_sublist _))))))))), ?_⟩
               intro a hA
               refine any_tk (v := .bool false) hA 7 rfl rfl rfl rfl hP (hM.sub (.cons_cons _ (.cons_cons _ (.cons_cons _ (.cons _ (.cons_cons _ (.cons_cons _ (.cons _ (List.nil_sublist _))))))))) (fun w1 hM => does_un rfl un_not) ?_
               intro a hA
               refine any_tk (v := .bool false) hA 8 rfl rfl rfl rfl hP (hM.sub (.cons_cons _ (.cons_cons _ (.cons_cons _ (.cons _ (.cons_cons _ (.cons_cons _ (.cons _ (List.nil_sublist _))))))))) (fun w1 hM => does_pick rfl rfl rfl rfl) ?_
               intro a hA
               refine any_tk hA 9 rfl rfl rfl rfl hP (hM.sub (.cons_cons _ (.cons_cons _ (.cons_cons _ (.cons _ (.cons_cons _ (.cons_cons _ (.cons _ (List.nil_sublist _))))))))) (fun w1 hM => does_move rfl) ?_
               intro a hA
               refine any_tk hA 10 rfl rfl rfl rfl hP (hM.sub (.cons_cons _ (.cons_cons _ (.cons_cons _ (.cons _ (.cons_cons _ (.cons_cons _ (.cons _ (List.nil_sublist _))))))))) (fun w1 hM => does_move rfl) ?_
               intro a hA
               refine any_tk hA 11 rfl rfl rfl rfl hP (hM.sub (.cons_cons _ (.cons_cons _ (.cons_cons _ (.cons _ (.cons_cons _ (.cons_cons _ (.cons _ (List.nil_sublist _))))))))) (fun w1 hM => does_move rfl) ?_
               intro a hA
               refine any_one (by kernel_rfl) (op_call hA 12 rfl rfl rfl rfl (enters_func rfl rfl (fun w => by kernel_rfl)) (same_as (so := none) (to_ := none) (xs := []) (ys := []) (ca := 0) (cb := 0) (b := true) rb_nil rb_nil (by simp) (decide_eq_true rfl)) ?_)
               rintro _ w357 ⟨rfl, hb356⟩
               replace hM := hM.call hb356
               refine ⟨_, rfl, (hM.sub (.cons_cons _ (.cons_cons _ (.cons_cons _ (.cons _ (.cons_cons _ (.cons_cons _ (.cons _ (List.nil_sublist _))))))))), ?_⟩
               intro a hA
               refine any_tk (v := .bool false) hA 13 rfl rfl rfl rfl hP (hM.sub (.cons_cons _ (.cons_cons _ (.cons_cons _ (.cons _ (.cons_cons _ (.cons_cons _ (.cons _ (List.nil_sublist _))))))))) (fun w1 hM => does_un rfl un_not) ?_
               intro a hA
               refine any_tk (v := .bool false) hA 14 rfl rfl rfl rfl hP (hM.sub (.cons_cons _ (.cons_cons _ (.cons_cons _ (.cons _ (.cons_cons _ (.cons_cons _ (.cons _ (List.nil_sublist _))))))))) (fun w1 hM => does_pick rfl rfl rfl rfl) ?_
               intro a hA
               refine any_tk hA 15 rfl rfl rfl rfl hP (hM.sub (.cons_cons _ (.cons_cons _ (.cons_cons _ (.cons _ (.cons_cons _ (.cons_cons _ (.cons _ (List.nil_sublist _))))))))) (fun w1 hM => does_move rfl) ?_
               intro a hA
               refine any_tk hA 16 rfl rfl rfl rfl hP (hM.sub (.cons_cons _ (.cons_cons _ (.cons_cons _ (.cons _ (.cons_cons _ (.cons_cons _ (.cons _ (List.nil_sublist _))))))))) (fun w1 hM => m_loadS hM Wn_isS_37 rfl 3 rfl (cs := [.slice sU1 fx.length cU1, .slice sU2 ix.length cU2, .slice sU3 ox.length cU3]) rfl rfl) ?_
               intro a hA
               refine any_tk hA 17 rfl rfl rfl rfl hP (hM.sub (.cons_cons _ (.cons_cons _ (.cons_cons _ (.cons _ (.cons_cons _ (.cons_cons _ (.cons _ (List.nil_sublist _))))))))) (fun w1 hM => m_loadS hM Wn_isS_37 rfl 2 rfl (cs := [.slice sF46 fx.length cF47, .slice sI48 ix.length cI49, .slice sO50 ox.length cO51]) rfl rfl) ?_
               intro a hA
               have hw358 := RwD.facts hM (hRu.mono (fun c hc => (List.mem_cons_of_mem _ (List.mem_cons_of_mem _ (List.mem_cons_of_mem _ (List.mem_cons_of_mem _ (List.mem_cons_of_mem _ (List.mem_cons_of_mem _ (List.mem_cons_of_mem _ hc)))))))))
               have hw359 := RwD.facts hM (hR41.mono (fun c hc => (List.mem_cons_of_mem _ (List.mem_cons_of_mem _ (List.mem_cons_of_mem _ (List.mem_cons_of_mem _ (List.mem_cons_of_mem _ (List.mem_cons_of_mem _ (List.mem_cons_of_mem _ hc)))))))))
               refine any_one (by kernel_rfl) (op_call hA 18 rfl rfl rfl rfl (enters_func rfl rfl (fun w => by kernel_rfl)) (rsame_as  (b := true) hw358.1 hw358.2.1 hw358.2.2.1 hw359.1 hw359.2.1 hw359.2.2.1 hBx (Bd.n hBx) (decide_eq_true ⟨rfl, rfl, rfl⟩)) ?_)
               rintro _ w361 ⟨rfl, hb360⟩
               replace hM := hM.call hb360
               refine ⟨_, rfl, (hM.sub (.cons_cons _ (.cons_cons _ (.cons_cons _ (.cons _ (.cons_cons _ (.cons_cons _ (.cons _ (List.nil_sublist _))))))))), ?_⟩
               intro a hA
               refine any_tk (v := .bool false) hA 19 rfl rfl rfl rfl hP (hM.sub (.cons_cons _ (.cons_cons _ (.cons_cons _ (.cons _ (.cons_cons _ (.cons_cons _ (.cons _ (List.nil_sublist _))))))))) (fun w1 hM => does_un rfl un_not) ?_
               intro a hA
               refine any_tk (v := .bool false) hA 20 rfl rfl rfl rfl hP (hM.sub (.cons_cons _ (.cons_cons _ (.cons_cons _ (.cons _ (.cons_cons _ (.cons_cons _ (.cons _ (List.nil_sublist _))))))))) (fun w1 hM => does_pick rfl rfl rfl rfl) ?_
               intro a hA
               refine any_tk hA 21 rfl rfl rfl rfl hP (hM.sub (.cons_cons _ (.cons_cons _ (.cons_cons _ (.cons _ (.cons_cons _ (.cons_cons _ (.cons _ (List.nil_sublist _))))))))) (fun w1 hM => does_move rfl) ?_
               intro a hA
               refine any_tk hA 22 rfl rfl rfl rfl hP (hM.sub (.cons_cons _ (.cons_cons _ (.cons_cons _ (.cons _ (.cons_cons _ (.cons_cons _ (.cons _ (List.nil_sublist _))))))))) (fun w1 hM => m_loadS hM Wn_isS_37 rfl 3 rfl (cs := [.slice sU1 fx.length cU1, .slice sU2 ix.length cU2, .slice sU3 ox.length cU3]) rfl rfl) ?_
               intro a hA
               refine any_tk hA 24 rfl rfl rfl rfl hP (hM.sub (.cons_cons _ (.cons_cons _ (.cons_cons _ (.cons _ (.cons_cons _ (.cons_cons _ (.cons _ (List.nil_sublist _))))))))) (fun w1 hM => m_loadS hM Wn_isS_37 rfl 4 rfl (cs := [.slice sV1 fx.length cV1, .slice sV2 ix.length cV2, .slice sV3 ox.length cV3]) rfl rfl) ?_
               intro a hA
               have hw362 := RwD.facts hM (hRu.mono (fun c hc => (List.mem_cons_of_mem _ (List.mem_cons_of_mem _ (List.mem_cons_of_mem _ (List.mem_cons_of_mem _ (List.mem_cons_of_mem _ (List.mem_cons_of_mem _ (List.mem_cons_of_mem _ hc)))))))))
               refine any_one (by kernel_rfl) (op_call hA 23 rfl rfl rfl rfl (enters_func rfl rfl (fun w => by kernel_rfl)) (sound_any (cF_ := cU1) (cI := cU2) (cO := cU3) (fs := fx) (il := ix) (ol := ox) hw362.1 hBx.n) ?_)
               rintro _ w364 ⟨rfl, hb363⟩
               replace hM := hM.call hb363
               refine ⟨_, rfl, (hM.sub (.cons_cons _ (.cons_cons _ (.cons_cons _ (.cons _ (.cons_cons _ (.cons_cons _ (.cons _ (List.nil_sublist _))))))))), ?_⟩
               intro a hA
               have hw365 := RwD.facts hM (hRv.mono (fun c hc => (List.mem_cons_of_mem _ (List.mem_cons_of_mem _ (List.mem_cons_of_mem _ (List.mem_cons_of_mem _ (List.mem_cons_of_mem _ (List.mem_cons_of_mem _ (List.mem_cons_of_mem _ hc)))))))))
               refine any_one (by kernel_rfl) (op_call hA 25 rfl rfl rfl rfl (enters_func rfl rfl (fun w => by kernel_rfl)) (rsound_any (cF_ := cV1) (cI := cV2) (cO := cV3) (fs := fx) (il := ix) (ol := ox) hw365.1 hBx.n) ?_)
               rintro _ w367 ⟨rfl, hb366⟩
               replace hM := hM.call hb366
               refine ⟨_, rfl, (hM.sub (.cons_cons _ (.cons_cons _ (.cons_cons _ (.cons _ (.cons_cons _ (.cons_cons _ (.cons _ (List.nil_sublist _))))))))), ?_⟩
               intro a hA
               refine any_tk (v := .bool false) hA 26 rfl rfl rfl rfl hP (hM.sub (.cons_cons _ (.cons_cons _ (.cons_cons _ (.cons _ (.cons_cons _ (.cons_cons _ (.cons _ (List.nil_sublist _))))))))) (fun w1 hM => does_bin rfl rfl (fun w => ((bin_neqB Try.underlying4) w).trans (by rw [show (!(soundS fx ix ox == soundS fx ix ox)) = false from by simp]))) ?_
               intro a hA
               refine any_tk (v := .bool false) hA 27 rfl rfl rfl rfl hP (hM.sub (.cons_cons _ (.cons_cons _ (.cons_cons _ (.cons _ (.cons_cons _ (.cons_cons _ (.cons _ (List.nil_sublist _))))))))) (fun w1 hM => does_pick rfl rfl rfl rfl) ?_
               intro a hA
               refine any_end (by kernel_rfl) ?_
               refine hK351 _ _ ?_
               refine wp_cond_false (hA.ev rfl) ?_
               refine wp_skip ?_
               refine hK350 _ _ ?_
               refine wp_seq_k (fun K368 hK368 => ?_)
               replace hA := hA.keep [(1, .slice sS os.length cS), (5, .pointer (some ⟨ga, 0, none⟩)), (6, .pointer (some ⟨gb, 0, none⟩)), (7, .int .i64 (((i : Nat) : Int))), (8, .pointer (some ⟨g30, 0, none⟩)), (9, .pointer (some ⟨g53, 0, none⟩)), (10, .pointer (some ⟨g61, 0, none⟩)), (11, .pointer (some ⟨g63, 0, none⟩)), (12, .slice none 0 0), (13, .slice none 0 0), (14, .int .i64 ((sayR d fx ix ox).1)), (15, .int .i64 ((sayR d fx ix ox).1)), (35, .int .i64 kd)] ⟨rfl, rfl, rfl, rfl, rfl, rfl, rfl, rfl, rfl, rfl, rfl, rfl, rfl, trivial⟩
               refine wp_region_lit ?_
               refine seq_do hA rfl rfl rfl (does_move rfl) ?_
               intro a hA
               rcases Bool.eq_false_or_eq_true (((sayR d fx ix ox).1 == 0)) with hb369 | hb369
               · have hb369' := eq_of_beq hb369
                 refine seq_do (v := .bool true) hA rfl rfl rfl (does_bin rfl rfl (fun w => (bin_eql w).trans (by rw [hb369]))) ?_
                 intro a hA
                 refine seq_do hA rfl rfl rfl (does_move rfl) ?_
                 intro a hA
                 refine seq_do (v := .pointer (some ⟨g30, 0, none⟩)) hA rfl rfl rfl (does_field Wn_fld_41_0 rfl rfl) ?_
                 intro a hA
                 refine seq_do hA rfl rfl rfl (m_load1 hM Wn_is1_3 rfl 3 rfl rfl) ?_
                 intro a hA
                 refine seq_do (v := .bool true) hA rfl rfl rfl (does_bin rfl rfl (fun w => (bin_geq w).trans (by rw [show (decide (1 ≤ kd)) = true from decide_eq_true (by omega)]))) ?_
                 intro a hA
                 refine seq_do (v := .bool true) hA rfl rfl rfl (does_pick rfl rfl rfl rfl) ?_
                 intro a hA
                 refine seq_do hA rfl rfl rfl (does_move rfl) ?_
                 intro a hA
                 refine seq_do (v := .pointer (some ⟨g30, 0, none⟩)) hA rfl rfl rfl (does_field Wn_fld_41_0 rfl rfl) ?_
                 intro a hA
                 refine seq_do hA rfl rfl rfl (m_load1 hM Wn_is1_3 rfl 3 rfl rfl) ?_
                 intro a hA
                 refine seq_do (v := .bool true) hA rfl rfl rfl (does_bin rfl rfl (fun w => (bin_leq w).trans (by rw [show (decide (kd ≤ 5)) = true from decide_eq_true (by omega)]))) ?_
                 intro a hA
                 refine seq_do (v := .bool true) hA rfl rfl rfl (does_pick rfl rfl rfl rfl) ?_
                 intro a hA
                 refine seq_end ?_
                 refine hK368 _ _ ?_
                 refine wp_cond_true (hA.ev rfl) ?_
                 replace hA := hA.keep [(1, .slice sS os.length cS), (5, .pointer (some ⟨ga, 0, none⟩)), (6, .pointer (some ⟨gb, 0, none⟩)), (7, .int .i64 (((i : Nat) : Int))), (8, .pointer (some ⟨g30, 0, none⟩)), (9, .pointer (some ⟨g53, 0, none⟩)), (10, .pointer (some ⟨g61, 0, none⟩)), (11, .pointer (some ⟨g63, 0, none⟩)), (12, .slice none 0 0), (13, .slice none 0 0), (14, .int .i64 ((sayR d fx ix ox).1)), (15, .int .i64 ((sayR d fx ix ox).1)), (35, .int .i64 kd)] ⟨rfl, rfl, rfl, rfl, rfl, rfl, rfl, rfl, rfl, rfl, rfl, rfl, rfl, trivial⟩
                 refine wp_draw (S := fun w1 => Mg w w1 (.obj g63 (.cells #[.slice sF342 ((sayR d fx ix ox).2.1.length) cF343, .slice sI344 ((sayR d fx ix ox).2.2.1.length) cI345, .slice sO346 ((sayR d fx ix ox).2.2.2.length) cO347] 37) :: .obj g61 (.cells #[.slice sF325 ((sayR d fx ix ox).2.1.length) cF326, .slice sI327 ((sayR d fx ix ox).2.2.1.length) cI328, .slice sO329 ((sayR d fx ix ox).2.2.2.length) cO330] 37) :: [])) (by kernel_rfl) ?_
                 replace hM := hM.drew
                 refine any_tk hA 0 rfl rfl rfl rfl hP (hM.sub (.cons_cons _ (.cons_cons _ (.cons _ (.cons _ (.cons _ (.cons _ (.cons _ (List.nil_sublist _))))))))) (fun w1 hM => m_loadS hM Wn_isS_37 rfl 1 rfl (cs := [.slice sF325 ((sayR d fx ix ox).2.1.length) cF326, .slice sI327 ((sayR d fx ix ox).2.2.1.length) cI328, .slice sO329 ((sayR d fx ix ox).2.2.2.length) cO330]) rfl rfl) ?_
                 intro a hA
                 refine any_tk hA 1 rfl rfl rfl rfl hP (hM.sub (.cons_cons _ (.cons_cons _ (.cons _ (.cons _ (.cons _ (.cons _ (.cons _ (List.nil_sublist _))))))))) (fun w1 hM => m_loadS hM Wn_isS_37 rfl 0 rfl (cs := [.slice sF342 ((sayR d fx ix ox).2.1.length) cF343, .slice sI344 ((sayR d fx ix ox).2.2.1.length) cI345, .slice sO346 ((sayR d fx ix ox).2.2.2.length) cO347]) rfl rfl) ?_
                 intro a hA
                 refine any_one (by kernel_rfl) (g_store (us := [.slice sF325 ((sayR d fx ix ox).2.1.length) cF326, .slice sI327 ((sayR d fx ix ox).2.2.1.length) cI328, .slice sO329 ((sayR d fx ix ox).2.2.2.length) cO330]) (L' := (.obj g63 (.cells #[.slice sF342 ((sayR d fx ix ox).2.1.length) cF343, .slice sI344 ((sayR d fx ix ox).2.2.1.length) cI345, .slice sO346 ((sayR d fx ix ox).2.2.2.length) cO347] 37) :: .obj g61 (.cells #[.slice sF325 ((sayR d fx ix ox).2.1.length) cF326, .slice sI327 ((sayR d fx ix ox).2.2.1.length) cI328, .slice sO329 ((sayR d fx ix ox).2.2.2.length) cO330] 37) :: .obj g53 (.cells #[.slice sF46 fx.length cF47, .slice sI48 ix.length cI49, .slice sO50 ox.length cO51] 37) :: .obj g30 (.cells #[.int .i64 kd, .int .i64 nn, .string nm, .slice sd d.length cd] 41) :: .obj ga (.cells #[.slice sF325 ((sayR d fx ix ox).2.1.length) cF326, .slice sI327 ((sayR d fx ix ox).2.2.1.length) cI328, .slice sO329 ((sayR d fx ix ox).2.2.2.length) cO330] 37) :: .obj gb (.cells #[.slice sV1 fx.length cV1, .slice sV2 ix.length cV2, .slice sV3 ox.length cV3] 37) :: .obj g2 (.cells #[.slice sF fs.length cF_, .slice sI il.length cI, .slice sO ol.length cO] 37) :: D339)) hA hM 2 rfl rfl rfl (m_store rfl rfl rfl (by kernel_rfl) hM 4 rfl rfl rfl) 4 rfl rfl rfl ?_)
                 intro w370 hM
                 refine ⟨(hM.sub (.cons_cons _ (.cons_cons _ (.cons _ (.cons _ (.cons _ (.cons _ (.cons _ (List.nil_sublist _))))))))), ?_⟩
                 refine any_one (by kernel_rfl) (g_store (us := [.slice sF342 ((sayR d fx ix ox).2.1.length) cF343, .slice sI344 ((sayR d fx ix ox).2.2.1.length) cI345, .slice sO346 ((sayR d fx ix ox).2.2.2.length) cO347]) (L' := (.obj g63 (.cells #[.slice sF342 ((sayR d fx ix ox).2.1.length) cF343, .slice sI344 ((sayR d fx ix ox).2.2.1.length) cI345, .slice sO346 ((sayR d fx ix ox).2.2.2.length) cO347] 37) :: .obj g61 (.cells #[.slice sF325 ((sayR d fx ix ox).2.1.length) cF326, .slice sI327 ((sayR d fx ix ox).2.2.1.length) cI328, .slice sO329 ((sayR d fx ix ox).2.2.2.length) cO330] 37) :: .obj g53 (.cells #[.slice sF46 fx.length cF47, .slice sI48 ix.length cI49, .slice sO50 ox.length cO51] 37) :: .obj g30 (.cells #[.int .i64 kd, .int .i64 nn, .string nm, .slice sd d.length cd] 41) :: .obj ga (.cells #[.slice sF325 ((sayR d fx ix ox).2.1.length) cF326, .slice sI327 ((sayR d fx ix ox).2.2.1.length) cI328, .slice sO329 ((sayR d fx ix ox).2.2.2.length) cO330] 37) :: .obj gb (.cells #[.slice sF342 ((sayR d fx ix ox).2.1.length) cF343, .slice sI344 ((sayR d fx ix ox).2.2.1.length) cI345, .slice sO346 ((sayR d fx ix ox).2.2.2.length) cO347] 37) :: .obj g2 (.cells #[.slice sF fs.length cF_, .slice sI il.length cI, .slice sO ol.length cO] 37) :: D339)) hA hM 3 rfl rfl rfl (m_store rfl rfl rfl (by kernel_rfl) hM 5 rfl rfl rfl) 5 rfl rfl rfl ?_)
                 intro w371 hM
                 refine ⟨(hM.sub (.cons_cons _ (.cons_cons _ (.cons _ (.cons _ (.cons _ (.cons _ (.cons _ (List.nil_sublist _))))))))), ?_⟩
                 refine any_end (by kernel_rfl) ?_
                 refine hK19 _ _ ?_
                 replace hA := hA.keep [(1, .slice sS os.length cS), (5, .pointer (some ⟨ga, 0, none⟩)), (6, .pointer (some ⟨gb, 0, none⟩)), (7, .int .i64 (((i : Nat) : Int))), (8, .pointer (some ⟨g30, 0, none⟩)), (9, .pointer (some ⟨g53, 0, none⟩)), (10, .pointer (some ⟨g61, 0, none⟩)), (11, .pointer (some ⟨g63, 0, none⟩)), (12, .slice none 0 0), (13, .slice none 0 0), (14, .int .i64 ((sayR d fx ix ox).1)), (15, .int .i64 ((sayR d fx ix ox).1)), (35, .int .i64 kd)] ⟨rfl, rfl, rfl, rfl, rfl, rfl, rfl, rfl, rfl, rfl, rfl, rfl, rfl, trivial⟩
                 refine wp_region_lit ?_
                 refine seq_do hA rfl rfl rfl (does_move rfl) ?_
                 intro a hA
                 refine seq_do (v := .int .i64 (((i + 1 : Nat) : Int))) hA rfl rfl rfl (does_bin rfl rfl (ar_add ((in_i64 (by omega) (by omega)).trans (by omega)))) ?_
                 intro a hA
                 refine seq_do hA rfl rfl rfl (does_assign rfl) ?_
                 intro a hA
                 refine seq_end ?_
                 replace hM : Mg w w371 (.obj ga (.cells #[.slice sF325 ((sayR d fx ix ox).2.1.length) cF326, .slice sI327 ((sayR d fx ix ox).2.2.1.length) cI328, .slice sO329 ((sayR d fx ix ox).2.2.2.length) cO330] 37) :: .obj gb (.cells #[.slice sF342 ((sayR d fx ix ox).2.1.length) cF343, .slice sI344 ((sayR d fx ix ox).2.2.1.length) cI345, .slice sO346 ((sayR d fx ix ox).2.2.2.length) cO347] 37) :: .obj g2 (.cells #[.slice sF fs.length cF_, .slice sI il.length cI, .slice sO ol.length cO] 37) :: D339) := by
                   have h9 := hM.sub (.cons _ (.cons _ (.cons _ (.cons _ (.cons_cons _ (.cons_cons _ (.cons_cons _ (.refl _))))))))
                   exact h9
                 refine hK14 _ _ _ (by omega) ⟨i + 1, (sayR d fx ix ox).2.1, (sayR d fx ix ox).2.2.1, (sayR d fx ix ox).2.2.2, sF325, cF326, sI327, cI328, sO329, cO330, sF342, cF343, sI344, cI345, sO346, cO347, D339, rfl, ⟨hR320, hR337, hnD339, (bd_say), by omega⟩, hA.keep _ ⟨rfl, rfl, rfl, rfl, trivial⟩, hM⟩
               · have hb369' := ne_of_beq_false hb369
                 refine seq_do (v := .bool false) hA rfl rfl rfl (does_bin rfl rfl (fun w => (bin_eql w).trans (by rw [hb369]))) ?_
                 intro a hA
                 refine seq_do hA rfl rfl rfl (does_move rfl) ?_
                 intro a hA
                 refine seq_skip hA rfl rfl rfl ?_
                 intro a hA
                 refine seq_skip hA rfl rfl rfl ?_
                 intro a hA
                 refine seq_skip hA rfl rfl rfl ?_
                 intro a hA
                 refine seq_do (v := .bool false) hA rfl rfl rfl (does_pick rfl rfl rfl rfl) ?_
                 intro a hA
                 refine seq_do hA rfl rfl rfl (does_move rfl) ?_
                 intro a hA
                 refine seq_skip hA rfl rfl rfl ?_
                 intro a hA
                 refine seq_skip hA rfl rfl rfl ?_
                 intro a hA
                 refine seq_skip hA rfl rfl rfl ?_
                 intro a hA
                 refine seq_do (v := .bool false) hA rfl rfl rfl (does_pick rfl rfl rfl rfl) ?_
                 intro a hA
                 refine seq_end ?_
                 refine hK368 _ _ ?_
                 refine wp_cond_false (hA.ev rfl) ?_
                 refine wp_skip ?_
                 refine hK19 _ _ ?_
                 replace hA := hA.keep [(1, .slice sS os.length cS), (5, .pointer (some ⟨ga, 0, none⟩)), (6, .pointer (some ⟨gb, 0, none⟩)), (7, .int .i64 (((i : Nat) : Int))), (8, .pointer (some ⟨g30, 0, none⟩)), (9, .pointer (some ⟨g53, 0, none⟩)), (10, .pointer (some ⟨g61, 0, none⟩)), (11, .pointer (some ⟨g63, 0, none⟩)), (12, .slice none 0 0), (13, .slice none 0 0), (14, .int .i64 ((sayR d fx ix ox).1)), (15, .int .i64 ((sayR d fx ix ox).1)), (35, .int .i64 kd)] ⟨rfl, rfl, rfl, rfl, rfl, rfl, rfl, rfl, rfl, rfl, rfl, rfl, rfl, trivial⟩
                 refine wp_region_lit ?_
                 refine seq_do hA rfl rfl rfl (does_move rfl) ?_
                 intro a hA
                 refine seq_do (v := .int .i64 (((i + 1 : Nat) : Int))) hA rfl rfl rfl (does_bin rfl rfl (ar_add ((in_i64 (by omega) (by omega)).trans (by omega)))) ?_
                 intro a hA
                 refine seq_do hA rfl rfl rfl (does_assign rfl) ?_
                 intro a hA
                 refine seq_end ?_
                 replace hM : Mg w w367 (.obj ga (.cells #[.slice sU1 fx.length cU1, .slice sU2 ix.length cU2, .slice sU3 ox.length cU3] 37) :: .obj gb (.cells #[.slice sV1 fx.length cV1, .slice sV2 ix.length cV2, .slice sV3 ox.length cV3] 37) :: .obj g2 (.cells #[.slice sF fs.length cF_, .slice sI il.length cI, .slice sO ol.length cO] 37) :: D339) := by
                   have h9 := hM.sub (.cons _ (.cons _ (.cons _ (.cons _ (.cons_cons _ (.cons_cons _ (.cons_cons _ (.refl _))))))))
                   exact h9
                 refine hK14 _ _ _ (by omega) ⟨i + 1, fx, ix, ox, sU1, cU1, sU2, cU2, sU3, cU3, sV1, cV1, sV2, cV2, sV3, cV3, D339, rfl, ⟨hRu, hRv, hnD339, hBx, by omega⟩, hA.keep _ ⟨rfl, rfl, rfl, rfl, trivial⟩, hM⟩
             · have hb314' := ne_of_beq_false hb314
               refine seq_do (v := .bool false) hA rfl rfl rfl (does_bin rfl rfl (fun w => (bin_eql w).trans (by rw [hb314]))) ?_
               intro a hA
               refine seq_do hA rfl rfl rfl (does_assign rfl) ?_
               intro a hA
               refine seq_end ?_
               refine hK313 _ _ ?_
               refine wp_cond_false (hA.ev rfl) ?_
               refine wp_seq_k (fun K372 hK372 => ?_)
               replace hA := hA.keep [(1, .slice sS os.length cS), (5, .pointer (some ⟨ga, 0, none⟩)), (6, .pointer (some ⟨gb, 0, none⟩)), (7, .int .i64 (((i : Nat) : Int))), (8, .pointer (some ⟨g30, 0, none⟩)), (9, .pointer (some ⟨g53, 0, none⟩)), (10, .pointer (some ⟨g61, 0, none⟩)), (11, .pointer (some ⟨g63, 0, none⟩)), (12, .slice none 0 0), (13, .slice none 0 0), (14, .int .i64 0), (15, .int .i64 0), (35, .int .i64 kd)] ⟨rfl, rfl, rfl, rfl, rfl, rfl, rfl, rfl, rfl, rfl, rfl, rfl, rfl, trivial⟩
               refine wp_region_lit ?_
               rcases Bool.eq_false_or_eq_true ((kd == 6)) with hb373 | hb373
               · have hb373' := eq_of_beq hb373
                 refine seq_do (v := .bool true) hA rfl rfl rfl (does_bin rfl rfl (fun w => (bin_eql w).trans (by rw [hb373]))) ?_
                 intro a hA
                 refine seq_do hA rfl rfl rfl (does_assign rfl) ?_
                 intro a hA
                 refine seq_end ?_
                 refine hK372 _ _ ?_
                 refine wp_cond_true (hA.ev rfl) ?_
                 refine wp_seq_k (fun K374 hK374 => ?_)
                 replace hA := hA.keep [(1, .slice sS os.length cS), (5, .pointer (some ⟨ga, 0, none⟩)), (6, .pointer (some ⟨gb, 0, none⟩)), (7, .int .i64 (((i : Nat) : Int))), (8, .pointer (some ⟨g30, 0, none⟩)), (9, .pointer (some ⟨g53, 0, none⟩)), (10, .pointer (some ⟨g61, 0, none⟩)), (11, .pointer (some ⟨g63, 0, none⟩)), (12, .slice none 0 0), (13, .slice none 0 0), (14, .int .i64 0), (15, .int .i64 0), (35, .int .i64 kd)] ⟨rfl, rfl, rfl, rfl, rfl, rfl, rfl, rfl, rfl, rfl, rfl, rfl, rfl, trivial⟩
                 refine wp_region_lit ?_
                 refine seq_do hA rfl rfl rfl (m_loadS hM Wn_isS_37 rfl 4 rfl (cs := [.slice sU1 fx.length cU1, .slice sU2 ix.length cU2, .slice sU3 ox.length cU3]) rfl rfl) ?_
                 intro a hA
                 refine seq_do (v := .pointer (some ⟨g30, 2, none⟩)) hA rfl rfl rfl (does_field Wn_fld_41_2 rfl rfl) ?_
                 intro a hA
                 refine seq_do hA rfl rfl rfl (m_load1 hM Wn_is1_9 rfl 3 rfl rfl) ?_
                 intro a hA
                 have hw375 := RwD.facts hM (hRu.mono (fun c hc => (List.mem_cons_of_mem _ (List.mem_cons_of_mem _ (List.mem_cons_of_mem _ (List.mem_cons_of_mem _ (List.mem_cons_of_mem _ (List.mem_cons_of_mem _ (List.mem_cons_of_mem _ hc)))))))))
                 refine seq_call hA rfl rfl rfl (enters_func rfl rfl (fun w => by kernel_rfl)) (get_any (cF_ := cU1) (cI := cU2) (cO := cU3) (fs := fx) (il := ix) (ol := ox) (nm := nm) hw375.1 hw375.2.1 hw375.2.2.1 hBx.n) ?_
                 rintro _ w385 ⟨v376, rfl, hM377⟩
                 obtain ⟨so382, ca383, rfl⟩ := owns_sliceE (hM377.has 0 rfl)
                 obtain ⟨D379, hg378, hnD379, hs380, hs381⟩ := grow [_, _, _, _, _, _, _] (D := D58) hM hM377 (noBld_cons (by simp) (noBld_cons (by simp) (noBld_cons (by simp) (noBld_cons (by simp) (noBld_cons (by simp) (noBld_cons (by simp) (noBld_cons (by simp) hnD58))))))) (noBld_cons (by simp) (noBld_quiet quietL_nil))
                 replace hRu := hRu.mono hs380
                 replace hRv := hRv.mono hs380
                 replace hR41 := hR41.mono hs380
                 replace hz60 := hz60.mono hs380
                 have hp384 := hs381 _ (mem_at (k := 0) rfl)
                 replace hM : Mg w w385 (.obj g63 (.cells #[.slice none 0 0, .slice none 0 0, .slice none 0 0] 37) :: .obj g61 (.cells #[.slice none 0 0, .slice none 0 0, .slice none 0 0] 37) :: .obj g53 (.cells #[.slice sF46 fx.length cF47, .slice sI48 ix.length cI49, .slice sO50 ox.length cO51] 37) :: .obj g30 (.cells #[.int .i64 kd, .int .i64 nn, .string nm, .slice sd d.length cd] 41) :: .obj ga (.cells #[.slice sU1 fx.length cU1, .slice sU2 ix.length cU2, .slice sU3 ox.length cU3] 37) :: .obj gb (.cells #[.slice sV1 fx.length cV1, .slice sV2 ix.length cV2, .slice sV3 ox.length cV3] 37) :: .obj g2 (.cells #[.slice sF fs.length cF_, .slice sI il.length cI, .slice sO ol.length cO] 37) :: D379) := hg378
                 refine ⟨_, rfl, ?_⟩
                 intro a hA
                 refine seq_do hA rfl rfl rfl (does_move rfl) ?_
                 intro a hA
                 refine seq_do (v := .slice so382 ((getR nm fx ix ox).2.length) ca383) hA rfl rfl rfl (does_extract (vs := [.slice so382 ((getR nm fx ix ox).2.length) ca383, .int .i64 ((getR nm fx ix ox).1)]) rfl rfl) ?_
                 intro a hA
                 refine seq_do (v := .int .i64 ((getR nm fx ix ox).1)) hA rfl rfl rfl (does_extract (vs := [.slice so382 ((getR nm fx ix ox).2.length) ca383, .int .i64 ((getR nm fx ix ox).1)]) rfl rfl) ?_
                 intro a hA
                 refine seq_do hA rfl rfl rfl (does_assign rfl) ?_
                 intro a hA
                 refine seq_do hA rfl rfl rfl (does_assign rfl) ?_
                 intro a hA
                 refine seq_end ?_
                 refine hK374 _ _ ?_
                 replace hA := hA.keep [(1, .slice sS os.length cS), (5, .pointer (some ⟨ga, 0, none⟩)), (6, .pointer (some ⟨gb, 0, none⟩)), (7, .int .i64 (((i : Nat) : Int))), (8, .pointer (some ⟨g30, 0, none⟩)), (9, .pointer (some ⟨g53, 0, none⟩)), (10, .pointer (some ⟨g61, 0, none⟩)), (11, .pointer (some ⟨g63, 0, none⟩)), (12, .slice so382 ((getR nm fx ix ox).2.length) ca383), (13, .slice none 0 0), (14, .int .i64 ((getR nm fx ix ox).1)), (15, .int .i64 0), (35, .int .i64 kd)] ⟨rfl, rfl, rfl, rfl, rfl, rfl, rfl, rfl, rfl, rfl, rfl, rfl, rfl, trivial⟩
                 refine wp_region_lit ?_
                 refine seq_do hA rfl rfl rfl (m_loadS hM Wn_isS_37 rfl 5 rfl (cs := [.slice sV1 fx.length cV1, .slice sV2 ix.length cV2, .slice sV3 ox.length cV3]) rfl rfl) ?_
                 intro a hA
                 refine seq_do (v := .pointer (some ⟨g30, 2, none⟩)) hA rfl rfl rfl (does_field Wn_fld_41_2 rfl rfl) ?_
                 intro a hA
                 refine seq_do hA rfl rfl rfl (m_load1 hM Wn_is1_9 rfl 3 rfl rfl) ?_
                 intro a hA
                 have hw386 := RwD.facts hM (hRv.mono (fun c hc => (List.mem_cons_of_mem _ (List.mem_cons_of_mem _ (List.mem_cons_of_mem _ (List.mem_cons_of_mem _ (List.mem_cons_of_mem _ (List.mem_cons_of_mem _ (List.mem_cons_of_mem _ hc)))))))))
                 refine seq_call hA rfl rfl rfl (enters_func rfl rfl (fun w => by kernel_rfl)) (rget_any (cF_ := cV1) (cI := cV2) (cO := cV3) (fs := fx) (il := ix) (ol := ox) (nm := nm) hw386.1 hw386.2.1 hw386.2.2.1 hBx.n) ?_
                 rintro _ w396 ⟨v387, rfl, hM388⟩
                 obtain ⟨so393, ca394, rfl⟩ := owns_sliceE (hM388.has 0 rfl)
                 obtain ⟨D390, hg389, hnD390, hs391, hs392⟩ := grow [_, _, _, _, _, _, _] (D := D379) hM hM388 (noBld_cons (by simp) (noBld_cons (by simp) (noBld_cons (by simp) (noBld_cons (by simp) (noBld_cons (by simp) (noBld_cons (by simp) (noBld_cons (by simp) hnD379))))))) (noBld_cons (by simp) (noBld_quiet quietL_nil))
                 replace hRu := hRu.mono hs391
                 replace hRv := hRv.mono hs391
                 replace hR41 := hR41.mono hs391
                 replace hz60 := hz60.mono hs391
                 replace hp384 := hs391 _ hp384
                 have hp395 := hs392 _ (mem_at (k := 0) rfl)
                 replace hM : Mg w w396 (.obj g63 (.cells #[.slice none 0 0, .slice none 0 0, .slice none 0 0] 37) :: .obj g61 (.cells #[.slice none 0 0, .slice none 0 0, .slice none 0 0] 37) :: .obj g53 (.cells #[.slice sF46 fx.length cF47, .slice sI48 ix.length cI49, .slice sO50 ox.length cO51] 37) :: .obj g30 (.cells #[.int .i64 kd, .int .i64 nn, .string nm, .slice sd d.length cd] 41) :: .obj ga (.cells #[.slice sU1 fx.length cU1, .slice sU2 ix.length cU2, .slice sU3 ox.length cU3] 37) :: .obj gb (.cells #[.slice sV1 fx.length cV1, .slice sV2 ix.length cV2, .slice sV3 ox.length cV3] 37) :: .obj g2 (.cells #[.slice sF fs.length cF_, .slice sI il.length cI, .slice sO ol.length cO] 37) :: D390) := hg389
                 refine ⟨_, rfl, ?_⟩
                 intro a hA
                 refine seq_do hA rfl rfl rfl (does_move rfl) ?_
                 intro a hA
                 refine seq_do (v := .slice so393 ((getR nm fx ix ox).2.length) ca394) hA rfl rfl rfl (does_extract (vs := [.slice so393 ((getR nm fx ix ox).2.length) ca394, .int .i64 ((getR nm fx ix ox).1)]) rfl rfl) ?_
                 intro a hA
                 refine seq_do (v := .int .i64 ((getR nm fx ix ox).1)) hA rfl rfl rfl (does_extract (vs := [.slice so393 ((getR nm fx ix ox).2.length) ca394, .int .i64 ((getR nm fx ix ox).1)]) rfl rfl) ?_
                 intro a hA
                 refine seq_do hA rfl rfl rfl (does_assign rfl) ?_
                 intro a hA
                 refine seq_do hA rfl rfl rfl (does_assign rfl) ?_
                 intro a hA
                 refine seq_end ?_
                 refine hK67 _ _ ?_
                 refine wp_seq_k (fun K397 hK397 => ?_)
                 refine wp_seq_k (fun K398 hK398 => ?_)
                 replace hA := hA.keep [(1, .slice sS os.length cS), (5, .pointer (some ⟨ga, 0, none⟩)), (6, .pointer (some ⟨gb, 0, none⟩)), (7, .int .i64 (((i : Nat) : Int))), (8, .pointer (some ⟨g30, 0, none⟩)), (9, .pointer (some ⟨g53, 0, none⟩)), (10, .pointer (some ⟨g61, 0, none⟩)), (11, .pointer (some ⟨g63, 0, none⟩)), (12, .slice so382 ((getR nm fx ix ox).2.length) ca383), (13, .slice so393 ((getR nm fx ix ox).2.length) ca394), (14, .int .i64 ((getR nm fx ix ox).1)), (15, .int .i64 ((getR nm fx ix ox).1)), (35, .int .i64 kd)] ⟨rfl, rfl, rfl, rfl, rfl, rfl, rfl, rfl, rfl, rfl, rfl, rfl, rfl, trivial⟩
                 refine wp_draw (S := fun w1 => Mg w w1 (.obj g63 (.cells #[.slice none 0 0, .slice none 0 0, .slice none 0 0] 37) :: .obj g61 (.cells #[.slice none 0 0, .slice none 0 0, .slice none 0 0] 37) :: .obj g53 (.cells #[.slice sF46 fx.length cF47, .slice sI48 ix.length cI49, .slice sO50 ox.length cO51] 37) :: .obj ga (.cells #[.slice sU1 fx.length cU1, .slice sU2 ix.length cU2, .slice sU3 ox.length cU3] 37) :: .obj gb (.cells #[.slice sV1 fx.length cV1, .slice sV2 ix.length cV2, .slice sV3 ox.length cV3] 37) :: [])) (by kernel_rfl) ?_
                 replace hM := hM.drew
                 refine any_tk hA 0 rfl rfl rfl rfl hP (hM.sub (.cons_cons _ (.cons_cons _ (.cons_cons _ (.cons _ (.cons_cons _ (.cons_cons _ (.cons _ (List.nil_sublist _))))))))) (fun w1 hM => does_move rfl) ?_
                 intro a hA
                 refine any_tk hA 1 rfl rfl rfl rfl hP (hM.sub (.cons_cons _ (.cons_cons _ (.cons_cons _ (.cons _ (.cons_cons _ (.cons_cons _ (.cons _ (List.nil_sublist _))))))))) (fun w1 hM => does_move rfl) ?_
                 intro a hA
                 refine any_tk (v := .bool false) hA 2 rfl rfl rfl rfl hP (hM.sub (.cons_cons _ (.cons_cons _ (.cons_cons _ (.cons _ (.cons_cons _ (.cons_cons _ (.cons _ (List.nil_sublist _))))))))) (fun w1 hM => does_bin rfl rfl (fun w => (bin_neq w).trans (by rw [show (((getR nm fx ix ox).1 != (getR nm fx ix ox).1)) = false from by simp]))) ?_
                 intro a hA
                 refine any_tk hA 3 rfl rfl rfl rfl hP (hM.sub (.cons_cons _ (.cons_cons _ (.cons_cons _ (.cons _ (.cons_cons _ (.cons_cons _ (.cons _ (List.nil_sublist _))))))))) (fun w1 hM => does_move rfl) ?_
                 intro a hA
                 refine any_tk hA 4 rfl rfl rfl rfl hP (hM.sub (.cons_cons _ (.cons_cons _ (.cons_cons _ (.cons _ (.cons_cons _ (.cons_cons _ (.cons _ (List.nil_sublist _))))))))) (fun w1 hM => m_loadS hM Wn_isS_37 rfl 1 rfl (cs := [.slice none 0 0, .slice none 0 0, .slice none 0 0]) rfl rfl) ?_
                 intro a hA
                 refine any_tk hA 5 rfl rfl rfl rfl hP (hM.sub (.cons_cons _ (.cons_cons _ (.cons_cons _ (.cons _ (.cons_cons _ (.cons_cons _ (.cons _ (List.nil_sublist _))))))))) (fun w1 hM => m_loadS hM Wn_isS_37 rfl 0 rfl (cs := [.slice none 0 0, .slice none 0 0, .slice none 0 0]) rfl rfl) ?_
                 intro a hA
                 have hw399 := RwD.facts hM (hz60.mono (fun c hc => (List.mem_cons_of_mem _ (List.mem_cons_of_mem _ (List.mem_cons_of_mem _ (List.mem_cons_of_mem _ (List.mem_cons_of_mem _ (List.mem_cons_of_mem _ (List.mem_cons_of_mem _ hc)))))))))
                 have hw400 := RwD.facts hM (hz60.mono (fun c hc => (List.mem_cons_of_mem _ (List.mem_cons_of_mem _ (List.mem_cons_of_mem _ (List.mem_cons_of_mem _ (List.mem_cons_of_mem _ (List.mem_cons_of_mem _ (List.mem_cons_of_mem _ hc)))))))))
                 refine any_one (by kernel_rfl) (op_call hA 6 rfl rfl rfl rfl (enters_func rfl rfl (fun w => by kernel_rfl)) (rsame_as (cF_ := 0) (cI := 0) (cO := 0) (fs := []) (il := []) (ol := []) (cG := 0) (cJ := 0) (cK := 0) (gf := []) (jl := []) (kl := []) (b := true) hw399.1 hw399.2.1 hw399.2.2.1 hw400.1 hw400.2.1 hw400.2.2.1 Bd.zero (Bd.n Bd.zero) (decide_eq_true ⟨rfl, rfl, rfl⟩)) ?_)
                 rintro _ w402 ⟨rfl, hb401⟩
                 replace hM := hM.call hb401
                 refine ⟨_, rfl, (hM.sub (.cons_cons _ (.cons_cons _ (.cons_cons _ (.cons _ (.cons_cons _ (.cons_cons _ (.cons _ (List.nil_sublist _))))))))), ?_⟩
                 intro a hA
                 refine any_tk (v := .bool false) hA 7 rfl rfl rfl rfl hP (hM.sub (.cons_cons _ (.cons_cons _ (.cons_cons _ (.cons _ (.cons_cons _ (.cons_cons _ (.cons _ (List.nil_sublist _))))))))) (fun w1 hM => does_un rfl un_not) ?_
                 intro a hA
                 refine any_tk (v := .bool false) hA 8 rfl rfl rfl rfl hP (hM.sub (.cons_cons _ (.cons_cons _ (.cons_cons _ (.cons _ (.cons_cons _ (.cons_cons _ (.cons _ (List.nil_sublist _))))))))) (fun w1 hM => does_pick rfl rfl rfl rfl) ?_
                 intro a hA
                 refine any_tk hA 9 rfl rfl rfl rfl hP (hM.sub (.cons_cons _ (.cons_cons _ (.cons_cons _ (.cons _ (.cons_cons _ (.cons_cons _ (.cons _ (List.nil_sublist _))))))))) (fun w1 hM => does_move rfl) ?_
                 intro a hA
                 refine any_tk hA 10 rfl rfl rfl rfl hP (hM.sub (.cons_cons _ (.cons_cons _ (.cons_cons _ (.cons _ (.cons_cons _ (.cons_cons _ (.cons _ (List.nil_sublist _))))))))) (fun w1 hM => does_move rfl) ?_
                 intro a hA
                 refine any_tk hA 11 rfl rfl rfl rfl hP (hM.sub (.cons_cons _ (.cons_cons _ (.cons_cons _ (.cons _ (.cons_cons _ (.cons_cons _ (.cons _ (List.nil_sublist _))))))))) (fun w1 hM => does_move rfl) ?_
                 intro a hA
                 refine any_one (by kernel_rfl) (op_call hA 12 rfl rfl rfl rfl (enters_func rfl rfl (fun w => by kernel_rfl)) (same_as (xs := (getR nm fx ix ox).2) (ys := (getR nm fx ix ox).2) (ca := ca383) (cb := ca394) (b := true) (rb_of hM (List.mem_cons_of_mem _ (List.mem_cons_of_mem _ (List.mem_cons_of_mem _ (List.mem_cons_of_mem _ (List.mem_cons_of_mem _ (List.mem_cons_of_mem _ (List.mem_cons_of_mem _ hp384)))))))) (rb_of hM (List.mem_cons_of_mem _ (List.mem_cons_of_mem _ (List.mem_cons_of_mem _ (List.mem_cons_of_mem _ (List.mem_cons_of_mem _ (List.mem_cons_of_mem _ (List.mem_cons_of_mem _ hp395)))))))) (bd_got hBx) (decide_eq_true rfl)) ?_)
                 rintro _ w404 ⟨rfl, hb403⟩
                 replace hM := hM.call hb403
                 refine ⟨_, rfl, (hM.sub (.cons_cons _ (.cons_cons _ (.cons_cons _ (.cons _ (.cons_cons _ (.cons_cons _ (.cons _ (List.nil_sublist _))))))))), ?_⟩
                 intro a hA
                 refine any_tk (v := .bool false) hA 13 rfl rfl rfl rfl hP (hM.sub (.cons_cons _ (.cons_cons _ (.cons_cons _ (.cons _ (.cons_cons _ (.cons_cons _ (.cons _ (List.nil_sublist _))))))))) (fun w1 hM => does_un rfl un_not) ?_
                 intro a hA
                 refine any_tk (v := .bool false) hA 14 rfl rfl rfl rfl hP (hM.sub (.cons_cons _ (.cons_cons _ (.cons_cons _ (.cons _ (.cons_cons _ (.cons_cons _ (.cons _ (List.nil_sublist _))))))))) (fun w1 hM => does_pick rfl rfl rfl rfl) ?_
                 intro a hA
                 refine any_tk hA 15 rfl rfl rfl rfl hP (hM.sub (.cons_cons _ (.cons_cons _ (.cons_cons _ (.cons _ (.cons_cons _ (.cons_cons _ (.cons _ (List.nil_sublist _))))))))) (fun w1 hM => does_move rfl) ?_
                 intro a hA
                 refine any_tk hA 16 rfl rfl rfl rfl hP (hM.sub (.cons_cons _ (.cons_cons _ (.cons_cons _ (.cons _ (.cons_cons _ (.cons_cons _ (.cons _ (List.nil_sublist _))))))))) (fun w1 hM => m_loadS hM Wn_isS_37 rfl 3 rfl (cs := [.slice sU1 fx.length cU1, .slice sU2 ix.length cU2, .slice sU3 ox.length cU3]) rfl rfl) ?_
                 intro a hA
                 refine any_tk hA 17 rfl rfl rfl rfl hP (hM.sub (.cons_cons _ (.cons_cons _ (.cons_cons _ (.cons _ (.cons_cons _ (.cons_cons _ (.cons _ (List.nil_sublist _))))))))) (fun w1 hM => m_loadS hM Wn_isS_37 rfl 2 rfl (cs := [.slice sF46 fx.length cF47, .slice sI48 ix.length cI49, .slice sO50 ox.length cO51]) rfl rfl) ?_
                 intro a hA
                 have hw405 := RwD.facts hM (hRu.mono (fun c hc => (List.mem_cons_of_mem _ (List.mem_cons_of_mem _ (List.mem_cons_of_mem _ (List.mem_cons_of_mem _ (List.mem_cons_of_mem _ (List.mem_cons_of_mem _ (List.mem_cons_of_mem _ hc)))))))))
                 have hw406 := RwD.facts hM (hR41.mono (fun c hc => (List.mem_cons_of_mem _ (List.mem_cons_of_mem _ (List.mem_cons_of_mem _ (List.mem_cons_of_mem _ (List.mem_cons_of_mem _ (List.mem_cons_of_mem _ (List.mem_cons_of_mem _ hc)))))))))
                 refine any_one (by kernel_rfl) (op_call hA 18 rfl rfl rfl rfl (enters_func rfl rfl (fun w => by kernel_rfl)) (rsame_as  (b := true) hw405.1 hw405.2.1 hw405.2.2.1 hw406.1 hw406.2.1 hw406.2.2.1 hBx (Bd.n hBx) (decide_eq_true ⟨rfl, rfl, rfl⟩)) ?_)
                 rintro _ w408 ⟨rfl, hb407⟩
                 replace hM := hM.call hb407
                 refine ⟨_, rfl, (hM.sub (.cons_cons _ (.cons_cons _ (.cons_cons _ (.cons _ (.cons_cons _ (.cons_cons _ (.cons _ (List.nil_sublist _))))))))), ?_⟩
                 intro a hA
                 refine any_tk (v := .bool false) hA 19 rfl rfl rfl rfl hP (hM.sub (.cons_cons _ (.cons_cons _ (.cons_cons _ (.cons _ (.cons_cons _ (.cons_cons _ (.cons _ (List.nil_sublist _))))))))) (fun w1 hM => does_un rfl un_not) ?_
                 intro a hA
                 refine any_tk (v := .bool false) hA 20 rfl rfl rfl rfl hP (hM.sub (.cons_cons _ (.cons_cons _ (.cons_cons _ (.cons _ (.cons_cons _ (.cons_cons _ (.cons _ (List.nil_sublist _))))))))) (fun w1 hM => does_pick rfl rfl rfl rfl) ?_
                 intro a hA
                 refine any_tk hA 21 rfl rfl rfl rfl hP (hM.sub (.cons_cons _ (.cons_cons _ (.cons_cons _ (.cons _ (.cons_cons _ (.cons_cons _ (.cons _ (List.nil_sublist _))))))))) (fun w1 hM => does_move rfl) ?_
                 intro a hA
                 refine any_tk hA 22 rfl rfl rfl rfl hP (hM.sub (.cons_cons _ (.cons_cons _ (.cons_cons _ (.cons _ (.cons_cons _ (.cons_cons _ (.cons _ (List.nil_sublist _))))))))) (fun w1 hM => m_loadS hM Wn_isS_37 rfl 3 rfl (cs := [.slice sU1 fx.length cU1, .slice sU2 ix.length cU2, .slice sU3 ox.length cU3]) rfl rfl) ?_
                 intro a hA
                 refine any_tk hA 24 rfl rfl rfl rfl hP (hM.sub (.cons_cons _ (.cons_cons _ (.cons_cons _ (.cons _ (.cons_cons _ (.cons_cons _ (.cons _ (List.nil_sublist _))))))))) (fun w1 hM => m_loadS hM Wn_isS_37 rfl 4 rfl (cs := [.slice sV1 fx.length cV1, .slice sV2 ix.length cV2, .slice sV3 ox.length cV3]) rfl rfl) ?_
                 intro a hA
                 have hw409 := RwD.facts hM (hRu.mono (fun c hc => (List.mem_cons_of_mem _ (List.mem_cons_of_mem _ (List.mem_cons_of_mem _ (List.mem_cons_of_mem _ (List.mem_cons_of_mem _ (List.mem_cons_of_mem _ (List.mem_cons_of_mem _ hc)))))))))
                 refine any_one (by kernel_rfl) (op_call hA 23 rfl rfl rfl rfl (enters_func rfl rfl (fun w => by kernel_rfl)) (sound_any (cF_ := cU1) (cI := cU2) (cO := cU3) (fs := fx) (il := ix) (ol := ox) hw409.1 hBx.n) ?_)
                 rintro _ w411 ⟨rfl, hb410⟩
                 replace hM := hM.call hb410
                 refine ⟨_, rfl, (hM.sub (.cons_cons _ (.cons_cons _ (.cons_cons _ (.cons _ (.cons_cons _ (.cons_cons _ (.cons _ (List.nil_sublist _))))))))), ?_⟩
                 intro a hA
                 have hw412 := RwD.facts hM (hRv.mono (fun c hc => (List.mem_cons_of_mem _ (List.mem_cons_of_mem _ (List.mem_cons_of_mem _ (List.mem_cons_of_mem _ (List.mem_cons_of_mem _ (List.mem_cons_of_mem _ (List.mem_cons_of_mem _ hc)))))))))
                 refine any_one (by kernel_rfl) (op_call hA 25 rfl rfl rfl rfl (enters_func rfl rfl (fun w => by kernel_rfl)) (rsound_any (cF_ := cV1) (cI := cV2) (cO := cV3) (fs := fx) (il := ix) (ol := ox) hw412.1 hBx.n) ?_)
                 rintro _ w414 ⟨rfl, hb413⟩
                 replace hM := hM.call hb413
                 refine ⟨_, rfl, (hM.sub (.cons_cons _ (.cons_cons _ (.cons_cons _ (.cons _ (.cons_cons _ (.cons_cons _ (.cons _ (List.nil_sublist _))))))))), ?_⟩
                 intro a hA
                 refine any_tk (v := .bool false) hA 26 rfl rfl rfl rfl hP (hM.sub (.cons_cons _ (.cons_cons _ (.cons_cons _ (.cons _ (.cons_cons _ (.cons_cons _ (.cons _ (List.nil_sublist _))))))))) (fun w1 hM => does_bin rfl rfl (fun w => ((bin_neqB Try.underlying4) w).trans (by rw [show (!(soundS fx ix ox == soundS fx ix ox)) = false from by simp]))) ?_
                 intro a hA
                 refine any_tk (v := .bool false) hA 27 rfl rfl rfl rfl hP (hM.sub (.cons_cons _ (.cons_cons _ (.cons_cons _ (.cons _ (.cons_cons _ (.cons_cons _ (.cons _ (List.nil_sublist _))))))))) (fun w1 hM => does_pick rfl rfl rfl rfl) ?_
                 intro a hA
                 refine any_end (by kernel_rfl) ?_
                 refine hK398 _ _ ?_
                 refine wp_cond_false (hA.ev rfl) ?_
                 refine wp_skip ?_
                 refine hK397 _ _ ?_
                 refine wp_seq_k (fun K415 hK415 => ?_)
                 replace hA := hA.keep [(1, .slice sS os.length cS), (5, .pointer (some ⟨ga, 0, none⟩)), (6, .pointer (some ⟨gb, 0, none⟩)), (7, .int .i64 (((i : Nat) : Int))), (8, .pointer (some ⟨g30, 0, none⟩)), (9, .pointer (some ⟨g53, 0, none⟩)), (10, .pointer (some ⟨g61, 0, none⟩)), (11, .pointer (some ⟨g63, 0, none⟩)), (12, .slice so382 ((getR nm fx ix ox).2.length) ca383), (13, .slice so393 ((getR nm fx ix ox).2.length) ca394), (14, .int .i64 ((getR nm fx ix ox).1)), (15, .int .i64 ((getR nm fx ix ox).1)), (35, .int .i64 kd)] ⟨rfl, rfl, rfl, rfl, rfl, rfl, rfl, rfl, rfl, rfl, rfl, rfl, rfl, trivial⟩
                 refine wp_region_lit ?_
                 refine seq_do hA rfl rfl rfl (does_move rfl) ?_
                 intro a hA
                 rcases Bool.eq_false_or_eq_true (((getR nm fx ix ox).1 == 0)) with hb416 | hb416
                 · have hb416' := eq_of_beq hb416
                   refine seq_do (v := .bool true) hA rfl rfl rfl (does_bin rfl rfl (fun w => (bin_eql w).trans (by rw [hb416]))) ?_
                   intro a hA
                   refine seq_do hA rfl rfl rfl (does_move rfl) ?_
                   intro a hA
                   refine seq_do (v := .pointer (some ⟨g30, 0, none⟩)) hA rfl rfl rfl (does_field Wn_fld_41_0 rfl rfl) ?_
                   intro a hA
                   refine seq_do hA rfl rfl rfl (m_load1 hM Wn_is1_3 rfl 3 rfl rfl) ?_
                   intro a hA
                   refine seq_do (v := .bool true) hA rfl rfl rfl (does_bin rfl rfl (fun w => (bin_geq w).trans (by rw [show (decide (1 ≤ kd)) = true from decide_eq_true (by omega)]))) ?_
                   intro a hA
                   refine seq_do (v := .bool true) hA rfl rfl rfl (does_pick rfl rfl rfl rfl) ?_
                   intro a hA
                   refine seq_do hA rfl rfl rfl (does_move rfl) ?_
                   intro a hA
                   refine seq_do (v := .pointer (some ⟨g30, 0, none⟩)) hA rfl rfl rfl (does_field Wn_fld_41_0 rfl rfl) ?_
                   intro a hA
                   refine seq_do hA rfl rfl rfl (m_load1 hM Wn_is1_3 rfl 3 rfl rfl) ?_
                   intro a hA
                   refine seq_do (v := .bool false) hA rfl rfl rfl (does_bin rfl rfl (fun w => (bin_leq w).trans (by rw [show (decide (kd ≤ 5)) = false from decide_eq_false (by omega)]))) ?_
                   intro a hA
                   refine seq_do (v := .bool false) hA rfl rfl rfl (does_pick rfl rfl rfl rfl) ?_
                   intro a hA
                   refine seq_end ?_
                   refine hK415 _ _ ?_
                   refine wp_cond_false (hA.ev rfl) ?_
                   refine wp_skip ?_
                   refine hK19 _ _ ?_
                   replace hA := hA.keep [(1, .slice sS os.length cS), (5, .pointer (some ⟨ga, 0, none⟩)), (6, .pointer (some ⟨gb, 0, none⟩)), (7, .int .i64 (((i : Nat) : Int))), (8, .pointer (some ⟨g30, 0, none⟩)), (9, .pointer (some ⟨g53, 0, none⟩)), (10, .pointer (some ⟨g61, 0, none⟩)), (11, .pointer (some ⟨g63, 0, none⟩)), (12, .slice so382 ((getR nm fx ix ox).2.length) ca383), (13, .slice so393 ((getR nm fx ix ox).2.length) ca394), (14, .int .i64 ((getR nm fx ix ox).1)), (15, .int .i64 ((getR nm fx ix ox).1)), (35, .int .i64 kd)] ⟨rfl, rfl, rfl, rfl, rfl, rfl, rfl, rfl, rfl, rfl, rfl, rfl, rfl, trivial⟩
                   refine wp_region_lit ?_
                   refine seq_do hA rfl rfl rfl (does_move rfl) ?_
                   intro a hA
                   refine seq_do (v := .int .i64 (((i + 1 : Nat) : Int))) hA rfl rfl rfl (does_bin rfl rfl (ar_add ((in_i64 (by omega) (by omega)).trans (by omega)))) ?_
                   intro a hA
                   refine seq_do hA rfl rfl rfl (does_assign rfl) ?_
                   intro a hA
                   refine seq_end ?_
                   replace hM : Mg w w414 (.obj ga (.cells #[.slice sU1 fx.length cU1, .slice sU2 ix.length cU2, .slice sU3 ox.length cU3] 37) :: .obj gb (.cells #[.slice sV1 fx.length cV1, .slice sV2 ix.length cV2, .slice sV3 ox.length cV3] 37) :: .obj g2 (.cells #[.slice sF fs.length cF_, .slice sI il.length cI, .slice sO ol.length cO] 37) :: D390) := by
                     have h9 := hM.sub (.cons _ (.cons _ (.cons _ (.cons _ (.cons_cons _ (.cons_cons _ (.cons_cons _ (.refl _))))))))
                     exact h9
                   refine hK14 _ _ _ (by omega) ⟨i + 1, fx, ix, ox, sU1, cU1, sU2, cU2, sU3, cU3, sV1, cV1, sV2, cV2, sV3, cV3, D390, rfl, ⟨hRu, hRv, hnD390, hBx, by omega⟩, hA.keep _ ⟨rfl, rfl, rfl, rfl, trivial⟩, hM⟩
                 · have hb416' := ne_of_beq_false hb416
                   refine seq_do (v := .bool false) hA rfl rfl rfl (does_bin rfl rfl (fun w => (bin_eql w).trans (by rw [hb416]))) ?_
                   intro a hA
                   refine seq_do hA rfl rfl rfl (does_move rfl) ?_
                   intro a hA
                   refine seq_skip hA rfl rfl rfl ?_
                   intro a hA
                   refine seq_skip hA rfl rfl rfl ?_
                   intro a hA
                   refine seq_skip hA rfl rfl rfl ?_
                   intro a hA
                   refine seq_do (v := .bool false) hA rfl rfl rfl (does_pick rfl rfl rfl rfl) ?_
                   intro a hA
                   refine seq_do hA rfl rfl rfl (does_move rfl) ?_
                   intro a hA
                   refine seq_skip hA rfl rfl rfl ?_
                   intro a hA
                   refine seq_skip hA rfl rfl rfl ?_
                   intro a hA
                   refine seq_skip hA rfl rfl rfl ?_
                   intro a hA
                   refine seq_do (v := .bool false) hA rfl rfl rfl (does_pick rfl rfl rfl rfl) ?_
                   intro a hA
                   refine seq_end ?_
                   refine hK415 _ _ ?_
                   refine wp_cond_false (hA.ev rfl) ?_
                   refine wp_skip ?_
                   refine hK19 _ _ ?_
                   replace hA := hA.keep [(1, .slice sS os.length cS), (5, .pointer (some ⟨ga, 0, none⟩)), (6, .pointer (some ⟨gb, 0, none⟩)), (7, .int .i64 (((i : Nat) : Int))), (8, .pointer (some ⟨g30, 0, none⟩)), (9, .pointer (some ⟨g53, 0, none⟩)), (10, .pointer (some ⟨g61, 0, none⟩)), (11, .pointer (some ⟨g63, 0, none⟩)), (12, .slice so382 ((getR nm fx ix ox).2.length) ca383), (13, .slice so393 ((getR nm fx ix ox).2.length) ca394), (14, .int .i64 ((getR nm fx ix ox).1)), (15, .int .i64 ((getR nm fx ix ox).1)), (35, .int .i64 kd)] ⟨rfl, rfl, rfl, rfl, rfl, rfl, rfl, rfl, rfl, rfl, rfl, rfl, rfl, trivial⟩
                   refine wp_region_lit ?_
                   refine seq_do hA rfl rfl rfl (does_move rfl) ?_
                   intro a hA
                   refine seq_do (v := .int .i64 (((i + 1 : Nat) : Int))) hA rfl rfl rfl (does_bin rfl rfl (ar_add ((in_i64 (by omega) (by omega)).trans (by omega)))) ?_
                   intro a hA
                   refine seq_do hA rfl rfl rfl (does_assign rfl) ?_
                   intro a hA
                   refine seq_end ?_
                   replace hM : Mg w w414 (.obj ga (.cells #[.slice sU1 fx.length cU1, .slice sU2 ix.length cU2, .slice sU3 ox.length cU3] 37) :: .obj gb (.cells #[.slice sV1 fx.length cV1, .slice sV2 ix.length cV2, .slice sV3 ox.length cV3] 37) :: .obj g2 (.cells #[.slice sF fs.length cF_, .slice sI il.length cI, .slice sO ol.length cO] 37) :: D390) := by
                     have h9 := hM.sub (.cons _ (.cons _ (.cons _ (.cons _ (.cons_cons _ (.cons_cons _ (.cons_cons _ (.refl _))))))))
                     exact h9
                   refine hK14 _ _ _ (by omega) ⟨i + 1, fx, ix, ox, sU1, cU1, sU2, cU2, sU3, cU3, sV1, cV1, sV2, cV2, sV3, cV3, D390, rfl, ⟨hRu, hRv, hnD390, hBx, by omega⟩, hA.keep _ ⟨rfl, rfl, rfl, rfl, trivial⟩, hM⟩
               · have hb373' := ne_of_beq_false hb373
                 refine seq_do (v := .bool false) hA rfl rfl rfl (does_bin rfl rfl (fun w => (bin_eql w).trans (by rw [hb373]))) ?_
                 intro a hA
                 refine seq_do hA rfl rfl rfl (does_assign rfl) ?_
                 intro a hA
                 refine seq_end ?_
                 refine hK372 _ _ ?_
                 refine wp_cond_false (hA.ev rfl) ?_
                 refine wp_skip ?_
                 refine hK67 _ _ ?_
                 refine wp_seq_k (fun K417 hK417 => ?_)
                 refine wp_seq_k (fun K418 hK418 => ?_)
                 replace hA := hA.keep [(1, .slice sS os.length cS), (5, .pointer (some ⟨ga, 0, none⟩)), (6, .pointer (some ⟨gb, 0, none⟩)), (7, .int .i64 (((i : Nat) : Int))), (8, .pointer (some ⟨g30, 0, none⟩)), (9, .pointer (some ⟨g53, 0, none⟩)), (10, .pointer (some ⟨g61, 0, none⟩)), (11, .pointer (some ⟨g63, 0, none⟩)), (12, .slice none 0 0), (13, .slice none 0 0), (14, .int .i64 0), (15, .int .i64 0), (35, .int .i64 kd)] ⟨rfl, rfl, rfl, rfl, rfl, rfl, rfl, rfl, rfl, rfl, rfl, rfl, rfl, trivial⟩
                 refine wp_draw (S := fun w1 => Mg w w1 (.obj g63 (.cells #[.slice none 0 0, .slice none 0 0, .slice none 0 0] 37) :: .obj g61 (.cells #[.slice none 0 0, .slice none 0 0, .slice none 0 0] 37) :: .obj g53 (.cells #[.slice sF46 fx.length cF47, .slice sI48 ix.length cI49, .slice sO50 ox.length cO51] 37) :: .obj ga (.cells #[.slice sU1 fx.length cU1, .slice sU2 ix.length cU2, .slice sU3 ox.length cU3] 37) :: .obj gb (.cells #[.slice sV1 fx.length cV1, .slice sV2 ix.length cV2, .slice sV3 ox.length cV3] 37) :: [])) (by kernel_rfl) ?_
                 replace hM := hM.drew
                 refine any_tk hA 0 rfl rfl rfl rfl hP (hM.sub (.cons_cons _ (.cons_cons _ (.cons_cons _ (.cons _ (.cons_cons _ (.cons_cons _ (.cons _ (List.nil_sublist _))))))))) (fun w1 hM => does_move rfl) ?_
                 intro a hA
                 refine any_tk hA 1 rfl rfl rfl rfl hP (hM.sub (.cons_cons _ (.cons_cons _ (.cons_cons _ (.cons _ (.cons_cons _ (.cons_cons _ (.cons _ (List.nil_sublist _))))))))) (fun w1 hM => does_move rfl) ?_
                 intro a hA
                 refine any_tk (v := .bool false) hA 2 rfl rfl rfl rfl hP (hM.sub (.cons_cons _ (.cons_cons _ (.cons_cons _ (.cons _ (.cons_cons _ (.cons_cons _ (.cons _ (List.nil_sublist _))))))))) (fun w1 hM => does_bin rfl rfl (fun w => by kernel_rfl)) ?_
                 intro a hA
                 refine any_tk hA 3 rfl rfl rfl rfl hP (hM.sub (.cons_cons _ (.cons_cons _ (.cons_cons _ (.cons _ (.cons_cons _ (.cons_cons _ (.cons _ (List.nil_sublist _))))))))) (fun w1 hM => does_move rfl) ?_
                 intro a hA
                 refine any_tk hA 4 rfl rfl rfl rfl hP (hM.sub (.cons_cons _ (.cons_cons _ (.cons_cons _ (.cons _ (.cons_cons _ (.cons_cons _ (.cons _ (List.nil_sublist _))))))))) (fun w1 hM => m_loadS hM Wn_isS_37 rfl 1 rfl (cs := [.slice none 0 0, .slice none 0 0, .slice none 0 0]) rfl rfl) ?_
                 intro a hA
                 refine any_tk hA 5 rfl rfl rfl rfl hP (hM.sub (.cons_cons _ (.cons_cons _ (.cons_cons _ (.cons _ (.cons_cons _ (.cons_cons _ (.cons _ (List.nil_sublist _))))))))) (fun w1 hM => m_loadS hM Wn_isS_37 rfl 0 rfl (cs := [.slice none 0 0, .slice none 0 0, .slice none 0 0]) rfl rfl) ?_
                 intro a hA
                 have hw419 := RwD.facts hM (hz60.mono (fun c hc => (List.mem_cons_of_mem _ (List.mem_cons_of_mem _ (List.mem_cons_of_mem _ (List.mem_cons_of_mem _ (List.mem_cons_of_mem _ (List.mem_cons_of_mem _ (List.mem_cons_of_mem _ hc)))))))))
                 have hw420 := RwD.facts hM (hz60.mono (fun c hc => (List.mem_cons_of_mem _ (List.mem_cons_of_mem _ (List.mem_cons_of_mem _ (List.mem_cons_of_mem _ (List.mem_cons_of_mem _ (List.mem_cons_of_mem _ (List.mem_cons_of_mem _ hc)))))))))
                 refine any_one (by kernel_rfl) (op_call hA 6 rfl rfl rfl rfl (enters_func rfl rfl (fun w => by kernel_rfl)) (rsame_as (cF_ := 0) (cI := 0) (cO := 0) (fs := []) (il := []) (ol := []) (cG := 0) (cJ := 0) (cK := 0) (gf := []) (jl := []) (kl := []) (b := true) hw419.1 hw419.2.1 hw419.2.2.1 hw420.1 hw420.2.1 hw420.2.2.1 Bd.zero (Bd.n Bd.zero) (decide_eq_true ⟨rfl, rfl, rfl⟩)) ?_)
                 rintro _ w422 ⟨rfl, hb421⟩
                 replace hM := hM.call hb421
                 refine ⟨_, rfl, (hM.sub (.cons_cons _ (.cons_cons _ (.cons_cons _ (.cons _ (.cons_cons _ (.cons_cons _ (.cons _ (List.nil_sublist _))))))))), ?_⟩
                 intro a hA
                 refine any_tk (v := .bool false) hA 7 rfl rfl rfl rfl hP (hM.sub (.cons_cons _ (.cons_cons _ (.cons_cons _ (.cons _ (.cons_cons _ (.cons_cons _ (.cons _ (List.nil_sublist _))))))))) (fun w1 hM => does_un rfl un_not) ?_
                 intro a hA
                 refine any_tk (v := .bool false) hA 8 rfl rfl rfl rfl hP (hM.sub (.cons_cons _ (.cons_cons _ (.cons_cons _ (.cons _ (.cons_cons _ (.cons_cons _ (.cons _ (List.nil_sublist _))))))))) (fun w1 hM => does_pick rfl rfl rfl rfl) ?_
                 intro a hA
                 refine any_tk hA 9 rfl rfl rfl rfl hP (hM.sub (.cons_cons _ (.cons_cons _ (.cons_cons _ (.cons _ (.cons_cons _ (.cons_cons _ (.cons _ (List.nil_sublist _))))))))) (fun w1 hM => does_move rfl) ?_
                 intro a hA
                 refine any_tk hA 10 rfl rfl rfl rfl hP (hM.sub (.cons_cons _ (.cons_cons _ (.cons_cons _ (.cons _ (.cons_cons _ (.cons_cons _ (.cons _ (List.nil_sublist _))))))))) (fun w1 hM => does_move rfl) ?_
                 intro a hA
                 refine any_tk hA 11 rfl rfl rfl rfl hP (hM.sub (.cons_cons _ (.cons_cons _ (.cons_cons _ (.cons _ (.cons_cons _ (.cons_cons _ (.cons _ (List.nil_sublist _))))))))) (fun w1 hM => does_move rfl) ?_
                 intro a hA
                 refine any_one (by kernel_rfl) (op_call hA 12 rfl rfl rfl rfl (enters_func rfl rfl (fun w => by kernel_rfl)) (same_as (so := none) (to_ := none) (xs := []) (ys := []) (ca := 0) (cb := 0) (b := true) rb_nil rb_nil (by simp) (decide_eq_true rfl)) ?_)
                 rintro _ w424 ⟨rfl, hb423⟩
                 replace hM := hM.call hb423
                 refine ⟨_, rfl, (hM.sub (.cons_cons _ (.cons_cons _ (.cons_cons _ (.cons _ (.cons_cons _ (.cons_cons _ (.cons _ (List.nil_sublist _))))))))), ?_⟩
                 intro a hA
                 refine any_tk (v := .bool false) hA 13 rfl rfl rfl rfl hP (hM.sub (.cons_cons _ (.cons_cons _ (.cons_cons _ (.cons _ (.cons_cons _ (.cons_cons _ (.cons _ (List.nil_sublist _))))))))) (fun w1 hM => does_un rfl un_not) ?_
                 intro a hA
                 refine any_tk (v := .bool false) hA 14 rfl rfl rfl rfl hP (hM.sub (.cons_cons _ (.cons_cons _ (.cons_cons _ (.cons _ (.cons_cons _ (.cons_cons _ (.cons _ (List.nil_sublist _))))))))) (fun w1 hM => does_pick rfl rfl rfl rfl) ?_
                 intro a hA
                 refine any_tk hA 15 rfl rfl rfl rfl hP (hM.sub (.cons_cons _ (.cons_cons _ (.cons_cons _ (.cons _ (.cons_cons _ (.cons_cons _ (.cons _ (List.nil_sublist _))))))))) (fun w1 hM => does_move rfl) ?_
                 intro a hA
                 refine any_tk hA 16 rfl rfl rfl rfl hP (hM.sub (.cons_cons _ (.cons_cons _ (.cons_cons _ (.cons _ (.cons_cons _ (.cons_cons _ (.cons _ (List.nil_sublist _))))))))) (fun w1 hM => m_loadS hM Wn_isS_37 rfl 3 rfl (cs := [.slice sU1 fx.length cU1, .slice sU2 ix.length cU2, .slice sU3 ox.length cU3]) rfl rfl) ?_
                 intro a hA
                 refine any_tk hA 17 rfl rfl rfl rfl hP (hM.sub (.cons_cons _ (.cons_cons _ (.cons_cons _ (.cons _ (.cons_cons _ (.cons_cons _ (.cons _ (List.nil_sublist _))))))))) (fun w1 hM => m_loadS hM Wn_isS_37 rfl 2 rfl (cs := [.slice sF46 fx.length cF47, .slice sI48 ix.length cI49, .slice sO50 ox.length cO51]) rfl rfl) ?_
                 intro a hA
                 have hw425 := RwD.facts hM (hRu.mono (fun c hc => (List.mem_cons_of_mem _ (List.mem_cons_of_mem _ (List.mem_cons_of_mem _ (List.mem_cons_of_mem _ (List.mem_cons_of_mem _ (List.mem_cons_of_mem _ (List.mem_cons_of_mem _ hc)))))))))
                 have hw426 := RwD.facts hM (hR41.mono (fun c hc => (List.mem_cons_of_mem _ (List.mem_cons_of_mem _ (List.mem_cons_of_mem _ (List.mem_cons_of_mem _ (List.mem_cons_of_mem _ (List.mem_cons_of_mem _ (List.mem_cons_of_mem _ hc)))))))))
                 refine any_one (by kernel_rfl) (op_call hA 18 rfl rfl rfl rfl (enters_func rfl rfl (fun w => by kernel_rfl)) (rsame_as  (b := true) hw425.1 hw425.2.1 hw425.2.2.1 hw426.1 hw426.2.1 hw426.2.2.1 hBx (Bd.n hBx) (decide_eq_true ⟨rfl, rfl, rfl⟩)) ?_)
                 rintro _ w428 ⟨rfl, hb427⟩
                 replace hM := hM.call hb427
                 refine ⟨_, rfl, (hM.sub (.cons_cons _ (.cons_cons _ (.cons_cons _ (.cons _ (.cons_cons _ (.cons_cons _ (.cons _ (List.nil_sublist _))))))))), ?_⟩
                 intro a hA
                 refine any_tk (v := .bool false) hA 19 rfl rfl rfl rfl hP (hM.sub (.cons_cons _ (.cons_cons _ (.cons_cons _ (.cons _ (.cons_cons _ (.cons_cons _ (.cons _ (List.nil_sublist _))))))))) (fun w1 hM => does_un rfl un_not) ?_
                 intro a hA
                 refine any_tk (v := .bool false) hA 20 rfl rfl rfl rfl hP (hM.sub (.cons_cons _ (.cons_cons _ (.cons_cons _ (.cons _ (.cons_cons _ (.cons_cons _ (.cons _ (List.nil_sublist _))))))))) (fun w1 hM => does_pick rfl rfl rfl rfl) ?_
                 intro a hA
                 refine any_tk hA 21 rfl rfl rfl rfl hP (hM.sub (.cons_cons _ (.cons_cons _ (.cons_cons _ (.cons _ (.cons_cons _ (.cons_cons _ (.cons _ (List.nil_sublist _))))))))) (fun w1 hM => does_move rfl) ?_
                 intro a hA
                 refine any_tk hA 22 rfl rfl rfl rfl hP (hM.sub (.cons_cons _ (.cons_cons _ (.cons_cons _ (.cons _ (.cons_cons _ (.cons_cons _ (.cons _ (List.nil_sublist _))))))))) (fun w1 hM => m_loadS hM Wn_isS_37 rfl 3 rfl (cs := [.slice sU1 fx.length cU1, .slice sU2 ix.length cU2, .slice sU3 ox.length cU3]) rfl rfl) ?_
                 intro a hA
                 refine any_tk hA 24 rfl rfl rfl rfl hP (hM.sub (.cons_cons _ (.cons_cons _ (.cons_cons _ (.cons _ (.cons_cons _ (.cons_cons _ (.cons _ (List.nil_sublist _))))))))) (fun w1 hM => m_loadS hM Wn_isS_37 rfl 4 rfl (cs := [.slice sV1 fx.length cV1, .slice sV2 ix.length cV2, .slice sV3 ox.length cV3]) rfl rfl) ?_
                 intro a hA
                 have hw429 := RwD.facts hM (hRu.mono (fun c hc => (List.mem_cons_of_mem _ (List.mem_cons_of_mem _ (List.mem_cons_of_mem _ (List.mem_cons_of_mem _ (List.mem_cons_of_mem _ (List.mem_cons_of_mem _ (List.mem_cons_of_mem _ hc)))))))))
                 refine any_one (by kernel_rfl) (op_call hA 23 rfl rfl rfl rfl (enters_func rfl rfl (fun w => by kernel_rfl)) (sound_any (cF_ := cU1) (cI := cU2) (cO := cU3) (fs := fx) (il := ix) (ol := ox) hw429.1 hBx.n) ?_)
                 rintro _ w431 ⟨rfl, hb430⟩
                 replace hM := hM.call hb430
                 refine ⟨_, rfl, (hM.sub (.cons_cons _ (.cons_cons _ (.cons_cons _ (.cons _ (.cons_cons _ (.cons_cons _ (.cons _ (List.nil_sublist _))))))))), ?_⟩
                 intro a hA
                 have hw432 := RwD.facts hM (hRv.mono (fun c hc => (List.mem_cons_of_mem _ (List.mem_cons_of_mem _ (List.mem_cons_of_mem _ (List.mem_cons_of_mem _ (List.mem_cons_of_mem _ (List.mem_cons_of_mem _ (List.mem_cons_of_mem _ hc)))))))))
                 refine any_one (by kernel_rfl) (op_call hA 25 rfl rfl rfl rfl (enters_func rfl rfl (fun w => by kernel_rfl)) (rsound_any (cF_ := cV1) (cI := cV2) (cO := cV3) (fs := fx) (il := ix) (ol := ox) hw432.1 hBx.n) ?_)
                 rintro _ w434 ⟨rfl, hb433⟩
                 replace hM := hM.call hb433
                 refine ⟨_, rfl, (hM.sub (.cons_cons _ (.cons_cons _ (.cons_cons _ (.cons _ (.cons_cons _ (.cons_cons _ (.cons _ (List.nil_sublist _))))))))), ?_⟩
                 intro a hA
                 refine any_tk (v := .bool false) hA 26 rfl rfl rfl rfl hP (hM.sub (.cons_cons _ (.cons_cons _ (.cons_cons _ (.cons _ (.cons_cons _ (.cons_cons _ (.cons _ (List.nil_sublist _))))))))) (fun w1 hM => does_bin rfl rfl (fun w => ((bin_neqB Try.underlying4) w).trans (by rw [show (!(soundS fx ix ox == soundS fx ix ox)) = false from by simp]))) ?_
                 intro a hA
                 refine any_tk (v := .bool false) hA 27 rfl rfl rfl rfl hP (hM.sub (.cons_cons _ (.cons_cons _ (.cons_cons _ (.cons _ (.cons_cons _ (.cons_cons _ (.cons _ (List.nil_sublist _))))))))) (fun w1 hM => does_pick rfl rfl rfl rfl) ?_
                 intro a hA
                 refine any_end (by kernel_rfl) ?_
                 refine hK418 _ _ ?_
                 refine wp_cond_false (hA.ev rfl) ?_
                 refine wp_skip ?_
                 refine hK417 _ _ ?_
                 refine wp_seq_k (fun K435 hK435 => ?_)
                 replace hA := hA.keep [(1, .slice sS os.length cS), (5, .pointer (some ⟨ga, 0, none⟩)), (6, .pointer (some ⟨gb, 0, none⟩)), (7, .int .i64 (((i : Nat) : Int))), (8, .pointer (some ⟨g30, 0, none⟩)), (9, .pointer (some ⟨g53, 0, none⟩)), (10, .pointer (some ⟨g61, 0, none⟩)), (11, .pointer (some ⟨g63, 0, none⟩)), (12, .slice none 0 0), (13, .slice none 0 0), (14, .int .i64 0), (15, .int .i64 0), (35, .int .i64 kd)] ⟨rfl, rfl, rfl, rfl, rfl, rfl, rfl, rfl, rfl, rfl, rfl, rfl, rfl, trivial⟩
                 refine wp_region_lit ?_
                 refine seq_do hA rfl rfl rfl (does_move rfl) ?_
                 intro a hA
                 refine seq_do (v := .bool true) hA rfl rfl rfl (does_bin rfl rfl (fun w => by kernel_rfl)) ?_
                 intro a hA
                 refine seq_do hA rfl rfl rfl (does_move rfl) ?_
                 intro a hA
                 refine seq_do (v := .pointer (some ⟨g30, 0, none⟩)) hA rfl rfl rfl (does_field Wn_fld_41_0 rfl rfl) ?_
                 intro a hA
                 refine seq_do hA rfl rfl rfl (m_load1 hM Wn_is1_3 rfl 3 rfl rfl) ?_
                 intro a hA
                 rcases Bool.eq_false_or_eq_true (decide (1 ≤ kd)) with hb436 | hb436
                 · have hb436' := of_decide_eq_true hb436
                   refine seq_do (v := .bool true) hA rfl rfl rfl (does_bin rfl rfl (fun w => (bin_geq w).trans (by rw [hb436]))) ?_
                   intro a hA
                   refine seq_do (v := .bool true) hA rfl rfl rfl (does_pick rfl rfl rfl rfl) ?_
                   intro a hA
                   refine seq_do hA rfl rfl rfl (does_move rfl) ?_
                   intro a hA
                   refine seq_do (v := .pointer (some ⟨g30, 0, none⟩)) hA rfl rfl rfl (does_field Wn_fld_41_0 rfl rfl) ?_
                   intro a hA
                   refine seq_do hA rfl rfl rfl (m_load1 hM Wn_is1_3 rfl 3 rfl rfl) ?_
                   intro a hA
                   refine seq_do (v := .bool false) hA rfl rfl rfl (does_bin rfl rfl (fun w => (bin_leq w).trans (by rw [show (decide (kd ≤ 5)) = false from decide_eq_false (by omega)]))) ?_
                   intro a hA
                   refine seq_do (v := .bool false) hA rfl rfl rfl (does_pick rfl rfl rfl rfl) ?_
                   intro a hA
                   refine seq_end ?_
                   refine hK435 _ _ ?_
                   refine wp_cond_false (hA.ev rfl) ?_
                   refine wp_skip ?_
                   refine hK19 _ _ ?_
                   replace hA := hA.keep [(1, .slice sS os.length cS), (5, .pointer (some ⟨ga, 0, none⟩)), (6, .pointer (some ⟨gb, 0, none⟩)), (7, .int .i64 (((i : Nat) : Int))), (8, .pointer (some ⟨g30, 0, none⟩)), (9, .pointer (some ⟨g53, 0, none⟩)), (10, .pointer (some ⟨g61, 0, none⟩)), (11, .pointer (some ⟨g63, 0, none⟩)), (12, .slice none 0 0), (13, .slice none 0 0), (14, .int .i64 0), (15, .int .i64 0), (35, .int .i64 kd)] ⟨rfl, rfl, rfl, rfl, rfl, rfl, rfl, rfl, rfl, rfl, rfl, rfl, rfl, trivial⟩
                   refine wp_region_lit ?_
                   refine seq_do hA rfl rfl rfl (does_move rfl) ?_
                   intro a hA
                   refine seq_do (v := .int .i64 (((i + 1 : Nat) : Int))) hA rfl rfl rfl (does_bin rfl rfl (ar_add ((in_i64 (by omega) (by omega)).trans (by omega)))) ?_
                   intro a hA
                   refine seq_do hA rfl rfl rfl (does_assign rfl) ?_
                   intro a hA
                   refine seq_end ?_
                   replace hM : Mg w w434 (.obj ga (.cells #[.slice sU1 fx.length cU1, .slice sU2 ix.length cU2, .slice sU3 ox.length cU3] 37) :: .obj gb (.cells #[.slice sV1 fx.length cV1, .slice sV2 ix.length cV2, .slice sV3 ox.length cV3] 37) :: .obj g2 (.cells #[.slice sF fs.length cF_, .slice sI il.length cI, .slice sO ol.length cO] 37) :: D58) := by
                     have h9 := hM.sub (.cons _ (.cons _ (.cons _ (.cons _ (.cons_cons _ (.cons_cons _ (.cons_cons _ (.refl _))))))))
                     exact h9
                   refine hK14 _ _ _ (by omega) ⟨i + 1, fx, ix, ox, sU1, cU1, sU2, cU2, sU3, cU3, sV1, cV1, sV2, cV2, sV3, cV3, D58, rfl, ⟨hRu, hRv, hnD58, hBx, by omega⟩, hA.keep _ ⟨rfl, rfl, rfl, rfl, trivial⟩, hM⟩
                 · have hb436' := of_decide_eq_false hb436
                   refine seq_do (v := .bool false) hA rfl rfl rfl (does_bin rfl rfl (fun w => (bin_geq w).trans (by rw [hb436]))) ?_
                   intro a hA
                   refine seq_do (v := .bool false) hA rfl rfl rfl (does_pick rfl rfl rfl rfl) ?_
                   intro a hA
                   refine seq_do hA rfl rfl rfl (does_move rfl) ?_
                   intro a hA
                   refine seq_skip hA rfl rfl rfl ?_
                   intro a hA
                   refine seq_skip hA rfl rfl rfl ?_
                   intro a hA
                   refine seq_skip hA rfl rfl rfl ?_
                   intro a hA
                   refine seq_do (v := .bool false) hA rfl rfl rfl (does_pick rfl rfl rfl rfl) ?_
                   intro a hA
                   refine seq_end ?_
                   refine hK435 _ _ ?_
                   refine wp_cond_false (hA.ev rfl) ?_
                   refine wp_skip ?_
                   refine hK19 _ _ ?_
                   replace hA := hA.keep [(1, .slice sS os.length cS), (5, .pointer (some ⟨ga, 0, none⟩)), (6, .pointer (some ⟨gb, 0, none⟩)), (7, .int .i64 (((i : Nat) : Int))), (8, .pointer (some ⟨g30, 0, none⟩)), (9, .pointer (some ⟨g53, 0, none⟩)), (10, .pointer (some ⟨g61, 0, none⟩)), (11, .pointer (some ⟨g63, 0, none⟩)), (12, .slice none 0 0), (13, .slice none 0 0), (14, .int .i64 0), (15, .int .i64 0), (35, .int .i64 kd)] ⟨rfl, rfl, rfl, rfl, rfl, rfl, rfl, rfl, rfl, rfl, rfl, rfl, rfl, trivial⟩
                   refine wp_region_lit ?_
                   refine seq_do hA rfl rfl rfl (does_move rfl) ?_
                   intro a hA
                   refine seq_do (v := .int .i64 (((i + 1 : Nat) : Int))) hA rfl rfl rfl (does_bin rfl rfl (ar_add ((in_i64 (by omega) (by omega)).trans (by omega)))) ?_
                   intro a hA
                   refine seq_do hA rfl rfl rfl (does_assign rfl) ?_
                   intro a hA
                   refine seq_end ?_
                   replace hM : Mg w w434 (.obj ga (.cells #[.slice sU1 fx.length cU1, .slice sU2 ix.length cU2, .slice sU3 ox.length cU3] 37) :: .obj gb (.cells #[.slice sV1 fx.length cV1, .slice sV2 ix.length cV2, .slice sV3 ox.length cV3] 37) :: .obj g2 (.cells #[.slice sF fs.length cF_, .slice sI il.length cI, .slice sO ol.length cO] 37) :: D58) := by
                     have h9 := hM.sub (.cons _ (.cons _ (.cons _ (.cons _ (.cons_cons _ (.cons_cons _ (.cons_cons _ (.refl _))))))))
                     exact h9
                   refine hK14 _ _ _ (by omega) ⟨i + 1, fx, ix, ox, sU1, cU1, sU2, cU2, sU3, cU3, sV1, cV1, sV2, cV2, sV3, cV3, D58, rfl, ⟨hRu, hRv, hnD58, hBx, by omega⟩, hA.keep _ ⟨rfl, rfl, rfl, rfl, trivial⟩, hM⟩
   · have hb18' := of_decide_eq_false hb18
     refine seq_do (v := .bool false) hA rfl rfl rfl (does_bin rfl rfl (fun w => (bin_lss w).trans (by rw [hb18]))) ?_
     intro a hA
     refine seq_end ?_
     refine hK17 _ _ ?_
     refine wp_cond_false (hA.ev rfl) ?_
     refine wp_exit ?_
     refine hK11 _ _ ?_
     refine wp_seq_k (fun K437 hK437 => ?_)
     replace hA := hA.keep [(1, .slice sS os.length cS), (5, .pointer (some ⟨ga, 0, none⟩)), (6, .pointer (some ⟨gb, 0, none⟩)), (7, .int .i64 (((i : Nat) : Int)))] ⟨rfl, rfl, rfl, rfl, trivial⟩
     refine wp_region_lit ?_
     refine seq_do hA rfl rfl rfl (does_assign rfl) ?_
     intro a hA
     refine seq_end ?_
     refine hK437 _ _ ?_
     refine wp_ret ?_
     refine hret _ _ ?_
     refine ends (v := .bool true) hA rfl (.cons (res_tmp rfl) .nil) rfl ?_
     exact ⟨rfl, hM.bel⟩
 refine wp_draw (S := fun w1 => Mg w w1 (.obj g2 (.cells #[.slice sF fs.length cF_, .slice sI il.length cI, .slice sO ol.length cO] 37) :: [])) (by kernel_rfl) ?_
 replace hM := hM.drew
 refine any_tk hA 0 rfl rfl rfl rfl hP (hM.sub (.cons_cons _ (List.nil_sublist _))) (fun w1 hM => m_loadS hM Wn_isS_37 rfl 0 rfl (cs := [.slice sF fs.length cF_, .slice sI il.length cI, .slice sO ol.length cO]) rfl rfl) ?_
 intro a hA
 refine any_tk hA 2 rfl rfl rfl rfl hP (hM.sub (.cons_cons _ (List.nil_sublist _))) (fun w1 hM => m_loadS hM Wn_isS_37 rfl 0 rfl (cs := [.slice sF fs.length cF_, .slice sI il.length cI, .slice sO ol.length cO]) rfl rfl) ?_
 intro a hA
 refine any_many (rs := [1, 4, 5]) (by kernel_rfl) (by simp) ⟨?_, ?_, ?_, trivial⟩
 · refine op_call hA 1 rfl rfl rfl rfl (enters_func rfl rfl (fun w => by kernel_rfl)) (rcopy_any (cF_ := cF_) (cI := cI) (cO := cO) (fs := fs) (il := il) (ol := ol) (hF.below hM.bel) (hI.below hM.bel) (hO.below hM.bel) hBd) ?_
   rintro _ w455 ⟨vF438, vI439, vO440, rfl, hO441⟩
   obtain ⟨hM442L, hM442, hnL443, hR444⟩ := OwnW.rwd hO441
   obtain ⟨sF449, cF450, sI451, cI452, sO453, cO454, hV9, _⟩ := RwD.open_ hM442 hR444
   simp only [Value.agg.injEq, Array.mk.injEq, List.cons.injEq, and_true] at hV9
   obtain ⟨rfl, rfl, rfl⟩ := hV9
   obtain ⟨D446, hg445, hnD446, hs447, hs448⟩ := grow [_] (D := []) hM hM442 (noBld_cons (by simp) (noBld_quiet quietL_nil)) hnL443
   replace hR444 := hR444.mono hs448
   replace hM : Mg w w455 (.obj g2 (.cells #[.slice sF fs.length cF_, .slice sI il.length cI, .slice sO ol.length cO] 37) :: D446) := hg445
   refine ⟨_, rfl, (hM.sub (.cons_cons _ (List.nil_sublist _))), ?_⟩
   intro a hA
   refine any_many (rs := [3, 4, 5]) (by kernel_rfl) (by simp) ⟨?_, ?_, ?_, trivial⟩
   · refine op_call hA 3 rfl rfl rfl rfl (enters_func rfl rfl (fun w => by kernel_rfl)) (rcopy_any (cF_ := cF_) (cI := cI) (cO := cO) (fs := fs) (il := il) (ol := ol) (hF.below hM.bel) (hI.below hM.bel) (hO.below hM.bel) hBd) ?_
     rintro _ w473 ⟨vF456, vI457, vO458, rfl, hO459⟩
     obtain ⟨hM460L, hM460, hnL461, hR462⟩ := OwnW.rwd hO459
     obtain ⟨sF467, cF468, sI469, cI470, sO471, cO472, hV9, _⟩ := RwD.open_ hM460 hR462
     simp only [Value.agg.injEq, Array.mk.injEq, List.cons.injEq, and_true] at hV9
     obtain ⟨rfl, rfl, rfl⟩ := hV9
     obtain ⟨D464, hg463, hnD464, hs465, hs466⟩ := grow [_] (D := D446) hM hM460 (noBld_cons (by simp) hnD446) hnL461
     replace hR444 := hR444.mono hs465
     replace hR462 := hR462.mono hs466
     replace hM : Mg w w473 (.obj g2 (.cells #[.slice sF fs.length cF_, .slice sI il.length cI, .slice sO ol.length cO] 37) :: D464) := hg463
     refine ⟨_, rfl, (hM.sub (.cons_cons _ (List.nil_sublist _))), ?_⟩
     intro a hA
     refine any_many (rs := [4, 5]) (by kernel_rfl) (by simp) ⟨?_, ?_, trivial⟩
     · refine g_new (vs := [.slice none 0 0, .slice none 0 0, .slice none 0 0]) (t := 37) hA hM 4 rfl rfl rfl rfl (fun g => .pointer (some ⟨g, 0, none⟩)) (does_alloc (z := .agg #[.slice none 0 0, .slice none 0 0, .slice none 0 0]) (by kernel_rfl) rfl) (by decide) ?_
       intro g474 w475 hM
       refine ⟨(hM.sub (.cons _ (.cons_cons _ (List.nil_sublist _)))), ?_⟩
       intro a hA
       refine any_one (by kernel_rfl) (g_new (vs := [.slice none 0 0, .slice none 0 0, .slice none 0 0]) (t := 37) hA hM 5 rfl rfl rfl rfl (fun g => .pointer (some ⟨g, 0, none⟩)) (does_alloc (z := .agg #[.slice none 0 0, .slice none 0 0, .slice none 0 0]) (by kernel_rfl) rfl) (by decide) ?_)
       intro g476 w477 hM
       refine ⟨(hM.sub (.cons _ (.cons _ (.cons_cons _ (List.nil_sublist _))))), ?_⟩
       intro a hA
       refine any_one (by kernel_rfl) (g_store (us := [.slice sF449 fs.length cF450, .slice sI451 il.length cI452, .slice sO453 ol.length cO454]) (L' := (.obj g476 (.cells #[.slice none 0 0, .slice none 0 0, .slice none 0 0] 37) :: .obj g474 (.cells #[.slice sF449 fs.length cF450, .slice sI451 il.length cI452, .slice sO453 ol.length cO454] 37) :: .obj g2 (.cells #[.slice sF fs.length cF_, .slice sI il.length cI, .slice sO ol.length cO] 37) :: D464)) hA hM 6 rfl rfl rfl (m_store rfl rfl rfl (by kernel_rfl) hM 1 rfl rfl rfl) 1 rfl rfl rfl ?_)
       intro w478 hM
       refine ⟨(hM.sub (.cons _ (.cons _ (.cons_cons _ (List.nil_sublist _))))), ?_⟩
       refine any_one (by kernel_rfl) (g_store (us := [.slice sF467 fs.length cF468, .slice sI469 il.length cI470, .slice sO471 ol.length cO472]) (L' := (.obj g476 (.cells #[.slice sF467 fs.length cF468, .slice sI469 il.length cI470, .slice sO471 ol.length cO472] 37) :: .obj g474 (.cells #[.slice sF449 fs.length cF450, .slice sI451 il.length cI452, .slice sO453 ol.length cO454] 37) :: .obj g2 (.cells #[.slice sF fs.length cF_, .slice sI il.length cI, .slice sO ol.length cO] 37) :: D464)) hA hM 7 rfl rfl rfl (m_store rfl rfl rfl (by kernel_rfl) hM 0 rfl rfl rfl) 0 rfl rfl rfl ?_)
       intro w479 hM
       refine ⟨(hM.sub (.cons _ (.cons _ (.cons_cons _ (List.nil_sublist _))))), ?_⟩
       refine any_end (by kernel_rfl) ?_
       replace hM := hM.perm (List.Perm.swap _ _ _)
       exact hJ9 _ _ ⟨g474, g476, sF449, cF450, sI451, cI452, sO453, cO454, sF467, cF468, sI469, cI470, sO471, cO472, D464, hR444, hR462, hnD464, hA.keep _ ⟨rfl, rfl, rfl, rfl, trivial⟩, hM⟩
     · refine g_new (vs := [.slice none 0 0, .slice none 0 0, .slice none 0 0]) (t := 37) hA hM 5 rfl rfl rfl rfl (fun g => .pointer (some ⟨g, 0, none⟩)) (does_alloc (z := .agg #[.slice none 0 0, .slice none 0 0, .slice none 0 0]) (by kernel_rfl) rfl) (by decide) ?_
       intro g480 w481 hM
       refine ⟨(hM.sub (.cons _ (.cons_cons _ (List.nil_sublist _)))), ?_⟩
       intro a hA
       refine any_one (by kernel_rfl) (g_new (vs := [.slice none 0 0, .slice none 0 0, .slice none 0 0]) (t := 37) hA hM 4 rfl rfl rfl rfl (fun g => .pointer (some ⟨g, 0, none⟩)) (does_alloc (z := .agg #[.slice none 0 0, .slice none 0 0, .slice none 0 0]) (by kernel_rfl) rfl) (by decide) ?_)
       intro g482 w483 hM
       refine ⟨(hM.sub (.cons _ (.cons _ (.cons_cons _ (List.nil_sublist _))))), ?_⟩
       intro a hA
       refine any_one (by kernel_rfl) (g_store (us := [.slice sF449 fs.length cF450, .slice sI451 il.length cI452, .slice sO453 ol.length cO454]) (L' := (.obj g482 (.cells #[.slice sF449 fs.length cF450, .slice sI451 il.length cI452, .slice sO453 ol.length cO454] 37) :: .obj g480 (.cells #[.slice none 0 0, .slice none 0 0, .slice none 0 0] 37) :: .obj g2 (.cells #[.slice sF fs.length cF_, .slice sI il.length cI, .slice sO ol.length cO] 37) :: D464)) hA hM 6 rfl rfl rfl (m_store rfl rfl rfl (by kernel_rfl) hM 0 rfl rfl rfl) 0 rfl rfl rfl ?_)
       intro w484 hM
       refine ⟨(hM.sub (.cons _ (.cons _ (.cons_cons _ (List.nil_sublist _))))), ?_⟩
       refine any_one (by kernel_rfl) (g_store (us := [.slice sF467 fs.length cF468, .slice sI469 il.length cI470, .slice sO471 ol.length cO472]) (L' := (.obj g482 (.cells #[.slice sF449 fs.length cF450, .slice sI451 il.length cI452, .slice sO453 ol.length cO454] 37) :: .obj g480 (.cells #[.slice sF467 fs.length cF468, .slice sI469 il.length cI470, .slice sO471 ol.length cO472] 37) :: .obj g2 (.cells #[.slice sF fs.length cF_, .slice sI il.length cI, .slice sO ol.length cO] 37) :: D464)) hA hM 7 rfl rfl rfl (m_store rfl rfl rfl (by kernel_rfl) hM 1 rfl rfl rfl) 1 rfl rfl rfl ?_)
       intro w485 hM
       refine ⟨(hM.sub (.cons _ (.cons _ (.cons_cons _ (List.nil_sublist _))))), ?_⟩
       refine any_end (by kernel_rfl) ?_
       exact hJ9 _ _ ⟨g482, g480, sF449, cF450, sI451, cI452, sO453, cO454, sF467, cF468, sI469, cI470, sO471, cO472, D464, hR444, hR462, hnD464, hA.keep _ ⟨rfl, rfl, rfl, rfl, trivial⟩, hM⟩
   · refine g_new (vs := [.slice none 0 0, .slice none 0 0, .slice none 0 0]) (t := 37) hA hM 4 rfl rfl rfl rfl (fun g => .pointer (some ⟨g, 0, none⟩)) (does_alloc (z := .agg #[.slice none 0 0, .slice none 0 0, .slice none 0 0]) (by kernel_rfl) rfl) (by decide) ?_
     intro g486 w487 hM
     refine ⟨(hM.sub (.cons _ (.cons_cons _ (List.nil_sublist _)))), ?_⟩
     intro a hA
     refine any_many (rs := [3, 5]) (by kernel_rfl) (by simp) ⟨?_, ?_, trivial⟩
     · refine op_call hA 3 rfl rfl rfl rfl (enters_func rfl rfl (fun w => by kernel_rfl)) (rcopy_any (cF_ := cF_) (cI := cI) (cO := cO) (fs := fs) (il := il) (ol := ol) (hF.below hM.bel) (hI.below hM.bel) (hO.below hM.bel) hBd) ?_
       rintro _ w505 ⟨vF488, vI489, vO490, rfl, hO491⟩
       obtain ⟨hM492L, hM492, hnL493, hR494⟩ := OwnW.rwd hO491
       obtain ⟨sF499, cF500, sI501, cI502, sO503, cO504, hV9, _⟩ := RwD.open_ hM492 hR494
       simp only [Value.agg.injEq, Array.mk.injEq, List.cons.injEq, and_true] at hV9
       obtain ⟨rfl, rfl, rfl⟩ := hV9
       obtain ⟨D496, hg495, hnD496, hs497, hs498⟩ := grow [_, _] (D := D446) hM hM492 (noBld_cons (by simp) (noBld_cons (by simp) hnD446)) hnL493
       replace hR444 := hR444.mono hs497
       replace hR494 := hR494.mono hs498
       replace hM : Mg w w505 (.obj g486 (.cells #[.slice none 0 0, .slice none 0 0, .slice none 0 0] 37) :: .obj g2 (.cells #[.slice sF fs.length cF_, .slice sI il.length cI, .slice sO ol.length cO] 37) :: D496) := hg495
       refine ⟨_, rfl, (hM.sub (.cons _ (.cons_cons _ (List.nil_sublist _)))), ?_⟩
       intro a hA
       refine any_one (by kernel_rfl) (g_new (vs := [.slice none 0 0, .slice none 0 0, .slice none 0 0]) (t := 37) hA hM 5 rfl rfl rfl rfl (fun g => .pointer (some ⟨g, 0, none⟩)) (does_alloc (z := .agg #[.slice none 0 0, .slice none 0 0, .slice none 0 0]) (by kernel_rfl) rfl) (by decide) ?_)
       intro g506 w507 hM
       refine ⟨(hM.sub (.cons _ (.cons _ (.cons_cons _ (List.nil_sublist _))))), ?_⟩
       intro a hA
       refine any_one (by kernel_rfl) (g_store (us := [.slice sF449 fs.length cF450, .slice sI451 il.length cI452, .slice sO453 ol.length cO454]) (L' := (.obj g506 (.cells #[.slice none 0 0, .slice none 0 0, .slice none 0 0] 37) :: .obj g486 (.cells #[.slice sF449 fs.length cF450, .slice sI451 il.length cI452, .slice sO453 ol.length cO454] 37) :: .obj g2 (.cells #[.slice sF fs.length cF_, .slice sI il.length cI, .slice sO ol.length cO] 37) :: D496)) hA hM 6 rfl rfl rfl (m_store rfl rfl rfl (by kernel_rfl) hM 1 rfl rfl rfl) 1 rfl rfl rfl ?_)
       intro w508 hM
       refine ⟨(hM.sub (.cons _ (.cons _ (.cons_cons _ (List.nil_sublist _))))), ?_⟩
       refine any_one (by kernel_rfl) (g_store (us := [.slice sF499 fs.length cF500, .slice sI501 il.length cI502, .slice sO503 ol.length cO504]) (L' := (.obj g506 (.cells #[.slice sF499 fs.length cF500, .slice sI501 il.length cI502, .slice sO503 ol.length cO504] 37) :: .obj g486 (.cells #[.slice sF449 fs.length cF450, .slice sI451 il.length cI452, .slice sO453 ol.length cO454] 37) :: .obj g2 (.cells #[.slice sF fs.length cF_, .slice sI il.length cI, .slice sO ol.length cO] 37) :: D496)) hA hM 7 rfl rfl rfl (m_store rfl rfl rfl (by kernel_rfl) hM 0 rfl rfl rfl) 0 rfl rfl rfl ?_)
       intro w509 hM
       refine ⟨(hM.sub (.cons _ (.cons _ (.cons_cons _ (List.nil_sublist _))))), ?_⟩
       refine any_end (by kernel_rfl) ?_
       replace hM := hM.perm (List.Perm.swap _ _ _)
       exact hJ9 _ _ ⟨g486, g506, sF449, cF450, sI451, cI452, sO453, cO454, sF499, cF500, sI501, cI502, sO503, cO504, D496, hR444, hR494, hnD496, hA.keep _ ⟨rfl, rfl, rfl, rfl, trivial⟩, hM⟩
     · refine g_new (vs := [.slice none 0 0, .slice none 0 0, .slice none 0 0]) (t := 37) hA hM 5 rfl rfl rfl rfl (fun g => .pointer (some ⟨g, 0, none⟩)) (does_alloc (z := .agg #[.slice none 0 0, .slice none 0 0, .slice none 0 0]) (by kernel_rfl) rfl) (by decide) ?_
       intro g510 w511 hM
       refine ⟨(hM.sub (.cons _ (.cons _ (.cons_cons _ (List.nil_sublist _))))), ?_⟩
       intro a hA
       refine any_one (by kernel_rfl) (op_call hA 3 rfl rfl rfl rfl (enters_func rfl rfl (fun w => by kernel_rfl)) (rcopy_any (cF_ := cF_) (cI := cI) (cO := cO) (fs := fs) (il := il) (ol := ol) (hF.below hM.bel) (hI.below hM.bel) (hO.below hM.bel) hBd) ?_)
       rintro _ w529 ⟨vF512, vI513, vO514, rfl, hO515⟩
       obtain ⟨hM516L, hM516, hnL517, hR518⟩ := OwnW.rwd hO515
       obtain ⟨sF523, cF524, sI525, cI526, sO527, cO528, hV9, _⟩ := RwD.open_ hM516 hR518
       simp only [Value.agg.injEq, Array.mk.injEq, List.cons.injEq, and_true] at hV9
       obtain ⟨rfl, rfl, rfl⟩ := hV9
       obtain ⟨D520, hg519, hnD520, hs521, hs522⟩ := grow [_, _, _] (D := D446) hM hM516 (noBld_cons (by simp) (noBld_cons (by simp) (noBld_cons (by simp) hnD446))) hnL517
       replace hR444 := hR444.mono hs521
       replace hR518 := hR518.mono hs522
       replace hM : Mg w w529 (.obj g510 (.cells #[.slice none 0 0, .slice none 0 0, .slice none 0 0] 37) :: .obj g486 (.cells #[.slice none 0 0, .slice none 0 0, .slice none 0 0] 37) :: .obj g2 (.cells #[.slice sF fs.length cF_, .slice sI il.length cI, .slice sO ol.length cO] 37) :: D520) := hg519
       refine ⟨_, rfl, (hM.sub (.cons _ (.cons _ (.cons_cons _ (List.nil_sublist _))))), ?_⟩
       intro a hA
       refine any_one (by kernel_rfl) (g_store (us := [.slice sF449 fs.length cF450, .slice sI451 il.length cI452, .slice sO453 ol.length cO454]) (L' := (.obj g510 (.cells #[.slice none 0 0, .slice none 0 0, .slice none 0 0] 37) :: .obj g486 (.cells #[.slice sF449 fs.length cF450, .slice sI451 il.length cI452, .slice sO453 ol.length cO454] 37) :: .obj g2 (.cells #[.slice sF fs.length cF_, .slice sI il.length cI, .slice sO ol.length cO] 37) :: D520)) hA hM 6 rfl rfl rfl (m_store rfl rfl rfl (by kernel_rfl) hM 1 rfl rfl rfl) 1 rfl rfl rfl ?_)
       intro w530 hM
       refine ⟨(hM.sub (.cons _ (.cons _ (.cons_cons _ (List.nil_sublist _))))), ?_⟩
       refine any_one (by kernel_rfl) (g_store (us := [.slice sF523 fs.length cF524, .slice sI525 il.length cI526, .slice sO527 ol.length cO528]) (L' := (.obj g510 (.cells #[.slice sF523 fs.length cF524, .slice sI525 il.length cI526, .slice sO527 ol.length cO528] 37) :: .obj g486 (.cells #[.slice sF449 fs.length cF450, .slice sI451 il.length cI452, .slice sO453 ol.length cO454] 37) :: .obj g2 (.cells #[.slice sF fs.length cF_, .slice sI il.length cI, .slice sO ol.length cO] 37) :: D520)) hA hM 7 rfl rfl rfl (m_store rfl rfl rfl (by kernel_rfl) hM 0 rfl rfl rfl) 0 rfl rfl rfl ?_)
       intro w531 hM
       refine ⟨(hM.sub (.cons _ (.cons _ (.cons_cons _ (List.nil_sublist _))))), ?_⟩
       refine any_end (by kernel_rfl) ?_
       replace hM := hM.perm (List.Perm.swap _ _ _)
       exact hJ9 _ _ ⟨g486, g510, sF449, cF450, sI451, cI452, sO453, cO454, sF523, cF524, sI525, cI526, sO527, cO528, D520, hR444, hR518, hnD520, hA.keep _ ⟨rfl, rfl, rfl, rfl, trivial⟩, hM⟩
   · refine g_new (vs := [.slice none 0 0, .slice none 0 0, .slice none 0 0]) (t := 37) hA hM 5 rfl rfl rfl rfl (fun g => .pointer (some ⟨g, 0, none⟩)) (does_alloc (z := .agg #[.slice none 0 0, .slice none 0 0, .slice none 0 0]) (by kernel_rfl) rfl) (by decide) ?_
     intro g532 w533 hM
     refine ⟨(hM.sub (.cons _ (.cons_cons _ (List.nil_sublist _)))), ?_⟩
     intro a hA
     refine any_many (rs := [3, 4]) (by kernel_rfl) (by simp) ⟨?_, ?_, trivial⟩
     · refine op_call hA 3 rfl rfl rfl rfl (enters_func rfl rfl (fun w => by kernel_rfl)) (rcopy_any (cF_ := cF_) (cI := cI) (cO := cO) (fs := fs) (il := il) (ol := ol) (hF.below hM.bel) (hI.below hM.bel) (hO.below hM.bel) hBd) ?_
       rintro _ w551 ⟨vF534, vI535, vO536, rfl, hO537⟩
       obtain ⟨hM538L, hM538, hnL539, hR540⟩ := OwnW.rwd hO537
       obtain ⟨sF545, cF546, sI547, cI548, sO549, cO550, hV9, _⟩ := RwD.open_ hM538 hR540
       simp only [Value.agg.injEq, Array.mk.injEq, List.cons.injEq, and_true] at hV9
       obtain ⟨rfl, rfl, rfl⟩ := hV9
       obtain ⟨D542, hg541, hnD542, hs543, hs544⟩ := grow [_, _] (D := D446) hM hM538 (noBld_cons (by simp) (noBld_cons (by simp) hnD446)) hnL539
       replace hR444 := hR444.mono hs543
       replace hR540 := hR540.mono hs544
       replace hM : Mg w w551 (.obj g532 (.cells #[.slice none 0 0, .slice none 0 0, .slice none 0 0] 37) :: .obj g2 (.cells #[.slice sF fs.length cF_, .slice sI il.length cI, .slice sO ol.length cO] 37) :: D542) := hg541
       refine ⟨_, rfl, (hM.sub (.cons _ (.cons_cons _ (List.nil_sublist _)))), ?_⟩
       intro a hA
       refine any_one (by kernel_rfl) (g_new (vs := [.slice none 0 0, .slice none 0 0, .slice none 0 0]) (t := 37) hA hM 4 rfl rfl rfl rfl (fun g => .pointer (some ⟨g, 0, none⟩)) (does_alloc (z := .agg #[.slice none 0 0, .slice none 0 0, .slice none 0 0]) (by kernel_rfl) rfl) (by decide) ?_)
       intro g552 w553 hM
       refine ⟨(hM.sub (.cons _ (.cons _ (.cons_cons _ (List.nil_sublist _))))), ?_⟩
       intro a hA
       refine any_one (by kernel_rfl) (g_store (us := [.slice sF449 fs.length cF450, .slice sI451 il.length cI452, .slice sO453 ol.length cO454]) (L' := (.obj g552 (.cells #[.slice sF449 fs.length cF450, .slice sI451 il.length cI452, .slice sO453 ol.length cO454] 37) :: .obj g532 (.cells #[.slice none 0 0, .slice none 0 0, .slice none 0 0] 37) :: .obj g2 (.cells #[.slice sF fs.length cF_, .slice sI il.length cI, .slice sO ol.length cO] 37) :: D542)) hA hM 6 rfl rfl rfl (m_store rfl rfl rfl (by kernel_rfl) hM 0 rfl rfl rfl) 0 rfl rfl rfl ?_)
       intro w554 hM
       refine ⟨(hM.sub (.cons _ (.cons _ (.cons_cons _ (List.nil_sublist _))))), ?_⟩
       refine any_one (by kernel_rfl) (g_store (us := [.slice sF545 fs.length cF546, .slice sI547 il.length cI548, .slice sO549 ol.length cO550]) (L' := (.obj g552 (.cells #[.slice sF449 fs.length cF450, .slice sI451 il.length cI452, .slice sO453 ol.length cO454] 37) :: .obj g532 (.cells #[.slice sF545 fs.length cF546, .slice sI547 il.length cI548, .slice sO549 ol.length cO550] 37) :: .obj g2 (.cells #[.slice sF fs.length cF_, .slice sI il.length cI, .slice sO ol.length cO] 37) :: D542)) hA hM 7 rfl rfl rfl (m_store rfl rfl rfl (by kernel_rfl) hM 1 rfl rfl rfl) 1 rfl rfl rfl ?_)
       intro w555 hM
       refine ⟨(hM.sub (.cons _ (.cons _ (.cons_cons _ (List.nil_sublist _))))), ?_⟩
       refine any_end (by kernel_rfl) ?_
       exact hJ9 _ _ ⟨g552, g532, sF449, cF450, sI451, cI452, sO453, cO454, sF545, cF546, sI547, cI548, sO549, cO550, D542, hR444, hR540, hnD542, hA.keep _ ⟨rfl, rfl, rfl, rfl, trivial⟩, hM⟩
     · refine g_new (vs := [.slice none 0 0, .slice none 0 0, .slice none 0 0]) (t := 37) hA hM 4 rfl rfl rfl rfl (fun g => .pointer (some ⟨g, 0, none⟩)) (does_alloc (z := .agg #[.slice none 0 0, .slice none 0 0, .slice none 0 0]) (by kernel_rfl) rfl) (by decide) ?_
       intro g556 w557 hM
       refine ⟨(hM.sub (.cons _ (.cons _ (.cons_cons _ (List.nil_sublist _))))), ?_⟩
       intro a hA
       refine any_one (by kernel_rfl) (op_call hA 3 rfl rfl rfl rfl (enters_func rfl rfl (fun w => by kernel_rfl)) (rcopy_any (cF_ := cF_) (cI := cI) (cO := cO) (fs := fs) (il := il) (ol := ol) (hF.below hM.bel) (hI.below hM.bel) (hO.below hM.bel) hBd) ?_)
       rintro _ w575 ⟨vF558, vI559, vO560, rfl, hO561⟩
       obtain ⟨hM562L, hM562, hnL563, hR564⟩ := OwnW.rwd hO561
       obtain ⟨sF569, cF570, sI571, cI572, sO573, cO574, hV9, _⟩ := RwD.open_ hM562 hR564
       simp only [Value.agg.injEq, Array.mk.injEq, List.cons.injEq, and_true] at hV9
       obtain ⟨rfl, rfl, rfl⟩ := hV9
       obtain ⟨D566, hg565, hnD566, hs567, hs568⟩ := grow [_, _, _] (D := D446) hM hM562 (noBld_cons (by simp) (noBld_cons (by simp) (noBld_cons (by simp) hnD446))) hnL563
       replace hR444 := hR444.mono hs567
       replace hR564 := hR564.mono hs568
       replace hM : Mg w w575 (.obj g556 (.cells #[.slice none 0 0, .slice none 0 0, .slice none 0 0] 37) :: .obj g532 (.cells #[.slice none 0 0, .slice none 0 0, .slice none 0 0] 37) :: .obj g2 (.cells #[.slice sF fs.length cF_, .slice sI il.length cI, .slice sO ol.length cO] 37) :: D566) := hg565
       refine ⟨_, rfl, (hM.sub (.cons _ (.cons _ (.cons_cons _ (List.nil_sublist _))))), ?_⟩
       intro a hA
       refine any_one (by kernel_rfl) (g_store (us := [.slice sF449 fs.length cF450, .slice sI451 il.length cI452, .slice sO453 ol.length cO454]) (L' := (.obj g556 (.cells #[.slice sF449 fs.length cF450, .slice sI451 il.length cI452, .slice sO453 ol.length cO454] 37) :: .obj g532 (.cells #[.slice none 0 0, .slice none 0 0, .slice none 0 0] 37) :: .obj g2 (.cells #[.slice sF fs.length cF_, .slice sI il.length cI, .slice sO ol.length cO] 37) :: D566)) hA hM 6 rfl rfl rfl (m_store rfl rfl rfl (by kernel_rfl) hM 0 rfl rfl rfl) 0 rfl rfl rfl ?_)
       intro w576 hM
       refine ⟨(hM.sub (.cons _ (.cons _ (.cons_cons _ (List.nil_sublist _))))), ?_⟩
       refine any_one (by kernel_rfl) (g_store (us := [.slice sF569 fs.length cF570, .slice sI571 il.length cI572, .slice sO573 ol.length cO574]) (L' := (.obj g556 (.cells #[.slice sF449 fs.length cF450, .slice sI451 il.length cI452, .slice sO453 ol.length cO454] 37) :: .obj g532 (.cells #[.slice sF569 fs.length cF570, .slice sI571 il.length cI572, .slice sO573 ol.length cO574] 37) :: .obj g2 (.cells #[.slice sF fs.length cF_, .slice sI il.length cI, .slice sO ol.length cO] 37) :: D566)) hA hM 7 rfl rfl rfl (m_store rfl rfl rfl (by kernel_rfl) hM 1 rfl rfl rfl) 1 rfl rfl rfl ?_)
       intro w577 hM
       refine ⟨(hM.sub (.cons _ (.cons _ (.cons_cons _ (List.nil_sublist _))))), ?_⟩
       refine any_end (by kernel_rfl) ?_
       exact hJ9 _ _ ⟨g556, g532, sF449, cF450, sI451, cI452, sO453, cO454, sF569, cF570, sI571, cI572, sO573, cO574, D566, hR444, hR564, hnD566, hA.keep _ ⟨rfl, rfl, rfl, rfl, trivial⟩, hM⟩
 · refine g_new (vs := [.slice none 0 0, .slice none 0 0, .slice none 0 0]) (t := 37) hA hM 4 rfl rfl rfl rfl (fun g => .pointer (some ⟨g, 0, none⟩)) (does_alloc (z := .agg #[.slice none 0 0, .slice none 0 0, .slice none 0 0]) (by kernel_rfl) rfl) (by decide) ?_
   intro g578 w579 hM
   refine ⟨(hM.sub (.cons _ (.cons_cons _ (List.nil_sublist _)))), ?_⟩
   intro a hA
   refine any_many (rs := [1, 5]) (by kernel_rfl) (by simp) ⟨?_, ?_, trivial⟩
   · refine op_call hA 1 rfl rfl rfl rfl (enters_func rfl rfl (fun w => by kernel_rfl)) (rcopy_any (cF_ := cF_) (cI := cI) (cO := cO) (fs := fs) (il := il) (ol := ol) (hF.below hM.bel) (hI.below hM.bel) (hO.below hM.bel) hBd) ?_
     rintro _ w597 ⟨vF580, vI581, vO582, rfl, hO583⟩
     obtain ⟨hM584L, hM584, hnL585, hR586⟩ := OwnW.rwd hO583
     obtain ⟨sF591, cF592, sI593, cI594, sO595, cO596, hV9, _⟩ := RwD.open_ hM584 hR586
     simp only [Value.agg.injEq, Array.mk.injEq, List.cons.injEq, and_true] at hV9
     obtain ⟨rfl, rfl, rfl⟩ := hV9
     obtain ⟨D588, hg587, hnD588, hs589, hs590⟩ := grow [_, _] (D := []) hM hM584 (noBld_cons (by simp) (noBld_cons (by simp) (noBld_quiet quietL_nil))) hnL585
     replace hR586 := hR586.mono hs590
     replace hM : Mg w w597 (.obj g578 (.cells #[.slice none 0 0, .slice none 0 0, .slice none 0 0] 37) :: .obj g2 (.cells #[.slice sF fs.length cF_, .slice sI il.length cI, .slice sO ol.length cO] 37) :: D588) := hg587
     refine ⟨_, rfl, (hM.sub (.cons _ (.cons_cons _ (List.nil_sublist _)))), ?_⟩
     intro a hA
     refine any_many (rs := [3, 5]) (by kernel_rfl) (by simp) ⟨?_, ?_, trivial⟩
     · refine op_call hA 3 rfl rfl rfl rfl (enters_func rfl rfl (fun w => by kernel_rfl)) (rcopy_any (cF_ := cF_) (cI := cI) (cO := cO) (fs := fs) (il := il) (ol := ol) (hF.below hM.bel) (hI.below hM.bel) (hO.below hM.bel) hBd) ?_
       rintro _ w615 ⟨vF598, vI599, vO600, rfl, hO601⟩
       obtain ⟨hM602L, hM602, hnL603, hR604⟩ := OwnW.rwd hO601
       obtain ⟨sF609, cF610, sI611, cI612, sO613, cO614, hV9, _⟩ := RwD.open_ hM602 hR604
       simp only [Value.agg.injEq, Array.mk.injEq, List.cons.injEq, and_true] at hV9
       obtain ⟨rfl, rfl, rfl⟩ := hV9
       obtain ⟨D606, hg605, hnD606, hs607, hs608⟩ := grow [_, _] (D := D588) hM hM602 (noBld_cons (by simp) (noBld_cons (by simp) hnD588)) hnL603
       replace hR586 := hR586.mono hs607
       replace hR604 := hR604.mono hs608
       replace hM : Mg w w615 (.obj g578 (.cells #[.slice none 0 0, .slice none 0 0, .slice none 0 0] 37) :: .obj g2 (.cells #[.slice sF fs.length cF_, .slice sI il.length cI, .slice sO ol.length cO] 37) :: D606) := hg605
       refine ⟨_, rfl, (hM.sub (.cons _ (.cons_cons _ (List.nil_sublist _)))), ?_⟩
       intro a hA
       refine any_one (by kernel_rfl) (g_new (vs := [.slice none 0 0, .slice none 0 0, .slice none 0 0]) (t := 37) hA hM 5 rfl rfl rfl rfl (fun g => .pointer (some ⟨g, 0, none⟩)) (does_alloc (z := .agg #[.slice none 0 0, .slice none 0 0, .slice none 0 0]) (by kernel_rfl) rfl) (by decide) ?_)
       intro g616 w617 hM
       refine ⟨(hM.sub (.cons _ (.cons _ (.cons_cons _ (List.nil_sublist _))))), ?_⟩
       intro a hA
       refine any_one (by kernel_rfl) (g_store (us := [.slice sF591 fs.length cF592, .slice sI593 il.length cI594, .slice sO595 ol.length cO596]) (L' := (.obj g616 (.cells #[.slice none 0 0, .slice none 0 0, .slice none 0 0] 37) :: .obj g578 (.cells #[.slice sF591 fs.length cF592, .slice sI593 il.length cI594, .slice sO595 ol.length cO596] 37) :: .obj g2 (.cells #[.slice sF fs.length cF_, .slice sI il.length cI, .slice sO ol.length cO] 37) :: D606)) hA hM 6 rfl rfl rfl (m_store rfl rfl rfl (by kernel_rfl) hM 1 rfl rfl rfl) 1 rfl rfl rfl ?_)
       intro w618 hM
       refine ⟨(hM.sub (.cons _ (.cons _ (.cons_cons _ (List.nil_sublist _))))), ?_⟩
       refine any_one (by kernel_rfl) (g_store (us := [.slice sF609 fs.length cF610, .slice sI611 il.length cI612, .slice sO613 ol.length cO614]) (L' := (.obj g616 (.cells #[.slice sF609 fs.length cF610, .slice sI611 il.length cI612, .slice sO613 ol.length cO614] 37) :: .obj g578 (.cells #[.slice sF591 fs.length cF592, .slice sI593 il.length cI594, .slice sO595 ol.length cO596] 37) :: .obj g2 (.cells #[.slice sF fs.length cF_, .slice sI il.length cI, .slice sO ol.length cO] 37) :: D606)) hA hM 7 rfl rfl rfl (m_store rfl rfl rfl (by kernel_rfl) hM 0 rfl rfl rfl) 0 rfl rfl rfl ?_)
       intro w619 hM
       refine ⟨(hM.sub (.cons _ (.cons _ (.cons_cons _ (List.nil_sublist _))))), ?_⟩
       refine any_end (by kernel_rfl) ?_
       replace hM := hM.perm (List.Perm.swap _ _ _)
       exact hJ9 _ _ ⟨g578, g616, sF591, cF592, sI593, cI594, sO595, cO596, sF609, cF610, sI611, cI612, sO613, cO614, D606, hR586, hR604, hnD606, hA.keep _ ⟨rfl, rfl, rfl, rfl, trivial⟩, hM⟩
     · refine g_new (vs := [.slice none 0 0, .slice none 0 0, .slice none 0 0]) (t := 37) hA hM 5 rfl rfl rfl rfl (fun g => .pointer (some ⟨g, 0, none⟩)) (does_alloc (z := .agg #[.slice none 0 0, .slice none 0 0, .slice none 0 0]) (by kernel_rfl) rfl) (by decide) ?_
       intro g620 w621 hM
       refine ⟨(hM.sub (.cons _ (.cons _ (.cons_cons _ (List.nil_sublist _))))), ?_⟩
       intro a hA
       refine any_one (by kernel_rfl) (op_call hA 3 rfl rfl rfl rfl (enters_func rfl rfl (fun w => by kernel_rfl)) (rcopy_any (cF_ := cF_) (cI := cI) (cO := cO) (fs := fs) (il := il) (ol := ol) (hF.below hM.bel) (hI.below hM.bel) (hO.below hM.bel) hBd) ?_)
       rintro _ w639 ⟨vF622, vI623, vO624, rfl, hO625⟩
       obtain ⟨hM626L, hM626, hnL627, hR628⟩ := OwnW.rwd hO625
       obtain ⟨sF633, cF634, sI635, cI636, sO637, cO638, hV9, _⟩ := RwD.open_ hM626 hR628
       simp only [Value.agg.injEq, Array.mk.injEq, List.cons.injEq, and_true] at hV9
       obtain ⟨rfl, rfl, rfl⟩ := hV9
       obtain ⟨D630, hg629, hnD630, hs631, hs632⟩ := grow [_, _, _] (D := D588) hM hM626 (noBld_cons (by simp) (noBld_cons (by simp) (noBld_cons (by simp) hnD588))) hnL627
       replace hR586 := hR586.mono hs631
       replace hR628 := hR628.mono hs632
       replace hM : Mg w w639 (.obj g620 (.cells #[.slice none 0 0, .slice none 0 0, .slice none 0 0] 37) :: .obj g578 (.cells #[.slice none 0 0, .slice none 0 0, .slice none 0 0] 37) :: .obj g2 (.cells #[.slice sF fs.length cF_, .slice sI il.length cI, .slice sO ol.length cO] 37) :: D630) := hg629
       refine ⟨_, rfl, (hM.sub (.cons _ (.cons _ (.cons_cons _ (List.nil_sublist _))))), ?_⟩
       intro a hA
       refine any_one (by kernel_rfl) (g_store (us := [.slice sF591 fs.length cF592, .slice sI593 il.length cI594, .slice sO595 ol.length cO596]) (L' := (.obj g620 (.cells #[.slice none 0 0, .slice none 0 0, .slice none 0 0] 37) :: .obj g578 (.cells #[.slice sF591 fs.length cF592, .slice sI593 il.length cI594, .slice sO595 ol.length cO596] 37) :: .obj g2 (.cells #[.slice sF fs.length cF_, .slice sI il.length cI, .slice sO ol.length cO] 37) :: D630)) hA hM 6 rfl rfl rfl (m_store rfl rfl rfl (by kernel_rfl) hM 1 rfl rfl rfl) 1 rfl rfl rfl ?_)
       intro w640 hM
       refine ⟨(hM.sub (.cons _ (.cons _ (.cons_cons _ (List.nil_sublist _))))), ?_⟩
       refine any_one (by kernel_rfl) (g_store (us := [.slice sF633 fs.length cF634, .slice sI635 il.length cI636, .slice sO637 ol.length cO638]) (L' := (.obj g620 (.cells #[.slice sF633 fs.length cF634, .slice sI635 il.length cI636, .slice sO637 ol.length cO638] 37) :: .obj g578 (.cells #[.slice sF591 fs.length cF592, .slice sI593 il.length cI594, .slice sO595 ol.length cO596] 37) :: .obj g2 (.cells #[.slice sF fs.length cF_, .slice sI il.length cI, .slice sO ol.length cO] 37) :: D630)) hA hM 7 rfl rfl rfl (m_store rfl rfl rfl (by kernel_rfl) hM 0 rfl rfl rfl) 0 rfl rfl rfl ?_)
       intro w641 hM
       refine ⟨(hM.sub (.cons _ (.cons _ (.cons_cons _ (List.nil_sublist _))))), ?_⟩
       refine any_end (by kernel_rfl) ?_
       replace hM := hM.perm (List.Perm.swap _ _ _)
       exact hJ9 _ _ ⟨g578, g620, sF591, cF592, sI593, cI594, sO595, cO596, sF633, cF634, sI635, cI636, sO637, cO638, D630, hR586, hR628, hnD630, hA.keep _ ⟨rfl, rfl, rfl, rfl, trivial⟩, hM⟩
   · refine g_new (vs := [.slice none 0 0, .slice none 0 0, .slice none 0 0]) (t := 37) hA hM 5 rfl rfl rfl rfl (fun g => .pointer (some ⟨g, 0, none⟩)) (does_alloc (z := .agg #[.slice none 0 0, .slice none 0 0, .slice none 0 0]) (by kernel_rfl) rfl) (by decide) ?_
     intro g642 w643 hM
     refine ⟨(hM.sub (.cons _ (.cons _ (.cons_cons _ (List.nil_sublist _))))), ?_⟩
     intro a hA
     refine any_one (by kernel_rfl) (op_call hA 1 rfl rfl rfl rfl (enters_func rfl rfl (fun w => by kernel_rfl)) (rcopy_any (cF_ := cF_) (cI := cI) (cO := cO) (fs := fs) (il := il) (ol := ol) (hF.below hM.bel) (hI.below hM.bel) (hO.below hM.bel) hBd) ?_)
     rintro _ w661 ⟨vF644, vI645, vO646, rfl, hO647⟩
     obtain ⟨hM648L, hM648, hnL649, hR650⟩ := OwnW.rwd hO647
     obtain ⟨sF655, cF656, sI657, cI658, sO659, cO660, hV9, _⟩ := RwD.open_ hM648 hR650
     simp only [Value.agg.injEq, Array.mk.injEq, List.cons.injEq, and_true] at hV9
     obtain ⟨rfl, rfl, rfl⟩ := hV9
     obtain ⟨D652, hg651, hnD652, hs653, hs654⟩ := grow [_, _, _] (D := []) hM hM648 (noBld_cons (by simp) (noBld_cons (by simp) (noBld_cons (by simp) (noBld_quiet quietL_nil)))) hnL649
     replace hR650 := hR650.mono hs654
     replace hM : Mg w w661 (.obj g642 (.cells #[.slice none 0 0, .slice none 0 0, .slice none 0 0] 37) :: .obj g578 (.cells #[.slice none 0 0, .slice none 0 0, .slice none 0 0] 37) :: .obj g2 (.cells #[.slice sF fs.length cF_, .slice sI il.length cI, .slice sO ol.length cO] 37) :: D652) := hg651
     refine ⟨_, rfl, (hM.sub (.cons _ (.cons _ (.cons_cons _ (List.nil_sublist _))))), ?_⟩
     intro a hA
     refine any_one (by kernel_rfl) (op_call hA 3 rfl rfl rfl rfl (enters_func rfl rfl (fun w => by kernel_rfl)) (rcopy_any (cF_ := cF_) (cI := cI) (cO := cO) (fs := fs) (il := il) (ol := ol) (hF.below hM.bel) (hI.below hM.bel) (hO.below hM.bel) hBd) ?_)
     rintro _ w679 ⟨vF662, vI663, vO664, rfl, hO665⟩
     obtain ⟨hM666L, hM666, hnL667, hR668⟩ := OwnW.rwd hO665
     obtain ⟨sF673, cF674, sI675, cI676, sO677, cO678, hV9, _⟩ := RwD.open_ hM666 hR668
     simp only [Value.agg.injEq, Array.mk.injEq, List.cons.injEq, and_true] at hV9
     obtain ⟨rfl, rfl, rfl⟩ := hV9
     obtain ⟨D670, hg669, hnD670, hs671, hs672⟩ := grow [_, _, _] (D := D652) hM hM666 (noBld_cons (by simp) (noBld_cons (by simp) (noBld_cons (by simp) hnD652))) hnL667
     replace hR650 := hR650.mono hs671
     replace hR668 := hR668.mono hs672
     replace hM : Mg w w679 (.obj g642 (.cells #[.slice none 0 0, .slice none 0 0, .slice none 0 0] 37) :: .obj g578 (.cells #[.slice none 0 0, .slice none 0 0, .slice none 0 0] 37) :: .obj g2 (.cells #[.slice sF fs.length cF_, .slice sI il.length cI, .slice sO ol.length cO] 37) :: D670) := hg669
     refine ⟨_, rfl, (hM.sub (.cons _ (.cons _ (.cons_cons _ (List.nil_sublist _))))), ?_⟩
     intro a hA
     refine any_one (by kernel_rfl) (g_store (us := [.slice sF655 fs.length cF656, .slice sI657 il.length cI658, .slice sO659 ol.length cO660]) (L' := (.obj g642 (.cells #[.slice none 0 0, .slice none 0 0, .slice none 0 0] 37) :: .obj g578 (.cells #[.slice sF655 fs.length cF656, .slice sI657 il.length cI658, .slice sO659 ol.length cO660] 37) :: .obj g2 (.cells #[.slice sF fs.length cF_, .slice sI il.length cI, .slice sO ol.length cO] 37) :: D670)) hA hM 6 rfl rfl rfl (m_store rfl rfl rfl (by kernel_rfl) hM 1 rfl rfl rfl) 1 rfl rfl rfl ?_)
     intro w680 hM
     refine ⟨(hM.sub (.cons _ (.cons _ (.cons_cons _ (List.nil_sublist _))))), ?_⟩
     refine any_one (by kernel_rfl) (g_store (us := [.slice sF673 fs.length cF674, .slice sI675 il.length cI676, .slice sO677 ol.length cO678]) (L' := (.obj g642 (.cells #[.slice sF673 fs.length cF674, .slice sI675 il.length cI676, .slice sO677 ol.length cO678] 37) :: .obj g578 (.cells #[.slice sF655 fs.length cF656, .slice sI657 il.length cI658, .slice sO659 ol.length cO660] 37) :: .obj g2 (.cells #[.slice sF fs.length cF_, .slice sI il.length cI, .slice sO ol.length cO] 37) :: D670)) hA hM 7 rfl rfl rfl (m_store rfl rfl rfl (by kernel_rfl) hM 0 rfl rfl rfl) 0 rfl rfl rfl ?_)
     intro w681 hM
     refine ⟨(hM.sub (.cons _ (.cons _ (.cons_cons _ (List.nil_sublist _))))), ?_⟩
     refine any_end (by kernel_rfl) ?_
     replace hM := hM.perm (List.Perm.swap _ _ _)
     exact hJ9 _ _ ⟨g578, g642, sF655, cF656, sI657, cI658, sO659, cO660, sF673, cF674, sI675, cI676, sO677, cO678, D670, hR650, hR668, hnD670, hA.keep _ ⟨rfl, rfl, rfl, rfl, trivial⟩, hM⟩
 · refine g_new (vs := [.slice none 0 0, .slice none 0 0, .slice none 0 0]) (t := 37) hA hM 5 rfl rfl rfl rfl (fun g => .pointer (some ⟨g, 0, none⟩)) (does_alloc (z := .agg #[.slice none 0 0, .slice none 0 0, .slice none 0 0]) (by kernel_rfl) rfl) (by decide) ?_
   intro g682 w683 hM
   refine ⟨(hM.sub (.cons _ (.cons_cons _ (List.nil_sublist _)))), ?_⟩
   intro a hA
   refine any_many (rs := [1, 4]) (by kernel_rfl) (by simp) ⟨?_, ?_, trivial⟩
   · refine op_call hA 1 rfl rfl rfl rfl (enters_func rfl rfl (fun w => by kernel_rfl)) (rcopy_any (cF_ := cF_) (cI := cI) (cO := cO) (fs := fs) (il := il) (ol := ol) (hF.below hM.bel) (hI.below hM.bel) (hO.below hM.bel) hBd) ?_
     rintro _ w701 ⟨vF684, vI685, vO686, rfl, hO687⟩
     obtain ⟨hM688L, hM688, hnL689, hR690⟩ := OwnW.rwd hO687
     obtain ⟨sF695, cF696, sI697, cI698, sO699, cO700, hV9, _⟩ := RwD.open_ hM688 hR690
     simp only [Value.agg.injEq, Array.mk.injEq, List.cons.injEq, and_true] at hV9
     obtain ⟨rfl, rfl, rfl⟩ := hV9
     obtain ⟨D692, hg691, hnD692, hs693, hs694⟩ := grow [_, _] (D := []) hM hM688 (noBld_cons (by simp) (noBld_cons (by simp) (noBld_quiet quietL_nil))) hnL689
     replace hR690 := hR690.mono hs694
     replace hM : Mg w w701 (.obj g682 (.cells #[.slice none 0 0, .slice none 0 0, .slice none 0 0] 37) :: .obj g2 (.cells #[.slice sF fs.length cF_, .slice sI il.length cI, .slice sO ol.length cO] 37) :: D692) := hg691
     refine ⟨_, rfl, (hM.sub (.cons _ (.cons_cons _ (List.nil_sublist _)))), ?_⟩
     intro a hA
     refine any_many (rs := [3, 4]) (by kernel_rfl) (by simp) ⟨?_, ?_, trivial⟩
     · refine op_call hA 3 rfl rfl rfl rfl (enters_func rfl rfl (fun w => by kernel_rfl)) (rcopy_any (cF_ := cF_) (cI := cI) (cO := cO) (fs := fs) (il := il) (ol := ol) (hF.below hM.bel) (hI.below hM.bel) (hO.below hM.bel) hBd) ?_
       rintro _ w719 ⟨vF702, vI703, vO704, rfl, hO705⟩
       obtain ⟨hM706L, hM706, hnL707, hR708⟩ := OwnW.rwd hO705
       obtain ⟨sF713, cF714, sI715, cI716, sO717, cO718, hV9, _⟩ := RwD.open_ hM706 hR708
       simp only [Value.agg.injEq, Array.mk.injEq, List.cons.injEq, and_true] at hV9
       obtain ⟨rfl, rfl, rfl⟩ := hV9
       obtain ⟨D710, hg709, hnD710, hs711, hs712⟩ := grow [_, _] (D := D692) hM hM706 (noBld_cons (by simp) (noBld_cons (by simp) hnD692)) hnL707
       replace hR690 := hR690.mono hs711
       replace hR708 := hR708.mono hs712
       replace hM : Mg w w719 (.obj g682 (.cells #[.slice none 0 0, .slice none 0 0, .slice none 0 0] 37) :: .obj g2 (.cells #[.slice sF fs.length cF_, .slice sI il.length cI, .slice sO ol.length cO] 37) :: D710) := hg709
       refine ⟨_, rfl, (hM.sub (.cons _ (.cons_cons _ (List.nil_sublist _)))), ?_⟩
       intro a hA
       refine any_one (by kernel_rfl) (g_new (vs := [.slice none 0 0, .slice none 0 0, .slice none 0 0]) (t := 37) hA hM 4 rfl rfl rfl rfl (fun g => .pointer (some ⟨g, 0, none⟩)) (does_alloc (z := .agg #[.slice none 0 0, .slice none 0 0, .slice none 0 0]) (by kernel_rfl) rfl) (by decide) ?_)
       intro g720 w721 hM
       refine ⟨(hM.sub (.cons _ (.cons _ (.cons_cons _ (List.nil_sublist _))))), ?_⟩
       intro a hA
       refine any_one (by kernel_rfl) (g_store (us := [.slice sF695 fs.length cF696, .slice sI697 il.length cI698, .slice sO699 ol.length cO700]) (L' := (.obj g720 (.cells #[.slice sF695 fs.length cF696, .slice sI697 il.length cI698, .slice sO699 ol.length cO700] 37) :: .obj g682 (.cells #[.slice none 0 0, .slice none 0 0, .slice none 0 0] 37) :: .obj g2 (.cells #[.slice sF fs.length cF_, .slice sI il.length cI, .slice sO ol.length cO] 37) :: D710)) hA hM 6 rfl rfl rfl (m_store rfl rfl rfl (by kernel_rfl) hM 0 rfl rfl rfl) 0 rfl rfl rfl ?_)
       intro w722 hM
       refine ⟨(hM.sub (.cons _ (.cons _ (.cons_cons _ (List.nil_sublist _))))), ?_⟩
       refine any_one (by kernel_rfl) (g_store (us := [.slice sF713 fs.length cF714, .slice sI715 il.length cI716, .slice sO717 ol.length cO718]) (L' := (.obj g720 (.cells #[.slice sF695 fs.length cF696, .slice sI697 il.length cI698, .slice sO699 ol.length cO700] 37) :: .obj g682 (.cells #[.slice sF713 fs.length cF714, .slice sI715 il.length cI716, .slice sO717 ol.length cO718] 37) :: .obj g2 (.cells #[.slice sF fs.length cF_, .slice sI il.length cI, .slice sO ol.length cO] 37) :: D710)) hA hM 7 rfl rfl rfl (m_store rfl rfl rfl (by kernel_rfl) hM 1 rfl rfl rfl) 1 rfl rfl rfl ?_)
       intro w723 hM
       refine ⟨(hM.sub (.cons _ (.cons _ (.cons_cons _ (List.nil_sublist _))))), ?_⟩
       refine any_end (by kernel_rfl) ?_
       exact hJ9 _ _ ⟨g720, g682, sF695, cF696, sI697, cI698, sO699, cO700, sF713, cF714, sI715, cI716, sO717, cO718, D710, hR690, hR708, hnD710, hA.keep _ ⟨rfl, rfl, rfl, rfl, trivial⟩, hM⟩
     · refine g_new (vs := [.slice none 0 0, .slice none 0 0, .slice none 0 0]) (t := 37) hA hM 4 rfl rfl rfl rfl (fun g => .pointer (some ⟨g, 0, none⟩)) (does_alloc (z := .agg #[.slice none 0 0, .slice none 0 0, .slice none 0 0]) (by kernel_rfl) rfl) (by decide) ?_
       intro g724 w725 hM
       refine ⟨(hM.sub (.cons _ (.cons _ (.cons_cons _ (List.nil_sublist _))))), ?_⟩
       intro a hA
       refine any_one (by kernel_rfl) (op_call hA 3 rfl rfl rfl rfl (enters_func rfl rfl (fun w => by kernel_rfl)) (rcopy_any (cF_ := cF_) (cI := cI) (cO := cO) (fs := fs) (il := il) (ol := ol) (hF.below hM.bel) (hI.below hM.bel) (hO.below hM.bel) hBd) ?_)
       rintro _ w743 ⟨vF726, vI727, vO728, rfl, hO729⟩
       obtain ⟨hM730L, hM730, hnL731, hR732⟩ := OwnW.rwd hO729
       obtain ⟨sF737, cF738, sI739, cI740, sO741, cO742, hV9, _⟩ := RwD.open_ hM730 hR732
       simp only [Value.agg.injEq, Array.mk.injEq, List.cons.injEq, and_true] at hV9
       obtain ⟨rfl, rfl, rfl⟩ := hV9
       obtain ⟨D734, hg733, hnD734, hs735, hs736⟩ := grow [_, _, _] (D := D692) hM hM730 (noBld_cons (by simp) (noBld_cons (by simp) (noBld_cons (by simp) hnD692))) hnL731
       replace hR690 := hR690.mono hs735
       replace hR732 := hR732.mono hs736
       replace hM : Mg w w743 (.obj g724 (.cells #[.slice none 0 0, .slice none 0 0, .slice none 0 0] 37) :: .obj g682 (.cells #[.slice none 0 0, .slice none 0 0, .slice none 0 0] 37) :: .obj g2 (.cells #[.slice sF fs.length cF_, .slice sI il.length cI, .slice sO ol.length cO] 37) :: D734) := hg733
       refine ⟨_, rfl, (hM.sub (.cons _ (.cons _ (.cons_cons _ (List.nil_sublist _))))), ?_⟩
       intro a hA
       refine any_one (by kernel_rfl) (g_store (us := [.slice sF695 fs.length cF696, .slice sI697 il.length cI698, .slice sO699 ol.length cO700]) (L' := (.obj g724 (.cells #[.slice sF695 fs.length cF696, .slice sI697 il.length cI698, .slice sO699 ol.length cO700] 37) :: .obj g682 (.cells #[.slice none 0 0, .slice none 0 0, .slice none 0 0] 37) :: .obj g2 (.cells #[.slice sF fs.length cF_, .slice sI il.length cI, .slice sO ol.length cO] 37) :: D734)) hA hM 6 rfl rfl rfl (m_store rfl rfl rfl (by kernel_rfl) hM 0 rfl rfl rfl) 0 rfl rfl rfl ?_)
       intro w744 hM
       refine ⟨(hM.sub (.cons _ (.cons _ (.cons_cons _ (List.nil_sublist _))))), ?_⟩
       refine any_one (by kernel_rfl) (g_store (us := [.slice sF737 fs.length cF738, .slice sI739 il.length cI740, .slice sO741 ol.length cO742]) (L' := (.obj g724 (.cells #[.slice sF695 fs.length cF696, .slice sI697 il.length cI698, .slice sO699 ol.length cO700] 37) :: .obj g682 (.cells #[.slice sF737 fs.length cF738, .slice sI739 il.length cI740, .slice sO741 ol.length cO742] 37) :: .obj g2 (.cells #[.slice sF fs.length cF_, .slice sI il.length cI, .slice sO ol.length cO] 37) :: D734)) hA hM 7 rfl rfl rfl (m_store rfl rfl rfl (by kernel_rfl) hM 1 rfl rfl rfl) 1 rfl rfl rfl ?_)
       intro w745 hM
       refine ⟨(hM.sub (.cons _ (.cons _ (.cons_cons _ (List.nil_sublist _))))), ?_⟩
       refine any_end (by kernel_rfl) ?_
       exact hJ9 _ _ ⟨g724, g682, sF695, cF696, sI697, cI698, sO699, cO700, sF737, cF738, sI739, cI740, sO741, cO742, D734, hR690, hR732, hnD734, hA.keep _ ⟨rfl, rfl, rfl, rfl, trivial⟩, hM⟩
   · refine g_new (vs := [.slice none 0 0, .slice none 0 0, .slice none 0 0]) (t := 37) hA hM 4 rfl rfl rfl rfl (fun g => .pointer (some ⟨g, 0, none⟩)) (does_alloc (z := .agg #[.slice none 0 0, .slice none 0 0, .slice none 0 0]) (by kernel_rfl) rfl) (by decide) ?_
     intro g746 w747 hM
     refine ⟨(hM.sub (.cons _ (.cons _ (.cons_cons _ (List.nil_sublist _))))), ?_⟩
     intro a hA
     refine any_one (by kernel_rfl) (op_call hA 1 rfl rfl rfl rfl (enters_func rfl rfl (fun w => by kernel_rfl)) (rcopy_any (cF_ := cF_) (cI := cI) (cO := cO) (fs := fs) (il := il) (ol := ol) (hF.below hM.bel) (hI.below hM.bel) (hO.below hM.bel) hBd) ?_)
     rintro _ w765 ⟨vF748, vI749, vO750, rfl, hO751⟩
     obtain ⟨hM752L, hM752, hnL753, hR754⟩ := OwnW.rwd hO751
     obtain ⟨sF759, cF760, sI761, cI762, sO763, cO764, hV9, _⟩ := RwD.open_ hM752 hR754
     simp only [Value.agg.injEq, Array.mk.injEq, List.cons.injEq, and_true] at hV9
     obtain ⟨rfl, rfl, rfl⟩ := hV9
     obtain ⟨D756, hg755, hnD756, hs757, hs758⟩ := grow [_, _, _] (D := []) hM hM752 (noBld_cons (by simp) (noBld_cons (by simp) (noBld_cons (by simp) (noBld_quiet quietL_nil)))) hnL753
     replace hR754 := hR754.mono hs758
     replace hM : Mg w w765 (.obj g746 (.cells #[.slice none 0 0, .slice none 0 0, .slice none 0 0] 37) :: .obj g682 (.cells #[.slice none 0 0, .slice none 0 0, .slice none 0 0] 37) :: .obj g2 (.cells #[.slice sF fs.length cF_, .slice sI il.length cI, .slice sO ol.length cO] 37) :: D756) := hg755
     refine ⟨_, rfl, (hM.sub (.cons _ (.cons _ (.cons_cons _ (List.nil_sublist _))))), ?_⟩
     intro a hA
     refine any_one (by kernel_rfl) (op_call hA 3 rfl rfl rfl rfl (enters_func rfl rfl (fun w => by kernel_rfl)) (rcopy_any (cF_ := cF_) (cI := cI) (cO := cO) (fs := fs) (il := il) (ol := ol) (hF.below hM.bel) (hI.below hM.bel) (hO.below hM.bel) hBd) ?_)
     rintro _ w783 ⟨vF766, vI767, vO768, rfl, hO769⟩
     obtain ⟨hM770L, hM770, hnL771, hR772⟩ := OwnW.rwd hO769
     obtain ⟨sF777, cF778, sI779, cI780, sO781, cO782, hV9, _⟩ := RwD.open_ hM770 hR772
     simp only [Value.agg.injEq, Array.mk.injEq, List.cons.injEq, and_true] at hV9
     obtain ⟨rfl, rfl, rfl⟩ := hV9
     obtain ⟨D774, hg773, hnD774, hs775, hs776⟩ := grow [_, _, _] (D := D756) hM hM770 (noBld_cons (by simp) (noBld_cons (by simp) (noBld_cons (by simp) hnD756))) hnL771
     replace hR754 := hR754.mono hs775
     replace hR772 := hR772.mono hs776
     replace hM : Mg w w783 (.obj g746 (.cells #[.slice none 0 0, .slice none 0 0, .slice none 0 0] 37) :: .obj g682 (.cells #[.slice none 0 0, .slice none 0 0, .slice none 0 0] 37) :: .obj g2 (.cells #[.slice sF fs.length cF_, .slice sI il.length cI, .slice sO ol.length cO] 37) :: D774) := hg773
     refine ⟨_, rfl, (hM.sub (.cons _ (.cons _ (.cons_cons _ (List.nil_sublist _))))), ?_⟩
     intro a hA
     refine any_one (by kernel_rfl) (g_store (us := [.slice sF759 fs.length cF760, .slice sI761 il.length cI762, .slice sO763 ol.length cO764]) (L' := (.obj g746 (.cells #[.slice sF759 fs.length cF760, .slice sI761 il.length cI762, .slice sO763 ol.length cO764] 37) :: .obj g682 (.cells #[.slice none 0 0, .slice none 0 0, .slice none 0 0] 37) :: .obj g2 (.cells #[.slice sF fs.length cF_, .slice sI il.length cI, .slice sO ol.length cO] 37) :: D774)) hA hM 6 rfl rfl rfl (m_store rfl rfl rfl (by kernel_rfl) hM 0 rfl rfl rfl) 0 rfl rfl rfl ?_)
     intro w784 hM
     refine ⟨(hM.sub (.cons _ (.cons _ (.cons_cons _ (List.nil_sublist _))))), ?_⟩
     refine any_one (by kernel_rfl) (g_store (us := [.slice sF777 fs.length cF778, .slice sI779 il.length cI780, .slice sO781 ol.length cO782]) (L' := (.obj g746 (.cells #[.slice sF759 fs.length cF760, .slice sI761 il.length cI762, .slice sO763 ol.length cO764] 37) :: .obj g682 (.cells #[.slice sF777 fs.length cF778, .slice sI779 il.length cI780, .slice sO781 ol.length cO782] 37) :: .obj g2 (.cells #[.slice sF fs.length cF_, .slice sI il.length cI, .slice sO ol.length cO] 37) :: D774)) hA hM 7 rfl rfl rfl (m_store rfl rfl rfl (by kernel_rfl) hM 1 rfl rfl rfl) 1 rfl rfl rfl ?_)
     intro w785 hM
     refine ⟨(hM.sub (.cons _ (.cons _ (.cons_cons _ (List.nil_sublist _))))), ?_⟩
     refine any_end (by kernel_rfl) ?_
     exact hJ9 _ _ ⟨g746, g682, sF759, cF760, sI761, cI762, sO763, cO764, sF777, cF778, sI779, cI780, sO781, cO782, D774, hR754, hR772, hnD774, hA.keep _ ⟨rfl, rfl, rfl, rfl, trivial⟩, hM⟩
end Go.Proofs.Ytcjgjbaadmohbaa
