/- The walk of WorldFiles. -/
import Derived.Test.YtcjgjbaadmohbaaWo
namespace Go.Proofs.Ytcjgjbaadmohbaa
open Go.RowKit
set_option linter.unusedVariables false
set_option linter.unusedSimpArgs false
set_option maxRecDepth 100000
theorem Wp_is1_24 : Is1 Try.prog 24 := ⟨⟨_, Try.underlying24, rfl⟩, by kernel_rfl⟩
theorem Wp_is1_35 : Is1 Try.prog 35 := ⟨⟨_, Try.underlying35, rfl⟩, by kernel_rfl⟩
theorem Wp_is1_4 : Is1 Try.prog 4 := ⟨⟨_, Try.underlying4, rfl⟩, by kernel_rfl⟩
theorem Wp_is1_5 : Is1 Try.prog 5 := ⟨⟨_, Try.underlying5, rfl⟩, by kernel_rfl⟩
theorem Wp_fld_37_0 : FieldAt Try.prog 37 0 0 := ⟨_, _, Try.underlying37, rfl, rfl, by kernel_rfl⟩
theorem Wp_isS_37 : IsS Try.prog 37 3 := ⟨⟨_, Try.underlying37⟩, by kernel_rfl⟩
open Go.Lib
/-- A slice of rows of bytes reads as these. -/
structure Rq (w : World) (so : Option Addr) (ds : List (List UInt8)) : Prop where
  pos : ∀ j q, ds[j]? = some q → ∃ b off sj cj, so = some ⟨b, off, none⟩ ∧ b < w.heap.size ∧ w.cell? ⟨b, off + j, none⟩ = some (.slice sj q.length cj) ∧ Rb w sj q ∧ q.length ≤ cj
theorem made_bools : (madeCells (Value.bool false).cells (8 * 1)).toList = bl (List.replicate 8 (([] : List UInt8), false)) := by
  unfold madeCells bl
  rw [Array.toList_map, Array.toList_range]
  rfl
theorem byteK {k : Nat} (h : k < 8) : ([.int .u8 102, .int .u8 ((48 + k : Nat) : Int)] : List Value) = Lib.byteCells [102, UInt8.ofNat (48 + k)] := by
  have := u8K (a := k) (by omega)
  simp [Lib.byteCells]
  omega
set_option maxHeartbeats 2000000 in
theorem files_any {w : World} {sN sR : Option Addr} {cN cR : Nat} {ns : List UInt8} {ds : List (List UInt8)} {at_ : Int} (hN : Rb w sN ns) (hNl : ns.length ≤ 140737488351232) (hR : Rq w sR ds) (hRl : ds.length ≤ 140737488351232) (ha0 : 0 ≤ at_) (ha1 : at_ ≤ 255) : Calls Try.prog 6 #[.slice sN ns.length cN, .slice sR ds.length cR, .int .u8 at_] w fun e w' => e = .returned (.bool true) ∧ Below w.heap.size w w' := by
 have hM : Mg w w ([]) := Mg.start w
 refine walk_of (l := [(0, .slice sN ns.length cN), (1, .slice sR ds.length cR), (2, .int .u8 at_)]) Try.func6 rfl Try.ntmps6 rfl rfl ?_
 intro Q hret hnorm hP a hA
 refine wp_seq_k (fun K1 hK1 => ?_)
 refine wp_region_lit ?_
 refine seq_do hA rfl rfl rfl (does_assign rfl) ?_
 intro a hA
 refine seq_end ?_
 refine hK1 _ _ ?_
 refine wp_seq_k (fun K2 hK2 => ?_)
 refine wp_region_lit ?_
 refine seq_do (v := .agg #[.slice none 0 0, .slice none 0 0, .slice none 0 0]) hA rfl rfl rfl (does_build rfl (fun w => by kernel_rfl)) ?_
 intro a hA
 refine s_new (vs := [.slice none 0 0, .slice none 0 0, .slice none 0 0]) (t := 37) hA hM rfl rfl rfl (fun g => .pointer (some ⟨g, 0, none⟩)) (does_alloc (z := .agg #[.slice none 0 0, .slice none 0 0, .slice none 0 0]) (by kernel_rfl) rfl) (by decide) ?_
 intro g3 w4 hM a hA
 refine s_store (us := [.slice none 0 0, .slice none 0 0, .slice none 0 0]) (L' := (.obj g3 (.cells #[.slice none 0 0, .slice none 0 0, .slice none 0 0] 37) :: [])) hA hM rfl rfl (m_store rfl rfl rfl (by kernel_rfl) hM 0 rfl rfl rfl) 0 rfl rfl rfl ?_
 intro w5 hM
 refine seq_end ?_
 refine hK2 _ _ ?_
 refine wp_seq_k (fun K6 hK6 => ?_)
 replace hA := hA.keep [(0, .slice sN ns.length cN), (1, .slice sR ds.length cR), (2, .int .u8 at_), (6, .bool false), (7, .pointer (some ⟨g3, 0, none⟩))] ⟨rfl, rfl, rfl, rfl, rfl, trivial⟩
 refine wp_region_lit ?_
 refine s_makeE (z := .slice none 0 0) (sz := 1) (by_ := 24) (m := 8) hA hM Try.underlying54 (by kernel_rfl) rfl rfl rfl rfl rfl rfl (by omega) (by omega) (.inl (by decide)) ?_
 intro gh w7 hM a hA
 obtain ⟨hv, hhv⟩ : ∃ hv, (madeCells (.slice none 0 0 : Value).cells (8 * 1)).toList = hv := ⟨_, rfl⟩
 rw [hhv] at hM
 have hvl : hv.length = 8 := by rw [← hhv, Array.length_toList, size_madeCells]
 refine seq_do hA rfl rfl rfl (does_assign rfl) ?_
 intro a hA
 refine seq_end ?_
 refine hK6 _ _ ?_
 refine wp_seq_k (fun K8 hK8 => ?_)
 replace hA := hA.keep [(0, .slice sN ns.length cN), (1, .slice sR ds.length cR), (2, .int .u8 at_), (6, .bool false), (7, .pointer (some ⟨g3, 0, none⟩)), (8, .slice (some ⟨gh, 0, none⟩) 8 8)] ⟨rfl, rfl, rfl, rfl, rfl, rfl, trivial⟩
 refine wp_region_lit ?_
 refine s_makeE (z := .bool false) (sz := 1) (by_ := 1) (m := 8) hA hM Try.underlying55 (by kernel_rfl) rfl rfl rfl rfl rfl rfl (by omega) (by omega) (.inl (by decide)) ?_
 intro gt w9 hM a hA
 replace hM : Mg w w9 (.row 4 1 (.slice (some ⟨gt, 0, none⟩) 8 8) 8 ((bl (List.replicate 8 (([] : List UInt8), false)))) :: .row 24 1 (.slice (some ⟨gh, 0, none⟩) 8 8) 8 hv :: .obj g3 (.cells #[.slice none 0 0, .slice none 0 0, .slice none 0 0] 37) :: []) := by
   have h9 := hM
   rw [made_bools] at h9
   exact h9
 refine seq_do hA rfl rfl rfl (does_assign rfl) ?_
 intro a hA
 refine seq_end ?_
 refine hK8 _ _ ?_
 refine wp_seq_k (fun K10 hK10 => ?_)
 refine wp_seq_k (fun K11 hK11 => ?_)
 replace hA := hA.keep [(0, .slice sN ns.length cN), (1, .slice sR ds.length cR), (2, .int .u8 at_), (6, .bool false), (7, .pointer (some ⟨g3, 0, none⟩)), (8, .slice (some ⟨gh, 0, none⟩) 8 8), (9, .slice (some ⟨gt, 0, none⟩) 8 8)] ⟨rfl, rfl, rfl, rfl, rfl, rfl, rfl, trivial⟩
 refine wp_region_lit ?_
 refine seq_call hA rfl rfl rfl (enters_func rfl rfl (fun w => by kernel_rfl)) (awake_any) ?_
 rintro _ w13 ⟨rfl, hb12⟩
 replace hM := hM.call hb12
 refine ⟨_, rfl, ?_⟩
 intro a hA
 refine seq_do (v := .bool false) hA rfl rfl rfl (does_un rfl un_not) ?_
 intro a hA
 refine seq_end ?_
 refine hK11 _ _ ?_
 refine wp_cond_false (hA.ev rfl) ?_
 refine wp_skip ?_
 refine hK10 _ _ ?_
 refine wp_seq_k (fun K14 hK14 => ?_)
 refine wp_seq_k (fun K15 hK15 => ?_)
 replace hA := hA.keep [(0, .slice sN ns.length cN), (1, .slice sR ds.length cR), (2, .int .u8 at_), (6, .bool false), (7, .pointer (some ⟨g3, 0, none⟩)), (8, .slice (some ⟨gh, 0, none⟩) 8 8), (9, .slice (some ⟨gt, 0, none⟩) 8 8)] ⟨rfl, rfl, rfl, rfl, rfl, rfl, rfl, trivial⟩
 obtain ⟨D17, hg16, hnD17, hs18, hz19⟩ := growZ [_, _, _] (D := []) hM (noBld_cons (by simp) (noBld_cons (by simp) (noBld_cons (by simp) (noBld_quiet quietL_nil))))
 replace hM : Mg w w13 (.row 4 1 (.slice (some ⟨gt, 0, none⟩) 8 8) 8 ((bl (List.replicate 8 (([] : List UInt8), false)))) :: .row 24 1 (.slice (some ⟨gh, 0, none⟩) 8 8) 8 hv :: .obj g3 (.cells #[.slice none 0 0, .slice none 0 0, .slice none 0 0] 37) :: D17) := hg16
 refine wp_region_lit ?_
 refine seq_do hA rfl rfl rfl (does_assign rfl) ?_
 intro a hA
 refine seq_end ?_
 refine hK15 _ _ ?_
 refine wp_block ?_
 refine wp_loop_n (fun m_ a w1 => ∃ (i : Nat) (ps : List Pr) (hv : List Value) (sW1 : Option Addr) (cW1 : Nat) (sW2 : Option Addr) (cW2 : Nat) (sW3 : Option Addr) (cW3 : Nat) (D : List Ck), m_ = 50 - i ∧ (RwD D (.agg #[.slice sW1 ((FM 0 ps).length) cW1, .slice sW2 (([] : List UInt8).length) cW2, .slice sW3 (([] : List UInt8).length) cW3]) (FM 0 ps) [] [] ∧ noBld D ∧ Hd D ps hv ∧ hv.length = 8 ∧ ps.length = 8 ∧ Shrt (500 * i) ps ∧ i ≤ 50) ∧ Sl a 216 [(0, .slice sN ns.length cN), (1, .slice sR ds.length cR), (2, .int .u8 at_), (7, .pointer (some ⟨g3, 0, none⟩)), (8, .slice (some ⟨gh, 0, none⟩) 8 8), (9, .slice (some ⟨gt, 0, none⟩) 8 8), (10, .int .i64 (((i : Nat) : Int)))] ∧ Mg w w1 (.row 4 1 (.slice (some ⟨gt, 0, none⟩) 8 8) 8 ((bl ps)) :: .row 24 1 (.slice (some ⟨gh, 0, none⟩) 8 8) 8 hv :: .obj g3 (.cells #[.slice sW1 ((FM 0 ps).length) cW1, .slice sW2 (([] : List UInt8).length) cW2, .slice sW3 (([] : List UInt8).length) cW3] 37) :: D)) _ ⟨0, (List.replicate 8 (([] : List UInt8), false)), hv, none, 0, none, 0, none, 0, D17, rfl, ⟨hz19, hnD17, (fun k h hk => by have h7 := List.mem_of_getElem? hk; rw [List.mem_replicate] at h7; have h6 := h7.2; simp at h6), hvl, rfl, (fun p hp ht => by rw [List.mem_replicate] at hp; rw [hp.2] at ht; cases ht), Nat.zero_le _⟩, hA.keep _ ⟨rfl, rfl, rfl, rfl, rfl, rfl, rfl, trivial⟩, hM⟩ ?_
 clear hM hA
 rintro m_ a w20 ⟨i, ps, hv, sW1, cW1, sW2, cW2, sW3, cW3, D, rfl, hinv22, hA, hM⟩ K21 hK21
 obtain ⟨hRw, hnD, hH, hvl, hpl, hsh, hi9⟩ := hinv22
 have hsd : soundS (FM 0 ps) [] [] = true := FM_sound hpl (fun p hp ht => Nat.le_trans (hsh p hp ht) (by omega))
 have hfn : (FM 0 ps).length ≤ 4398046511104 := by
   have h7 := FM_len ps 0
   have h8 := cnt_le ps
   omega
 refine wp_seq_k (fun K23 hK23 => ?_)
 refine wp_seq_k (fun K24 hK24 => ?_)
 refine wp_region_lit ?_
 refine seq_do hA rfl rfl rfl (does_move rfl) ?_
 intro a hA
 refine seq_do hA rfl rfl rfl (does_move rfl) ?_
 intro a hA
 refine seq_do (v := .int .i64 (((ns.length : Nat) : Int))) hA rfl rfl rfl (does_len Try.underlying24 rfl) ?_
 intro a hA
 rcases Bool.eq_false_or_eq_true (decide (((i : Nat) : Int) < ((ns.length : Nat) : Int))) with hb25 | hb25
 · have hb25' := of_decide_eq_true hb25
   refine seq_do (v := .bool true) hA rfl rfl rfl (does_bin rfl rfl (fun w => (bin_lss w).trans (by rw [hb25]))) ?_
   intro a hA
   refine seq_do hA rfl rfl rfl (does_move rfl) ?_
   intro a hA
   refine seq_do hA rfl rfl rfl (does_move rfl) ?_
   intro a hA
   refine seq_do hA rfl rfl rfl (does_move rfl) ?_
   intro a hA
   refine seq_do (v := .int .i64 (((ds.length : Nat) : Int))) hA rfl rfl rfl (does_len Try.underlying54 rfl) ?_
   intro a hA
   rcases Bool.eq_false_or_eq_true (decide (((i : Nat) : Int) < ((ds.length : Nat) : Int))) with hb26 | hb26
   · have hb26' := of_decide_eq_true hb26
     refine seq_do (v := .bool true) hA rfl rfl rfl (does_bin rfl rfl (fun w => (bin_lss w).trans (by rw [hb26]))) ?_
     intro a hA
     refine seq_do (v := .bool true) hA rfl rfl rfl (does_pick rfl rfl rfl rfl) ?_
     intro a hA
     refine seq_do hA rfl rfl rfl (does_move rfl) ?_
     intro a hA
     refine seq_do hA rfl rfl rfl (does_move rfl) ?_
     intro a hA
     rcases Bool.eq_false_or_eq_true (decide (((i : Nat) : Int) < 50)) with hb27 | hb27
     · have hb27' := of_decide_eq_true hb27
       refine seq_do (v := .bool true) hA rfl rfl rfl (does_bin rfl rfl (fun w => (bin_lss w).trans (by rw [hb27]))) ?_
       intro a hA
       refine seq_do (v := .bool true) hA rfl rfl rfl (does_pick rfl rfl rfl rfl) ?_
       intro a hA
       refine seq_end ?_
       refine hK24 _ _ ?_
       refine wp_cond_true (hA.ev rfl) ?_
       refine wp_skip ?_
       refine hK23 _ _ ?_
       refine wp_seq_k (fun K28 hK28 => ?_)
       refine wp_block ?_
       refine wp_seq_k (fun K29 hK29 => ?_)
       replace hA := hA.keep [(0, .slice sN ns.length cN), (1, .slice sR ds.length cR), (2, .int .u8 at_), (7, .pointer (some ⟨g3, 0, none⟩)), (8, .slice (some ⟨gh, 0, none⟩) 8 8), (9, .slice (some ⟨gt, 0, none⟩) 8 8), (10, .int .i64 (((i : Nat) : Int)))] ⟨rfl, rfl, rfl, rfl, rfl, rfl, rfl, trivial⟩
       refine wp_region_lit ?_
       refine seq_do hA rfl rfl rfl (does_move rfl) ?_
       intro a hA
       refine seq_do hA rfl rfl rfl (does_move rfl) ?_
       intro a hA
       obtain ⟨bn, on_, hnA, hnB, hnC⟩ := rb_open (i := i) hN (by omega)
       have hX8 : (ns.getD i 0).toNat < 256 := UInt8.toNat_lt _
       refine seq_do (v := .pointer (some ⟨bn, on_ + i, none⟩)) hA rfl rfl rfl (does_indexRow Try.underlying24 (by kernel_rfl) rfl rfl rfl hnA (show i < ns.length by omega)) ?_
       intro a hA
       refine seq_do (v := .int .u8 ((((ns.getD i 0).toNat : Nat) : Int))) hA rfl rfl rfl (m_loadR hM hnB (hnC i (by omega)) Wp_is1_5 rfl) ?_
       intro a hA
       obtain ⟨kn, hkn⟩ : ∃ kn, kn = (ns.getD i 0).toNat % 8 := ⟨_, rfl⟩
       have hk8 : kn < 8 := by omega
       refine seq_do (v := .int .u8 (((kn : Nat) : Int))) hA rfl rfl rfl (does_bin rfl rfl (ar_rem (by decide) ((Int.tmod_eq_emod_of_nonneg (by omega)).trans (by omega)))) ?_
       intro a hA
       refine seq_do (v := .int .i64 (((kn : Nat) : Int))) hA rfl rfl rfl (does_convert rfl (ar_conv Try.underlying5 Try.underlying3 (in_i64 (by omega) (by omega)))) ?_
       intro a hA
       refine seq_do hA rfl rfl rfl (does_assign rfl) ?_
       intro a hA
       refine seq_end ?_
       refine hK29 _ _ ?_
       refine wp_seq_k (fun K30 hK30 => ?_)
       replace hA := hA.keep [(0, .slice sN ns.length cN), (1, .slice sR ds.length cR), (2, .int .u8 at_), (7, .pointer (some ⟨g3, 0, none⟩)), (8, .slice (some ⟨gh, 0, none⟩) 8 8), (9, .slice (some ⟨gt, 0, none⟩) 8 8), (10, .int .i64 (((i : Nat) : Int))), (11, .int .i64 (((kn : Nat) : Int)))] ⟨rfl, rfl, rfl, rfl, rfl, rfl, rfl, rfl, trivial⟩
       refine wp_region_lit ?_
       refine seq_do hA rfl rfl rfl (does_move rfl) ?_
       intro a hA
       refine seq_do (v := .int .i64 (((48 + kn : Nat) : Int))) hA rfl rfl rfl (does_bin rfl rfl (ar_add ((in_i64 (by omega) (by omega)).trans (by omega)))) ?_
       intro a hA
       obtain ⟨hh, tt, hpk⟩ := pr_get (ps := ps) (k := kn) (by omega)
       rcases tt with _ | _
       · refine seq_do (v := .int .u8 (((48 + kn : Nat) : Int))) hA rfl rfl rfl (does_convert rfl (ar_conv Try.underlying3 Try.underlying5 (in_u8 (by omega) (by omega)))) ?_
         intro a hA
         refine s_lit (vs := [.int .u8 102, .int .u8 (((48 + kn : Nat) : Int))]) hA hM rfl rfl rfl (does_buildSlice rfl (by kernel_rfl)) rfl rfl (noBld_cons (by simp) (noBld_cons (by simp) (noBld_cons (by simp) hnD))) ?_
         intro g31 w32 hM a hA
         replace hM : Mg w w32 (.row BY 1 (.slice (some ⟨g31, 0, none⟩) 2 2) 2 ((Lib.byteCells [102, UInt8.ofNat (48 + kn)])) :: .row 4 1 (.slice (some ⟨gt, 0, none⟩) 8 8) 8 ((bl ps)) :: .row 24 1 (.slice (some ⟨gh, 0, none⟩) 8 8) 8 hv :: .obj g3 (.cells #[.slice sW1 ((FM 0 ps).length) cW1, .slice sW2 (([] : List UInt8).length) cW2, .slice sW3 (([] : List UInt8).length) cW3] 37) :: D) := by
           have h9 := hM
           rw [byteK (k := kn) (by omega)] at h9
           exact h9
         refine seq_do (v := .string (nmK kn)) hA rfl rfl rfl (does_convC rfl (conv_bytes Try.underlying24 Try.underlying5 Try.underlying9 (l := [102, UInt8.ofNat (48 + kn)]) (rb_row hM 0 rfl).1 2)) ?_
         intro a hA
         refine seq_do hA rfl rfl rfl (does_assign rfl) ?_
         intro a hA
         refine seq_end ?_
         refine hK30 _ _ ?_
         refine wp_seq_k (fun K33 hK33 => ?_)
         replace hA := hA.keep [(0, .slice sN ns.length cN), (1, .slice sR ds.length cR), (2, .int .u8 at_), (7, .pointer (some ⟨g3, 0, none⟩)), (8, .slice (some ⟨gh, 0, none⟩) 8 8), (9, .slice (some ⟨gt, 0, none⟩) 8 8), (10, .int .i64 (((i : Nat) : Int))), (11, .int .i64 (((kn : Nat) : Int))), (12, .string (nmK kn))] ⟨rfl, rfl, rfl, rfl, rfl, rfl, rfl, rfl, rfl, trivial⟩
         refine wp_region_lit ?_
         refine seq_do hA rfl rfl rfl (does_move rfl) ?_
         intro a hA
         refine seq_do hA rfl rfl rfl (does_move rfl) ?_
         intro a hA
         obtain ⟨dq, hdq0⟩ : ∃ dq, ds[i]? = some dq := ⟨_, List.getElem?_eq_getElem (by omega)⟩
         obtain ⟨br, or_, sj, cj, hr1, hr2, hr3, hdq, hdc⟩ := hR.pos _ _ hdq0
         refine seq_do (v := .pointer (some ⟨br, or_ + i, none⟩)) hA rfl rfl rfl (does_indexRow Try.underlying54 (by kernel_rfl) rfl rfl rfl hr1 (show i < ds.length by omega)) ?_
         intro a hA
         refine seq_do (v := .slice sj dq.length cj) hA rfl rfl rfl (m_loadR hM hr2 hr3 Wp_is1_24 rfl) ?_
         intro a hA
         refine seq_do hA rfl rfl rfl (does_assign rfl) ?_
         intro a hA
         refine seq_end ?_
         refine hK33 _ _ ?_
         refine wp_seq_k (fun K34 hK34 => ?_)
         refine wp_seq_k (fun K35 hK35 => ?_)
         replace hA := hA.keep [(0, .slice sN ns.length cN), (1, .slice sR ds.length cR), (2, .int .u8 at_), (7, .pointer (some ⟨g3, 0, none⟩)), (8, .slice (some ⟨gh, 0, none⟩) 8 8), (9, .slice (some ⟨gt, 0, none⟩) 8 8), (10, .int .i64 (((i : Nat) : Int))), (11, .int .i64 (((kn : Nat) : Int))), (12, .string (nmK kn)), (13, .slice sj dq.length cj)] ⟨rfl, rfl, rfl, rfl, rfl, rfl, rfl, rfl, rfl, rfl, trivial⟩
         refine wp_region_lit ?_
         refine seq_do hA rfl rfl rfl (does_move rfl) ?_
         intro a hA
         refine seq_do (v := .int .i64 (((dq.length : Nat) : Int))) hA rfl rfl rfl (does_len Try.underlying24 rfl) ?_
         intro a hA
         refine seq_do (v := .bool (decide (500 < ((dq.length : Nat) : Int)))) hA rfl rfl rfl (does_bin rfl rfl bin_gtr) ?_
         intro a hA
         refine seq_end ?_
         refine hK35 _ _ ?_
         have hJ36 : ∀ a w1, (Sl a 216 [(0, .slice sN ns.length cN), (1, .slice sR ds.length cR), (2, .int .u8 at_), (7, .pointer (some ⟨g3, 0, none⟩)), (8, .slice (some ⟨gh, 0, none⟩) 8 8), (9, .slice (some ⟨gt, 0, none⟩) 8 8), (10, .int .i64 (((i : Nat) : Int))), (11, .int .i64 (((kn : Nat) : Int))), (12, .string (nmK kn)), (13, .slice sj ((dq.take 500).length) cj)] ∧ Mg w w1 (.row BY 1 (.slice (some ⟨g31, 0, none⟩) 2 2) 2 ((Lib.byteCells [102, UInt8.ofNat (48 + kn)])) :: .row 4 1 (.slice (some ⟨gt, 0, none⟩) 8 8) 8 ((bl ps)) :: .row 24 1 (.slice (some ⟨gh, 0, none⟩) 8 8) 8 hv :: .obj g3 (.cells #[.slice sW1 ((FM 0 ps).length) cW1, .slice sW2 (([] : List UInt8).length) cW2, .slice sW3 (([] : List UInt8).length) cW3] 37) :: D)) → K34 a w1 := by
           clear hA hM
           rintro a w37 ⟨hA, hM⟩
           have hl5 : (dq.take 500).length ≤ 500 := by rw [List.length_take]; omega
           refine hK34 _ _ ?_
           refine wp_seq_k (fun K38 hK38 => ?_)
           refine wp_region_lit ?_
           refine seq_do hA rfl rfl rfl (does_assign rfl) ?_
           intro a hA
           refine seq_end ?_
           refine hK38 _ _ ?_
           refine wp_seq_k (fun K39 hK39 => ?_)
           refine wp_region_lit ?_
           refine seq_do (v := .agg #[.slice none 0 0, .slice none 0 0, .slice none 0 0]) hA rfl rfl rfl (does_build rfl (fun w => by kernel_rfl)) ?_
           intro a hA
           refine s_new (vs := [.slice none 0 0, .slice none 0 0, .slice none 0 0]) (t := 37) hA hM rfl rfl rfl (fun g => .pointer (some ⟨g, 0, none⟩)) (does_alloc (z := .agg #[.slice none 0 0, .slice none 0 0, .slice none 0 0]) (by kernel_rfl) rfl) (by decide) ?_
           intro g40 w41 hM a hA
           refine s_store (us := [.slice none 0 0, .slice none 0 0, .slice none 0 0]) (L' := (.obj g40 (.cells #[.slice none 0 0, .slice none 0 0, .slice none 0 0] 37) :: .row BY 1 (.slice (some ⟨g31, 0, none⟩) 2 2) 2 ((Lib.byteCells [102, UInt8.ofNat (48 + kn)])) :: .row 4 1 (.slice (some ⟨gt, 0, none⟩) 8 8) 8 ((bl ps)) :: .row 24 1 (.slice (some ⟨gh, 0, none⟩) 8 8) 8 hv :: .obj g3 (.cells #[.slice sW1 ((FM 0 ps).length) cW1, .slice sW2 (([] : List UInt8).length) cW2, .slice sW3 (([] : List UInt8).length) cW3] 37) :: D)) hA hM rfl rfl (m_store rfl rfl rfl (by kernel_rfl) hM 0 rfl rfl rfl) 0 rfl rfl rfl ?_
           intro w42 hM
           refine seq_end ?_
           refine hK39 _ _ ?_
           refine wp_seq_k (fun K43 hK43 => ?_)
           refine wp_seq_k (fun K44 hK44 => ?_)
           replace hA := hA.keep [(0, .slice sN ns.length cN), (1, .slice sR ds.length cR), (2, .int .u8 at_), (7, .pointer (some ⟨g3, 0, none⟩)), (8, .slice (some ⟨gh, 0, none⟩) 8 8), (9, .slice (some ⟨gt, 0, none⟩) 8 8), (10, .int .i64 (((i : Nat) : Int))), (11, .int .i64 (((kn : Nat) : Int))), (12, .string (nmK kn)), (13, .slice sj ((dq.take 500).length) cj), (14, .int .i64 0), (15, .pointer (some ⟨g40, 0, none⟩))] ⟨rfl, rfl, rfl, rfl, rfl, rfl, rfl, rfl, rfl, rfl, rfl, rfl, trivial⟩
           refine wp_region_lit ?_
           refine seq_do hA rfl rfl rfl (does_move rfl) ?_
           intro a hA
           refine seq_do hA rfl rfl rfl (does_move rfl) ?_
           intro a hA
           refine seq_do (v := .pointer (some ⟨bn, on_ + i, none⟩)) hA rfl rfl rfl (does_indexRow Try.underlying24 (by kernel_rfl) rfl rfl rfl hnA (show i < ns.length by omega)) ?_
           intro a hA
           refine seq_do (v := .int .u8 ((((ns.getD i 0).toNat : Nat) : Int))) hA rfl rfl rfl (m_loadR hM hnB (hnC i (by omega)) Wp_is1_5 rfl) ?_
           intro a hA
           refine seq_do (v := .int .u8 ((((ns.getD i 0).toNat / 8 : Nat) : Int))) hA rfl rfl rfl (does_bin rfl rfl (ar_quo (by decide) ((congrArg IntKind.u8.wrap (Int.tdiv_eq_ediv_of_nonneg (by omega))).trans ((in_u8 (by omega) (by omega)).trans (by omega))))) ?_
           intro a hA
           obtain ⟨sw, hsw⟩ : ∃ sw, sw = (ns.getD i 0).toNat / 8 % 3 := ⟨_, rfl⟩
           refine seq_do (v := .int .u8 (((sw : Nat) : Int))) hA rfl rfl rfl (does_bin rfl rfl (ar_rem (by decide) ((Int.tmod_eq_emod_of_nonneg (by omega)).trans (by omega)))) ?_
           intro a hA
           refine seq_end ?_
           refine hK44 _ _ ?_
           refine wp_block ?_
           refine wp_seq_k (fun K45 hK45 => ?_)
           replace hA := hA.keep [(0, .slice sN ns.length cN), (1, .slice sR ds.length cR), (2, .int .u8 at_), (7, .pointer (some ⟨g3, 0, none⟩)), (8, .slice (some ⟨gh, 0, none⟩) 8 8), (9, .slice (some ⟨gt, 0, none⟩) 8 8), (10, .int .i64 (((i : Nat) : Int))), (11, .int .i64 (((kn : Nat) : Int))), (12, .string (nmK kn)), (13, .slice sj ((dq.take 500).length) cj), (14, .int .i64 0), (15, .pointer (some ⟨g40, 0, none⟩)), (69, .int .u8 (((sw : Nat) : Int)))] ⟨rfl, rfl, rfl, rfl, rfl, rfl, rfl, rfl, rfl, rfl, rfl, rfl, rfl, trivial⟩
           refine wp_region_lit ?_
           rcases Bool.eq_false_or_eq_true ((((sw : Nat) : Int) == 0)) with hb46 | hb46
           · have hb46' := eq_of_beq hb46
             refine seq_do (v := .bool true) hA rfl rfl rfl (does_bin rfl rfl (fun w => (bin_eql w).trans (by rw [hb46]))) ?_
             intro a hA
             refine seq_do hA rfl rfl rfl (does_assign rfl) ?_
             intro a hA
             refine seq_end ?_
             refine hK45 _ _ ?_
             refine wp_cond_true (hA.ev rfl) ?_
             refine wp_seq_k (fun K47 hK47 => ?_)
             replace hA := hA.keep [(0, .slice sN ns.length cN), (1, .slice sR ds.length cR), (2, .int .u8 at_), (7, .pointer (some ⟨g3, 0, none⟩)), (8, .slice (some ⟨gh, 0, none⟩) 8 8), (9, .slice (some ⟨gt, 0, none⟩) 8 8), (10, .int .i64 (((i : Nat) : Int))), (11, .int .i64 (((kn : Nat) : Int))), (12, .string (nmK kn)), (13, .slice sj ((dq.take 500).length) cj), (14, .int .i64 0), (15, .pointer (some ⟨g40, 0, none⟩)), (69, .int .u8 (((sw : Nat) : Int)))] ⟨rfl, rfl, rfl, rfl, rfl, rfl, rfl, rfl, rfl, rfl, rfl, rfl, rfl, trivial⟩
             refine wp_region_lit ?_
             refine seq_do hA rfl rfl rfl (m_loadS hM Wp_isS_37 rfl 4 rfl (cs := [.slice sW1 ((FM 0 ps).length) cW1, .slice sW2 (([] : List UInt8).length) cW2, .slice sW3 (([] : List UInt8).length) cW3]) rfl rfl) ?_
             intro a hA
             refine seq_do hA rfl rfl rfl (does_move rfl) ?_
             intro a hA
             refine seq_do hA rfl rfl rfl (does_move rfl) ?_
             intro a hA
             have hw48 := RwD.facts hM (hRw.mono (fun c hc => (List.mem_cons_of_mem _ (List.mem_cons_of_mem _ (List.mem_cons_of_mem _ (List.mem_cons_of_mem _ (List.mem_cons_of_mem _ hc)))))))
             refine seq_call hA rfl rfl rfl (enters_func rfl rfl (fun w => by kernel_rfl)) ((show Calls Try.prog 17 _ _ (fun e w' => RetW _ e w' (0, FM 0 (ps.set kn ((dq.take 500), true)), [], [])) from files_put hpl hsd hk8 (show (dq.take 500).length ≤ 65536 by omega) ▸ put_any (cF_ := cW1) (cI := cW2) (cO := cW3) (fs := (FM 0 ps)) (il := ([] : List UInt8)) (ol := ([] : List UInt8)) (nm := nmK kn) (d := (dq.take 500)) (cd := cj) hw48.1 hw48.2.1 hw48.2.2.1 hfn ((hdq.take 500).below hM.bel))) ?_
             rintro _ w63 ⟨V49, hM50L, rfl, hM50, hnL51, hR52⟩
             obtain ⟨sF57, cF58, sI59, cI60, sO61, cO62, rfl, _⟩ := RwD.open_ hM50 hR52
             obtain ⟨D54, hg53, hnD54, hs55, hs56⟩ := grow [_, _, _, _, _] (D := D) hM hM50 (noBld_cons (by simp) (noBld_cons (by simp) (noBld_cons (by simp) (noBld_cons (by simp) (noBld_cons (by simp) hnD))))) hnL51
             replace hRw := hRw.mono hs55
             replace hH := hH.mono hs55
             replace hR52 := hR52.mono hs56
             replace hM : Mg w w63 (.obj g40 (.cells #[.slice none 0 0, .slice none 0 0, .slice none 0 0] 37) :: .row BY 1 (.slice (some ⟨g31, 0, none⟩) 2 2) 2 ((Lib.byteCells [102, UInt8.ofNat (48 + kn)])) :: .row 4 1 (.slice (some ⟨gt, 0, none⟩) 8 8) 8 ((bl ps)) :: .row 24 1 (.slice (some ⟨gh, 0, none⟩) 8 8) 8 hv :: .obj g3 (.cells #[.slice sW1 ((FM 0 ps).length) cW1, .slice sW2 (([] : List UInt8).length) cW2, .slice sW3 (([] : List UInt8).length) cW3] 37) :: D54) := hg53
             refine ⟨_, rfl, ?_⟩
             intro a hA
             refine seq_do hA rfl rfl rfl (does_move rfl) ?_
             intro a hA
             refine seq_do (v := .agg #[.slice sF57 ((FM 0 (ps.set kn ((dq.take 500), true)) : List Fl).length) cF58, .slice sI59 (([] : List UInt8).length) cI60, .slice sO61 (([] : List UInt8).length) cO62]) hA rfl rfl rfl (does_extract (vs := [.agg #[.slice sF57 ((FM 0 (ps.set kn ((dq.take 500), true)) : List Fl).length) cF58, .slice sI59 (([] : List UInt8).length) cI60, .slice sO61 (([] : List UInt8).length) cO62], .int .i64 0]) rfl rfl) ?_
             intro a hA
             refine seq_do (v := .int .i64 0) hA rfl rfl rfl (does_extract (vs := [.agg #[.slice sF57 ((FM 0 (ps.set kn ((dq.take 500), true)) : List Fl).length) cF58, .slice sI59 (([] : List UInt8).length) cI60, .slice sO61 (([] : List UInt8).length) cO62], .int .i64 0]) rfl rfl) ?_
             intro a hA
             refine s_store (us := [.slice sF57 ((FM 0 (ps.set kn ((dq.take 500), true)) : List Fl).length) cF58, .slice sI59 (([] : List UInt8).length) cI60, .slice sO61 (([] : List UInt8).length) cO62]) (L' := (.obj g40 (.cells #[.slice sF57 ((FM 0 (ps.set kn ((dq.take 500), true)) : List Fl).length) cF58, .slice sI59 (([] : List UInt8).length) cI60, .slice sO61 (([] : List UInt8).length) cO62] 37) :: .row BY 1 (.slice (some ⟨g31, 0, none⟩) 2 2) 2 ((Lib.byteCells [102, UInt8.ofNat (48 + kn)])) :: .row 4 1 (.slice (some ⟨gt, 0, none⟩) 8 8) 8 ((bl ps)) :: .row 24 1 (.slice (some ⟨gh, 0, none⟩) 8 8) 8 hv :: .obj g3 (.cells #[.slice sW1 ((FM 0 ps).length) cW1, .slice sW2 (([] : List UInt8).length) cW2, .slice sW3 (([] : List UInt8).length) cW3] 37) :: D54)) hA hM rfl rfl (m_store rfl rfl rfl (by kernel_rfl) hM 0 rfl rfl rfl) 0 rfl rfl rfl ?_
             intro w64 hM
             refine seq_do hA rfl rfl rfl (does_assign rfl) ?_
             intro a hA
             refine seq_end ?_
             refine hK47 _ _ ?_
             replace hA := hA.keep [(0, .slice sN ns.length cN), (1, .slice sR ds.length cR), (2, .int .u8 at_), (7, .pointer (some ⟨g3, 0, none⟩)), (8, .slice (some ⟨gh, 0, none⟩) 8 8), (9, .slice (some ⟨gt, 0, none⟩) 8 8), (10, .int .i64 (((i : Nat) : Int))), (11, .int .i64 (((kn : Nat) : Int))), (12, .string (nmK kn)), (13, .slice sj ((dq.take 500).length) cj), (14, .int .i64 0), (15, .pointer (some ⟨g40, 0, none⟩)), (69, .int .u8 (((sw : Nat) : Int)))] ⟨rfl, rfl, rfl, rfl, rfl, rfl, rfl, rfl, rfl, rfl, rfl, rfl, rfl, trivial⟩
             refine wp_region_lit ?_
             refine seq_do hA rfl rfl rfl (does_move rfl) ?_
             intro a hA
             refine seq_do hA rfl rfl rfl (does_move rfl) ?_
             intro a hA
             refine seq_do hA rfl rfl rfl (does_move rfl) ?_
             intro a hA
             refine seq_do hA rfl rfl rfl (does_move rfl) ?_
             intro a hA
             refine s_lit (vs := []) hA hM rfl rfl rfl (does_buildSlice rfl (by kernel_rfl)) rfl rfl (noBld_cons (by simp) (noBld_cons (by simp) (noBld_cons (by simp) (noBld_cons (by simp) (noBld_cons (by simp) hnD54))))) ?_
             intro g65 w66 hM a hA
             refine seq_do hA rfl rfl rfl (does_move rfl) ?_
             intro a hA
             refine s_append (k := 0) (q := 0) (m := (dq.take 500).length) (xs := []) (news := Lib.byteCells (dq.take 500)) (L' := fun v67 => (.row BY 1 (v67) ((0 + (dq.take 500).length)) (([] ++ Lib.byteCells (dq.take 500))) :: .obj g40 (.cells #[.slice sF57 ((FM 0 (ps.set kn ((dq.take 500), true)) : List Fl).length) cF58, .slice sI59 (([] : List UInt8).length) cI60, .slice sO61 (([] : List UInt8).length) cO62] 37) :: .row BY 1 (.slice (some ⟨g31, 0, none⟩) 2 2) 2 ((Lib.byteCells [102, UInt8.ofNat (48 + kn)])) :: .row 4 1 (.slice (some ⟨gt, 0, none⟩) 8 8) 8 ((bl ps)) :: .row 24 1 (.slice (some ⟨gh, 0, none⟩) 8 8) 8 hv :: .obj g3 (.cells #[.slice sW1 ((FM 0 ps).length) cW1, .slice sW2 (([] : List UInt8).length) cW2, .slice sW3 (([] : List UInt8).length) cW3] 37) :: D54)) hA rfl rfl rfl (m_appendA Try.underlying24 (by kernel_rfl) hM 0 rfl rfl (show Rb _ _ ((dq.take 500)) from ((hdq.take 500).below hM.bel)) rfl (by first | omega | (simp only [List.length_nil]; omega) | (simp only [List.length_take, List.length_drop, List.length_nil]; omega))) (fun _ => rfl) ?_
             intro v67 w68 hM a hA
             replace hM : Mg w w68 (.row BY 1 (v67) ((dq.take 500).length) ((Lib.byteCells (dq.take 500))) :: .obj g40 (.cells #[.slice sF57 ((FM 0 (ps.set kn ((dq.take 500), true)) : List Fl).length) cF58, .slice sI59 (([] : List UInt8).length) cI60, .slice sO61 (([] : List UInt8).length) cO62] 37) :: .row BY 1 (.slice (some ⟨g31, 0, none⟩) 2 2) 2 ((Lib.byteCells [102, UInt8.ofNat (48 + kn)])) :: .row 4 1 (.slice (some ⟨gt, 0, none⟩) 8 8) 8 ((bl ps)) :: .row 24 1 (.slice (some ⟨gh, 0, none⟩) 8 8) 8 hv :: .obj g3 (.cells #[.slice sW1 ((FM 0 ps).length) cW1, .slice sW2 (([] : List UInt8).length) cW2, .slice sW3 (([] : List UInt8).length) cW3] 37) :: D54) := by
               have h9 := hM
               rw [Nat.zero_add, List.nil_append] at h9
               exact h9
             obtain ⟨so69, ca70, rfl⟩ := owns_sliceE (hM.has 0 rfl)
             refine seq_do (v := .pointer (some ⟨gh, kn * 1, none⟩)) hA rfl rfl rfl (does_indexX Try.underlying54 (by kernel_rfl) rfl rfl rfl rfl (show kn < 8 by omega)) ?_
             intro a hA
             refine s_storeE (cs := [.slice so69 ((dq.take 500).length) ca70]) (L' := (.row BY 1 (.slice so69 ((dq.take 500).length) ca70) ((dq.take 500).length) ((Lib.byteCells (dq.take 500))) :: .obj g40 (.cells #[.slice sF57 ((FM 0 (ps.set kn ((dq.take 500), true)) : List Fl).length) cF58, .slice sI59 (([] : List UInt8).length) cI60, .slice sO61 (([] : List UInt8).length) cO62] 37) :: .row BY 1 (.slice (some ⟨g31, 0, none⟩) 2 2) 2 ((Lib.byteCells [102, UInt8.ofNat (48 + kn)])) :: .row 4 1 (.slice (some ⟨gt, 0, none⟩) 8 8) 8 ((bl ps)) :: .row 24 1 (.slice (some ⟨gh, 0, none⟩) 8 8) 8 ((over hv (kn * 1) [.slice so69 ((dq.take 500).length) ca70])) :: .obj g3 (.cells #[.slice sW1 ((FM 0 ps).length) cW1, .slice sW2 (([] : List UInt8).length) cW2, .slice sW3 (([] : List UInt8).length) cW3] 37) :: D54)) (us := []) hA hM rfl rfl (m_storeE rfl rfl rfl (by kernel_rfl) hM 4 rfl (show kn * 1 + 1 ≤ 8 * 1 by omega) rfl) 4 rfl rfl ?_
             intro w71 hM
             replace hM : Mg w w71 (.row BY 1 (.slice so69 ((dq.take 500).length) ca70) ((dq.take 500).length) ((Lib.byteCells (dq.take 500))) :: .obj g40 (.cells #[.slice sF57 ((FM 0 (ps.set kn ((dq.take 500), true)) : List Fl).length) cF58, .slice sI59 (([] : List UInt8).length) cI60, .slice sO61 (([] : List UInt8).length) cO62] 37) :: .row BY 1 (.slice (some ⟨g31, 0, none⟩) 2 2) 2 ((Lib.byteCells [102, UInt8.ofNat (48 + kn)])) :: .row 4 1 (.slice (some ⟨gt, 0, none⟩) 8 8) 8 ((bl ps)) :: .row 24 1 (.slice (some ⟨gh, 0, none⟩) 8 8) 8 ((hv.set kn (.slice so69 ((dq.take 500).length) ca70))) :: .obj g3 (.cells #[.slice sW1 ((FM 0 ps).length) cW1, .slice sW2 (([] : List UInt8).length) cW2, .slice sW3 (([] : List UInt8).length) cW3] 37) :: D54) := by
               have h9 := hM
               rw [Nat.mul_one] at h9
               exact h9
             refine seq_do (v := .pointer (some ⟨gt, kn * 1, none⟩)) hA rfl rfl rfl (does_indexX Try.underlying55 (by kernel_rfl) rfl rfl rfl rfl (show kn < 8 by omega)) ?_
             intro a hA
             refine s_storeE (cs := [.bool true]) (L' := (.row BY 1 (.slice so69 ((dq.take 500).length) ca70) ((dq.take 500).length) ((Lib.byteCells (dq.take 500))) :: .obj g40 (.cells #[.slice sF57 ((FM 0 (ps.set kn ((dq.take 500), true)) : List Fl).length) cF58, .slice sI59 (([] : List UInt8).length) cI60, .slice sO61 (([] : List UInt8).length) cO62] 37) :: .row BY 1 (.slice (some ⟨g31, 0, none⟩) 2 2) 2 ((Lib.byteCells [102, UInt8.ofNat (48 + kn)])) :: .row 4 1 (.slice (some ⟨gt, 0, none⟩) 8 8) 8 ((over (bl ps) (kn * 1) [.bool true])) :: .row 24 1 (.slice (some ⟨gh, 0, none⟩) 8 8) 8 ((hv.set kn (.slice so69 ((dq.take 500).length) ca70))) :: .obj g3 (.cells #[.slice sW1 ((FM 0 ps).length) cW1, .slice sW2 (([] : List UInt8).length) cW2, .slice sW3 (([] : List UInt8).length) cW3] 37) :: D54)) (us := []) hA hM rfl rfl (m_storeE rfl rfl rfl (by kernel_rfl) hM 3 rfl (show kn * 1 + 1 ≤ 8 * 1 by omega) rfl) 3 rfl rfl ?_
             intro w72 hM
             replace hM : Mg w w72 (.row BY 1 (.slice so69 ((dq.take 500).length) ca70) ((dq.take 500).length) ((Lib.byteCells (dq.take 500))) :: .obj g40 (.cells #[.slice sF57 ((FM 0 (ps.set kn ((dq.take 500), true)) : List Fl).length) cF58, .slice sI59 (([] : List UInt8).length) cI60, .slice sO61 (([] : List UInt8).length) cO62] 37) :: .row BY 1 (.slice (some ⟨g31, 0, none⟩) 2 2) 2 ((Lib.byteCells [102, UInt8.ofNat (48 + kn)])) :: .row 4 1 (.slice (some ⟨gt, 0, none⟩) 8 8) 8 (((bl ps).set kn (.bool true))) :: .row 24 1 (.slice (some ⟨gh, 0, none⟩) 8 8) 8 ((hv.set kn (.slice so69 ((dq.take 500).length) ca70))) :: .obj g3 (.cells #[.slice sW1 ((FM 0 ps).length) cW1, .slice sW2 (([] : List UInt8).length) cW2, .slice sW3 (([] : List UInt8).length) cW3] 37) :: D54) := by
               have h9 := hM
               rw [Nat.mul_one] at h9
               exact h9
             refine seq_end ?_
             refine hK43 _ _ ?_
             refine wp_seq_k (fun K73 hK73 => ?_)
             refine wp_seq_k (fun K74 hK74 => ?_)
             replace hA := hA.keep [(0, .slice sN ns.length cN), (1, .slice sR ds.length cR), (2, .int .u8 at_), (7, .pointer (some ⟨g3, 0, none⟩)), (8, .slice (some ⟨gh, 0, none⟩) 8 8), (9, .slice (some ⟨gt, 0, none⟩) 8 8), (10, .int .i64 (((i : Nat) : Int))), (11, .int .i64 (((kn : Nat) : Int))), (12, .string (nmK kn)), (13, .slice sj ((dq.take 500).length) cj), (14, .int .i64 0), (15, .pointer (some ⟨g40, 0, none⟩)), (69, .int .u8 (((sw : Nat) : Int)))] ⟨rfl, rfl, rfl, rfl, rfl, rfl, rfl, rfl, rfl, rfl, rfl, rfl, rfl, trivial⟩
             refine wp_region_lit ?_
             refine seq_do hA rfl rfl rfl (does_move rfl) ?_
             intro a hA
             refine seq_do (v := .bool false) hA rfl rfl rfl (does_bin rfl rfl (fun w => by kernel_rfl)) ?_
             intro a hA
             refine seq_end ?_
             refine hK74 _ _ ?_
             refine wp_cond_false (hA.ev rfl) ?_
             refine wp_skip ?_
             refine hK73 _ _ ?_
             replace hA := hA.keep [(0, .slice sN ns.length cN), (1, .slice sR ds.length cR), (2, .int .u8 at_), (7, .pointer (some ⟨g3, 0, none⟩)), (8, .slice (some ⟨gh, 0, none⟩) 8 8), (9, .slice (some ⟨gt, 0, none⟩) 8 8), (10, .int .i64 (((i : Nat) : Int))), (11, .int .i64 (((kn : Nat) : Int))), (12, .string (nmK kn)), (13, .slice sj ((dq.take 500).length) cj), (14, .int .i64 0), (15, .pointer (some ⟨g40, 0, none⟩)), (69, .int .u8 (((sw : Nat) : Int)))] ⟨rfl, rfl, rfl, rfl, rfl, rfl, rfl, rfl, rfl, rfl, rfl, rfl, rfl, trivial⟩
             refine wp_region_lit ?_
             refine seq_do hA rfl rfl rfl (m_loadS hM Wp_isS_37 rfl 1 rfl (cs := [.slice sF57 ((FM 0 (ps.set kn ((dq.take 500), true)) : List Fl).length) cF58, .slice sI59 (([] : List UInt8).length) cI60, .slice sO61 (([] : List UInt8).length) cO62]) rfl rfl) ?_
             intro a hA
             refine s_store (us := [.slice sF57 ((FM 0 (ps.set kn ((dq.take 500), true)) : List Fl).length) cF58, .slice sI59 (([] : List UInt8).length) cI60, .slice sO61 (([] : List UInt8).length) cO62]) (L' := (.row BY 1 (.slice so69 ((dq.take 500).length) ca70) ((dq.take 500).length) ((Lib.byteCells (dq.take 500))) :: .obj g40 (.cells #[.slice sF57 ((FM 0 (ps.set kn ((dq.take 500), true)) : List Fl).length) cF58, .slice sI59 (([] : List UInt8).length) cI60, .slice sO61 (([] : List UInt8).length) cO62] 37) :: .row BY 1 (.slice (some ⟨g31, 0, none⟩) 2 2) 2 ((Lib.byteCells [102, UInt8.ofNat (48 + kn)])) :: .row 4 1 (.slice (some ⟨gt, 0, none⟩) 8 8) 8 (((bl ps).set kn (.bool true))) :: .row 24 1 (.slice (some ⟨gh, 0, none⟩) 8 8) 8 ((hv.set kn (.slice so69 ((dq.take 500).length) ca70))) :: .obj g3 (.cells #[.slice sF57 ((FM 0 (ps.set kn ((dq.take 500), true)) : List Fl).length) cF58, .slice sI59 (([] : List UInt8).length) cI60, .slice sO61 (([] : List UInt8).length) cO62] 37) :: D54)) hA hM rfl rfl (m_store rfl rfl rfl (by kernel_rfl) hM 5 rfl rfl rfl) 5 rfl rfl rfl ?_
             intro w75 hM
             refine seq_end ?_
             refine hK28 _ _ ?_
             replace hA := hA.keep [(0, .slice sN ns.length cN), (1, .slice sR ds.length cR), (2, .int .u8 at_), (7, .pointer (some ⟨g3, 0, none⟩)), (8, .slice (some ⟨gh, 0, none⟩) 8 8), (9, .slice (some ⟨gt, 0, none⟩) 8 8), (10, .int .i64 (((i : Nat) : Int))), (11, .int .i64 (((kn : Nat) : Int))), (12, .string (nmK kn)), (13, .slice sj ((dq.take 500).length) cj), (14, .int .i64 0), (15, .pointer (some ⟨g40, 0, none⟩)), (69, .int .u8 (((sw : Nat) : Int)))] ⟨rfl, rfl, rfl, rfl, rfl, rfl, rfl, rfl, rfl, rfl, rfl, rfl, rfl, trivial⟩
             refine wp_region_lit ?_
             refine seq_do hA rfl rfl rfl (does_move rfl) ?_
             intro a hA
             refine seq_do (v := .int .i64 (((i + 1 : Nat) : Int))) hA rfl rfl rfl (does_bin rfl rfl (ar_add ((in_i64 (by omega) (by omega)).trans (by omega)))) ?_
             intro a hA
             refine seq_do hA rfl rfl rfl (does_assign rfl) ?_
             intro a hA
             refine seq_end ?_
             obtain ⟨D76, hED76⟩ : ∃ X, X = .row BY 1 (.slice so69 ((dq.take 500).length) ca70) ((dq.take 500).length) ((Lib.byteCells (dq.take 500))) :: D54 := ⟨_, rfl⟩
             have hnD76 : noBld D76 := hED76 ▸ noBld_cons (by simp) hnD54
             have hs77 : ∀ c ∈ D54, c ∈ D76 := fun c hc => hED76 ▸ List.mem_cons_of_mem _ hc
             have hm78 : .row BY 1 (.slice so69 ((dq.take 500).length) ca70) ((dq.take 500).length) ((Lib.byteCells (dq.take 500))) ∈ D76 := hED76 ▸ List.mem_cons_self
             replace hM : Mg w w75 (.obj g40 (.cells #[.slice sF57 ((FM 0 (ps.set kn ((dq.take 500), true)) : List Fl).length) cF58, .slice sI59 (([] : List UInt8).length) cI60, .slice sO61 (([] : List UInt8).length) cO62] 37) :: .row BY 1 (.slice (some ⟨g31, 0, none⟩) 2 2) 2 ((Lib.byteCells [102, UInt8.ofNat (48 + kn)])) :: .row 4 1 (.slice (some ⟨gt, 0, none⟩) 8 8) 8 (((bl ps).set kn (.bool true))) :: .row 24 1 (.slice (some ⟨gh, 0, none⟩) 8 8) 8 ((hv.set kn (.slice so69 ((dq.take 500).length) ca70))) :: .obj g3 (.cells #[.slice sF57 ((FM 0 (ps.set kn ((dq.take 500), true)) : List Fl).length) cF58, .slice sI59 (([] : List UInt8).length) cI60, .slice sO61 (([] : List UInt8).length) cO62] 37) :: D76) := by
               have h9 := hM.perm (List.perm_middle (l₁ := [_, _, _, _, _])).symm
               rw [← hED76] at h9
               exact h9
             replace hRw := hRw.mono hs77
             replace hR52 := hR52.mono hs77
             replace hH := hH.mono hs77
             replace hM : Mg w w75 (.row 4 1 (.slice (some ⟨gt, 0, none⟩) 8 8) 8 (((bl ps).set kn (.bool true))) :: .row 24 1 (.slice (some ⟨gh, 0, none⟩) 8 8) 8 ((hv.set kn (.slice so69 ((dq.take 500).length) ca70))) :: .obj g3 (.cells #[.slice sF57 ((FM 0 (ps.set kn ((dq.take 500), true)) : List Fl).length) cF58, .slice sI59 (([] : List UInt8).length) cI60, .slice sO61 (([] : List UInt8).length) cO62] 37) :: D76) := by
               have h9 := hM.sub (.cons _ (.cons _ (.cons_cons _ (.cons_cons _ (.cons_cons _ (.refl _))))))
               exact h9
             replace hM : Mg w w75 (.row 4 1 (.slice (some ⟨gt, 0, none⟩) 8 8) 8 ((bl (ps.set kn ((dq.take 500), true)))) :: .row 24 1 (.slice (some ⟨gh, 0, none⟩) 8 8) 8 ((hv.set kn (.slice so69 ((dq.take 500).length) ca70))) :: .obj g3 (.cells #[.slice sF57 ((FM 0 (ps.set kn ((dq.take 500), true)) : List Fl).length) cF58, .slice sI59 (([] : List UInt8).length) cI60, .slice sO61 (([] : List UInt8).length) cO62] 37) :: D76) := by
               have h9 := hM
               rw [bl_set]
               exact h9
             refine hK21 _ _ _ (by omega) ⟨i + 1, (ps.set kn ((dq.take 500), true)), (hv.set kn (.slice so69 ((dq.take 500).length) ca70)), sF57, cF58, sI59, cI60, sO61, cO62, D76, rfl, ⟨hR52, hnD76, (hH.put (by omega) hm78), (by rw [List.length_set]; exact hvl), (by rw [List.length_set]; exact hpl), (hsh.set (by omega) (fun _ => by show (dq.take 500).length ≤ _; omega)), by omega⟩, hA.keep _ ⟨rfl, rfl, rfl, rfl, rfl, rfl, rfl, trivial⟩, hM⟩
           · have hb46' := ne_of_beq_false hb46
             refine seq_do (v := .bool false) hA rfl rfl rfl (does_bin rfl rfl (fun w => (bin_eql w).trans (by rw [hb46]))) ?_
             intro a hA
             refine seq_do hA rfl rfl rfl (does_assign rfl) ?_
             intro a hA
             refine seq_end ?_
             refine hK45 _ _ ?_
             refine wp_cond_false (hA.ev rfl) ?_
             refine wp_seq_k (fun K79 hK79 => ?_)
             replace hA := hA.keep [(0, .slice sN ns.length cN), (1, .slice sR ds.length cR), (2, .int .u8 at_), (7, .pointer (some ⟨g3, 0, none⟩)), (8, .slice (some ⟨gh, 0, none⟩) 8 8), (9, .slice (some ⟨gt, 0, none⟩) 8 8), (10, .int .i64 (((i : Nat) : Int))), (11, .int .i64 (((kn : Nat) : Int))), (12, .string (nmK kn)), (13, .slice sj ((dq.take 500).length) cj), (14, .int .i64 0), (15, .pointer (some ⟨g40, 0, none⟩)), (69, .int .u8 (((sw : Nat) : Int)))] ⟨rfl, rfl, rfl, rfl, rfl, rfl, rfl, rfl, rfl, rfl, rfl, rfl, rfl, trivial⟩
             refine wp_region_lit ?_
             rcases Bool.eq_false_or_eq_true ((((sw : Nat) : Int) == 1)) with hb80 | hb80
             · have hb80' := eq_of_beq hb80
               refine seq_do (v := .bool true) hA rfl rfl rfl (does_bin rfl rfl (fun w => (bin_eql w).trans (by rw [hb80]))) ?_
               intro a hA
               refine seq_do hA rfl rfl rfl (does_assign rfl) ?_
               intro a hA
               refine seq_end ?_
               refine hK79 _ _ ?_
               refine wp_cond_true (hA.ev rfl) ?_
               refine wp_seq_k (fun K81 hK81 => ?_)
               replace hA := hA.keep [(0, .slice sN ns.length cN), (1, .slice sR ds.length cR), (2, .int .u8 at_), (7, .pointer (some ⟨g3, 0, none⟩)), (8, .slice (some ⟨gh, 0, none⟩) 8 8), (9, .slice (some ⟨gt, 0, none⟩) 8 8), (10, .int .i64 (((i : Nat) : Int))), (11, .int .i64 (((kn : Nat) : Int))), (12, .string (nmK kn)), (13, .slice sj ((dq.take 500).length) cj), (14, .int .i64 0), (15, .pointer (some ⟨g40, 0, none⟩)), (69, .int .u8 (((sw : Nat) : Int)))] ⟨rfl, rfl, rfl, rfl, rfl, rfl, rfl, rfl, rfl, rfl, rfl, rfl, rfl, trivial⟩
               refine wp_region_lit ?_
               refine seq_do hA rfl rfl rfl (m_loadS hM Wp_isS_37 rfl 4 rfl (cs := [.slice sW1 ((FM 0 ps).length) cW1, .slice sW2 (([] : List UInt8).length) cW2, .slice sW3 (([] : List UInt8).length) cW3]) rfl rfl) ?_
               intro a hA
               refine seq_do hA rfl rfl rfl (does_move rfl) ?_
               intro a hA
               have hw82 := RwD.facts hM (hRw.mono (fun c hc => (List.mem_cons_of_mem _ (List.mem_cons_of_mem _ (List.mem_cons_of_mem _ (List.mem_cons_of_mem _ (List.mem_cons_of_mem _ hc)))))))
               refine seq_call hA rfl rfl rfl (enters_func rfl rfl (fun w => by kernel_rfl)) ((show Calls Try.prog 21 _ _ (fun e w' => RetW _ e w' (7, [], [], [])) from ((files_del (h' := []) hpl hsd hpk).trans (if_neg (by decide))) ▸ del_any (cF_ := cW1) (cI := cW2) (cO := cW3) (fs := (FM 0 ps)) (il := ([] : List UInt8)) (ol := ([] : List UInt8)) (nm := nmK kn) hw82.1 hw82.2.1 hw82.2.2.1 hfn)) ?_
               rintro _ w97 ⟨V83, hM84L, rfl, hM84, hnL85, hR86⟩
               obtain ⟨sF91, cF92, sI93, cI94, sO95, cO96, rfl, _⟩ := RwD.open_ hM84 hR86
               obtain ⟨D88, hg87, hnD88, hs89, hs90⟩ := grow [_, _, _, _, _] (D := D) hM hM84 (noBld_cons (by simp) (noBld_cons (by simp) (noBld_cons (by simp) (noBld_cons (by simp) (noBld_cons (by simp) hnD))))) hnL85
               replace hRw := hRw.mono hs89
               replace hH := hH.mono hs89
               replace hR86 := hR86.mono hs90
               replace hM : Mg w w97 (.obj g40 (.cells #[.slice none 0 0, .slice none 0 0, .slice none 0 0] 37) :: .row BY 1 (.slice (some ⟨g31, 0, none⟩) 2 2) 2 ((Lib.byteCells [102, UInt8.ofNat (48 + kn)])) :: .row 4 1 (.slice (some ⟨gt, 0, none⟩) 8 8) 8 ((bl ps)) :: .row 24 1 (.slice (some ⟨gh, 0, none⟩) 8 8) 8 hv :: .obj g3 (.cells #[.slice sW1 ((FM 0 ps).length) cW1, .slice sW2 (([] : List UInt8).length) cW2, .slice sW3 (([] : List UInt8).length) cW3] 37) :: D88) := hg87
               refine ⟨_, rfl, ?_⟩
               intro a hA
               refine seq_do hA rfl rfl rfl (does_move rfl) ?_
               intro a hA
               refine seq_do (v := .agg #[.slice sF91 (([] : List Fl).length) cF92, .slice sI93 (([] : List UInt8).length) cI94, .slice sO95 (([] : List UInt8).length) cO96]) hA rfl rfl rfl (does_extract (vs := [.agg #[.slice sF91 (([] : List Fl).length) cF92, .slice sI93 (([] : List UInt8).length) cI94, .slice sO95 (([] : List UInt8).length) cO96], .int .i64 7]) rfl rfl) ?_
               intro a hA
               refine seq_do (v := .int .i64 7) hA rfl rfl rfl (does_extract (vs := [.agg #[.slice sF91 (([] : List Fl).length) cF92, .slice sI93 (([] : List UInt8).length) cI94, .slice sO95 (([] : List UInt8).length) cO96], .int .i64 7]) rfl rfl) ?_
               intro a hA
               refine s_store (us := [.slice sF91 (([] : List Fl).length) cF92, .slice sI93 (([] : List UInt8).length) cI94, .slice sO95 (([] : List UInt8).length) cO96]) (L' := (.obj g40 (.cells #[.slice sF91 (([] : List Fl).length) cF92, .slice sI93 (([] : List UInt8).length) cI94, .slice sO95 (([] : List UInt8).length) cO96] 37) :: .row BY 1 (.slice (some ⟨g31, 0, none⟩) 2 2) 2 ((Lib.byteCells [102, UInt8.ofNat (48 + kn)])) :: .row 4 1 (.slice (some ⟨gt, 0, none⟩) 8 8) 8 ((bl ps)) :: .row 24 1 (.slice (some ⟨gh, 0, none⟩) 8 8) 8 hv :: .obj g3 (.cells #[.slice sW1 ((FM 0 ps).length) cW1, .slice sW2 (([] : List UInt8).length) cW2, .slice sW3 (([] : List UInt8).length) cW3] 37) :: D88)) hA hM rfl rfl (m_store rfl rfl rfl (by kernel_rfl) hM 0 rfl rfl rfl) 0 rfl rfl rfl ?_
               intro w98 hM
               refine seq_do hA rfl rfl rfl (does_assign rfl) ?_
               intro a hA
               refine seq_end ?_
               refine hK81 _ _ ?_
               refine wp_seq_k (fun K99 hK99 => ?_)
               refine wp_seq_k (fun K100 hK100 => ?_)
               replace hA := hA.keep [(0, .slice sN ns.length cN), (1, .slice sR ds.length cR), (2, .int .u8 at_), (7, .pointer (some ⟨g3, 0, none⟩)), (8, .slice (some ⟨gh, 0, none⟩) 8 8), (9, .slice (some ⟨gt, 0, none⟩) 8 8), (10, .int .i64 (((i : Nat) : Int))), (11, .int .i64 (((kn : Nat) : Int))), (12, .string (nmK kn)), (13, .slice sj ((dq.take 500).length) cj), (14, .int .i64 7), (15, .pointer (some ⟨g40, 0, none⟩)), (69, .int .u8 (((sw : Nat) : Int)))] ⟨rfl, rfl, rfl, rfl, rfl, rfl, rfl, rfl, rfl, rfl, rfl, rfl, rfl, trivial⟩
               refine wp_region_lit ?_
               refine seq_do hA rfl rfl rfl (does_move rfl) ?_
               intro a hA
               refine seq_do (v := .bool false) hA rfl rfl rfl (does_bin rfl rfl (fun w => by kernel_rfl)) ?_
               intro a hA
               refine seq_do hA rfl rfl rfl (does_move rfl) ?_
               intro a hA
               refine seq_do hA rfl rfl rfl (does_move rfl) ?_
               intro a hA
               refine seq_do (v := .pointer (some ⟨gt, kn * 1, none⟩)) hA rfl rfl rfl (does_indexX Try.underlying55 (by kernel_rfl) rfl rfl rfl rfl (show kn < 8 by omega)) ?_
               intro a hA
               refine seq_do (v := .bool false) hA rfl rfl rfl (m_loadX hM 2 rfl rfl (show (bl ps)[kn * 1]? = some (.bool false) from by rw [Nat.mul_one]; exact bl_at hpk) Wp_is1_4 rfl) ?_
               intro a hA
               refine seq_do (v := .bool false) hA rfl rfl rfl (does_bin rfl rfl (bin_neqB Try.underlying4)) ?_
               intro a hA
               refine seq_end ?_
               refine hK100 _ _ ?_
               refine wp_cond_false (hA.ev rfl) ?_
               refine wp_skip ?_
               refine hK99 _ _ ?_
               refine wp_seq_k (fun K101 hK101 => ?_)
               refine wp_seq_k (fun K102 hK102 => ?_)
               replace hA := hA.keep [(0, .slice sN ns.length cN), (1, .slice sR ds.length cR), (2, .int .u8 at_), (7, .pointer (some ⟨g3, 0, none⟩)), (8, .slice (some ⟨gh, 0, none⟩) 8 8), (9, .slice (some ⟨gt, 0, none⟩) 8 8), (10, .int .i64 (((i : Nat) : Int))), (11, .int .i64 (((kn : Nat) : Int))), (12, .string (nmK kn)), (13, .slice sj ((dq.take 500).length) cj), (14, .int .i64 7), (15, .pointer (some ⟨g40, 0, none⟩)), (69, .int .u8 (((sw : Nat) : Int)))] ⟨rfl, rfl, rfl, rfl, rfl, rfl, rfl, rfl, rfl, rfl, rfl, rfl, rfl, trivial⟩
               refine wp_region_lit ?_
               refine seq_do hA rfl rfl rfl (does_move rfl) ?_
               intro a hA
               refine seq_do (v := .bool true) hA rfl rfl rfl (does_bin rfl rfl (fun w => by kernel_rfl)) ?_
               intro a hA
               refine seq_end ?_
               refine hK102 _ _ ?_
               refine wp_cond_true (hA.ev rfl) ?_
               refine wp_exit ?_
               refine hK28 _ _ ?_
               replace hA := hA.keep [(0, .slice sN ns.length cN), (1, .slice sR ds.length cR), (2, .int .u8 at_), (7, .pointer (some ⟨g3, 0, none⟩)), (8, .slice (some ⟨gh, 0, none⟩) 8 8), (9, .slice (some ⟨gt, 0, none⟩) 8 8), (10, .int .i64 (((i : Nat) : Int))), (11, .int .i64 (((kn : Nat) : Int))), (12, .string (nmK kn)), (13, .slice sj ((dq.take 500).length) cj), (14, .int .i64 7), (15, .pointer (some ⟨g40, 0, none⟩)), (69, .int .u8 (((sw : Nat) : Int)))] ⟨rfl, rfl, rfl, rfl, rfl, rfl, rfl, rfl, rfl, rfl, rfl, rfl, rfl, trivial⟩
               refine wp_region_lit ?_
               refine seq_do hA rfl rfl rfl (does_move rfl) ?_
               intro a hA
               refine seq_do (v := .int .i64 (((i + 1 : Nat) : Int))) hA rfl rfl rfl (does_bin rfl rfl (ar_add ((in_i64 (by omega) (by omega)).trans (by omega)))) ?_
               intro a hA
               refine seq_do hA rfl rfl rfl (does_assign rfl) ?_
               intro a hA
               refine seq_end ?_
               replace hM : Mg w w98 (.row 4 1 (.slice (some ⟨gt, 0, none⟩) 8 8) 8 ((bl ps)) :: .row 24 1 (.slice (some ⟨gh, 0, none⟩) 8 8) 8 hv :: .obj g3 (.cells #[.slice sW1 ((FM 0 ps).length) cW1, .slice sW2 (([] : List UInt8).length) cW2, .slice sW3 (([] : List UInt8).length) cW3] 37) :: D88) := by
                 have h9 := hM.sub (.cons _ (.cons _ (.cons_cons _ (.cons_cons _ (.cons_cons _ (.refl _))))))
                 exact h9
               refine hK21 _ _ _ (by omega) ⟨i + 1, ps, hv, sW1, cW1, sW2, cW2, sW3, cW3, D88, rfl, ⟨hRw, hnD88, hH, hvl, hpl, (hsh.mono (by omega)), by omega⟩, hA.keep _ ⟨rfl, rfl, rfl, rfl, rfl, rfl, rfl, trivial⟩, hM⟩
             · have hb80' := ne_of_beq_false hb80
               refine seq_do (v := .bool false) hA rfl rfl rfl (does_bin rfl rfl (fun w => (bin_eql w).trans (by rw [hb80]))) ?_
               intro a hA
               refine seq_do hA rfl rfl rfl (does_assign rfl) ?_
               intro a hA
               refine seq_end ?_
               refine hK79 _ _ ?_
               refine wp_cond_false (hA.ev rfl) ?_
               refine wp_seq_k (fun K103 hK103 => ?_)
               refine wp_seq_k (fun K104 hK104 => ?_)
               replace hA := hA.keep [(0, .slice sN ns.length cN), (1, .slice sR ds.length cR), (2, .int .u8 at_), (7, .pointer (some ⟨g3, 0, none⟩)), (8, .slice (some ⟨gh, 0, none⟩) 8 8), (9, .slice (some ⟨gt, 0, none⟩) 8 8), (10, .int .i64 (((i : Nat) : Int))), (11, .int .i64 (((kn : Nat) : Int))), (12, .string (nmK kn)), (13, .slice sj ((dq.take 500).length) cj), (14, .int .i64 0), (15, .pointer (some ⟨g40, 0, none⟩)), (69, .int .u8 (((sw : Nat) : Int)))] ⟨rfl, rfl, rfl, rfl, rfl, rfl, rfl, rfl, rfl, rfl, rfl, rfl, rfl, trivial⟩
               refine wp_region_lit ?_
               refine seq_do hA rfl rfl rfl (does_move rfl) ?_
               intro a hA
               refine seq_do hA rfl rfl rfl (does_move rfl) ?_
               intro a hA
               refine seq_do (v := .pointer (some ⟨gt, kn * 1, none⟩)) hA rfl rfl rfl (does_indexX Try.underlying55 (by kernel_rfl) rfl rfl rfl rfl (show kn < 8 by omega)) ?_
               intro a hA
               refine seq_do (v := .bool false) hA rfl rfl rfl (m_loadX hM 2 rfl rfl (show (bl ps)[kn * 1]? = some (.bool false) from by rw [Nat.mul_one]; exact bl_at hpk) Wp_is1_4 rfl) ?_
               intro a hA
               refine seq_do (v := .bool true) hA rfl rfl rfl (does_un rfl un_not) ?_
               intro a hA
               refine seq_end ?_
               refine hK104 _ _ ?_
               refine wp_cond_true (hA.ev rfl) ?_
               refine wp_exit ?_
               refine hK28 _ _ ?_
               replace hA := hA.keep [(0, .slice sN ns.length cN), (1, .slice sR ds.length cR), (2, .int .u8 at_), (7, .pointer (some ⟨g3, 0, none⟩)), (8, .slice (some ⟨gh, 0, none⟩) 8 8), (9, .slice (some ⟨gt, 0, none⟩) 8 8), (10, .int .i64 (((i : Nat) : Int))), (11, .int .i64 (((kn : Nat) : Int))), (12, .string (nmK kn)), (13, .slice sj ((dq.take 500).length) cj), (14, .int .i64 0), (15, .pointer (some ⟨g40, 0, none⟩)), (69, .int .u8 (((sw : Nat) : Int)))] ⟨rfl, rfl, rfl, rfl, rfl, rfl, rfl, rfl, rfl, rfl, rfl, rfl, rfl, trivial⟩
               refine wp_region_lit ?_
               refine seq_do hA rfl rfl rfl (does_move rfl) ?_
               intro a hA
               refine seq_do (v := .int .i64 (((i + 1 : Nat) : Int))) hA rfl rfl rfl (does_bin rfl rfl (ar_add ((in_i64 (by omega) (by omega)).trans (by omega)))) ?_
               intro a hA
               refine seq_do hA rfl rfl rfl (does_assign rfl) ?_
               intro a hA
               refine seq_end ?_
               replace hM : Mg w w42 (.row 4 1 (.slice (some ⟨gt, 0, none⟩) 8 8) 8 ((bl ps)) :: .row 24 1 (.slice (some ⟨gh, 0, none⟩) 8 8) 8 hv :: .obj g3 (.cells #[.slice sW1 ((FM 0 ps).length) cW1, .slice sW2 (([] : List UInt8).length) cW2, .slice sW3 (([] : List UInt8).length) cW3] 37) :: D) := by
                 have h9 := hM.sub (.cons _ (.cons _ (.cons_cons _ (.cons_cons _ (.cons_cons _ (.refl _))))))
                 exact h9
               refine hK21 _ _ _ (by omega) ⟨i + 1, ps, hv, sW1, cW1, sW2, cW2, sW3, cW3, D, rfl, ⟨hRw, hnD, hH, hvl, hpl, (hsh.mono (by omega)), by omega⟩, hA.keep _ ⟨rfl, rfl, rfl, rfl, rfl, rfl, rfl, trivial⟩, hM⟩
         refine wp_cond_split (t := decide (500 < ((dq.length : Nat) : Int))) (hA.ev rfl) (fun hc105 => ?_) (fun hc105 => ?_)
         · have hc105' := of_decide_eq_true hc105
           replace hA := hA.keep [(0, .slice sN ns.length cN), (1, .slice sR ds.length cR), (2, .int .u8 at_), (7, .pointer (some ⟨g3, 0, none⟩)), (8, .slice (some ⟨gh, 0, none⟩) 8 8), (9, .slice (some ⟨gt, 0, none⟩) 8 8), (10, .int .i64 (((i : Nat) : Int))), (11, .int .i64 (((kn : Nat) : Int))), (12, .string (nmK kn)), (13, .slice sj dq.length cj)] ⟨rfl, rfl, rfl, rfl, rfl, rfl, rfl, rfl, rfl, rfl, trivial⟩
           refine wp_region_lit ?_
           refine seq_do hA rfl rfl rfl (does_move rfl) ?_
           intro a hA
           refine seq_do (v := .slice sj ((dq.take 500).length) cj) hA rfl rfl rfl (does_upto (sz := 1) (hi := (dq.take 500).length) Try.underlying24 (by kernel_rfl) rfl rfl (by rw [List.length_take]; omega) (by rw [List.length_take]; omega)) ?_
           intro a hA
           have hl500 : (dq.take 500).length = 500 := by rw [List.length_take]; omega
           refine seq_do hA rfl rfl rfl (does_assign rfl) ?_
           intro a hA
           refine seq_end ?_
           exact hJ36 _ _ ⟨hA.keep _ ⟨rfl, rfl, rfl, rfl, rfl, rfl, rfl, rfl, rfl, rfl, trivial⟩, hM⟩
         · have hc105' := of_decide_eq_false hc105
           refine wp_skip ?_
           rw [show dq.length = (dq.take 500).length from by rw [List.take_of_length_le (by omega)]] at hA
           exact hJ36 _ _ ⟨hA.keep _ ⟨rfl, rfl, rfl, rfl, rfl, rfl, rfl, rfl, rfl, rfl, trivial⟩, hM⟩
       · have hhl : hh.length ≤ 500 * i := hsh _ (List.mem_of_getElem? hpk) rfl
         obtain ⟨vh, hvh, hmh⟩ := hH kn hh hpk
         obtain ⟨sh, ch, rfl, _, hcl⟩ := rb_mem hM (List.mem_cons_of_mem _ (List.mem_cons_of_mem _ (List.mem_cons_of_mem _ hmh)))
         refine seq_do (v := .int .u8 (((48 + kn : Nat) : Int))) hA rfl rfl rfl (does_convert rfl (ar_conv Try.underlying3 Try.underlying5 (in_u8 (by omega) (by omega)))) ?_
         intro a hA
         refine s_lit (vs := [.int .u8 102, .int .u8 (((48 + kn : Nat) : Int))]) hA hM rfl rfl rfl (does_buildSlice rfl (by kernel_rfl)) rfl rfl (noBld_cons (by simp) (noBld_cons (by simp) (noBld_cons (by simp) hnD))) ?_
         intro g106 w107 hM a hA
         replace hM : Mg w w107 (.row BY 1 (.slice (some ⟨g106, 0, none⟩) 2 2) 2 ((Lib.byteCells [102, UInt8.ofNat (48 + kn)])) :: .row 4 1 (.slice (some ⟨gt, 0, none⟩) 8 8) 8 ((bl ps)) :: .row 24 1 (.slice (some ⟨gh, 0, none⟩) 8 8) 8 hv :: .obj g3 (.cells #[.slice sW1 ((FM 0 ps).length) cW1, .slice sW2 (([] : List UInt8).length) cW2, .slice sW3 (([] : List UInt8).length) cW3] 37) :: D) := by
           have h9 := hM
           rw [byteK (k := kn) (by omega)] at h9
           exact h9
         refine seq_do (v := .string (nmK kn)) hA rfl rfl rfl (does_convC rfl (conv_bytes Try.underlying24 Try.underlying5 Try.underlying9 (l := [102, UInt8.ofNat (48 + kn)]) (rb_row hM 0 rfl).1 2)) ?_
         intro a hA
         refine seq_do hA rfl rfl rfl (does_assign rfl) ?_
         intro a hA
         refine seq_end ?_
         refine hK30 _ _ ?_
         refine wp_seq_k (fun K108 hK108 => ?_)
         replace hA := hA.keep [(0, .slice sN ns.length cN), (1, .slice sR ds.length cR), (2, .int .u8 at_), (7, .pointer (some ⟨g3, 0, none⟩)), (8, .slice (some ⟨gh, 0, none⟩) 8 8), (9, .slice (some ⟨gt, 0, none⟩) 8 8), (10, .int .i64 (((i : Nat) : Int))), (11, .int .i64 (((kn : Nat) : Int))), (12, .string (nmK kn))] ⟨rfl, rfl, rfl, rfl, rfl, rfl, rfl, rfl, rfl, trivial⟩
         refine wp_region_lit ?_
         refine seq_do hA rfl rfl rfl (does_move rfl) ?_
         intro a hA
         refine seq_do hA rfl rfl rfl (does_move rfl) ?_
         intro a hA
         obtain ⟨dq, hdq0⟩ : ∃ dq, ds[i]? = some dq := ⟨_, List.getElem?_eq_getElem (by omega)⟩
         obtain ⟨br, or_, sj, cj, hr1, hr2, hr3, hdq, hdc⟩ := hR.pos _ _ hdq0
         refine seq_do (v := .pointer (some ⟨br, or_ + i, none⟩)) hA rfl rfl rfl (does_indexRow Try.underlying54 (by kernel_rfl) rfl rfl rfl hr1 (show i < ds.length by omega)) ?_
         intro a hA
         refine seq_do (v := .slice sj dq.length cj) hA rfl rfl rfl (m_loadR hM hr2 hr3 Wp_is1_24 rfl) ?_
         intro a hA
         refine seq_do hA rfl rfl rfl (does_assign rfl) ?_
         intro a hA
         refine seq_end ?_
         refine hK108 _ _ ?_
         refine wp_seq_k (fun K109 hK109 => ?_)
         refine wp_seq_k (fun K110 hK110 => ?_)
         replace hA := hA.keep [(0, .slice sN ns.length cN), (1, .slice sR ds.length cR), (2, .int .u8 at_), (7, .pointer (some ⟨g3, 0, none⟩)), (8, .slice (some ⟨gh, 0, none⟩) 8 8), (9, .slice (some ⟨gt, 0, none⟩) 8 8), (10, .int .i64 (((i : Nat) : Int))), (11, .int .i64 (((kn : Nat) : Int))), (12, .string (nmK kn)), (13, .slice sj dq.length cj)] ⟨rfl, rfl, rfl, rfl, rfl, rfl, rfl, rfl, rfl, rfl, trivial⟩
         refine wp_region_lit ?_
         refine seq_do hA rfl rfl rfl (does_move rfl) ?_
         intro a hA
         refine seq_do (v := .int .i64 (((dq.length : Nat) : Int))) hA rfl rfl rfl (does_len Try.underlying24 rfl) ?_
         intro a hA
         refine seq_do (v := .bool (decide (500 < ((dq.length : Nat) : Int)))) hA rfl rfl rfl (does_bin rfl rfl bin_gtr) ?_
         intro a hA
         refine seq_end ?_
         refine hK110 _ _ ?_
         have hJ111 : ∀ a w1, (Sl a 216 [(0, .slice sN ns.length cN), (1, .slice sR ds.length cR), (2, .int .u8 at_), (7, .pointer (some ⟨g3, 0, none⟩)), (8, .slice (some ⟨gh, 0, none⟩) 8 8), (9, .slice (some ⟨gt, 0, none⟩) 8 8), (10, .int .i64 (((i : Nat) : Int))), (11, .int .i64 (((kn : Nat) : Int))), (12, .string (nmK kn)), (13, .slice sj ((dq.take 500).length) cj)] ∧ Mg w w1 (.row BY 1 (.slice (some ⟨g106, 0, none⟩) 2 2) 2 ((Lib.byteCells [102, UInt8.ofNat (48 + kn)])) :: .row 4 1 (.slice (some ⟨gt, 0, none⟩) 8 8) 8 ((bl ps)) :: .row 24 1 (.slice (some ⟨gh, 0, none⟩) 8 8) 8 hv :: .obj g3 (.cells #[.slice sW1 ((FM 0 ps).length) cW1, .slice sW2 (([] : List UInt8).length) cW2, .slice sW3 (([] : List UInt8).length) cW3] 37) :: D)) → K109 a w1 := by
           clear hA hM
           rintro a w112 ⟨hA, hM⟩
           have hl5 : (dq.take 500).length ≤ 500 := by rw [List.length_take]; omega
           refine hK109 _ _ ?_
           refine wp_seq_k (fun K113 hK113 => ?_)
           refine wp_region_lit ?_
           refine seq_do hA rfl rfl rfl (does_assign rfl) ?_
           intro a hA
           refine seq_end ?_
           refine hK113 _ _ ?_
           refine wp_seq_k (fun K114 hK114 => ?_)
           refine wp_region_lit ?_
           refine seq_do (v := .agg #[.slice none 0 0, .slice none 0 0, .slice none 0 0]) hA rfl rfl rfl (does_build rfl (fun w => by kernel_rfl)) ?_
           intro a hA
           refine s_new (vs := [.slice none 0 0, .slice none 0 0, .slice none 0 0]) (t := 37) hA hM rfl rfl rfl (fun g => .pointer (some ⟨g, 0, none⟩)) (does_alloc (z := .agg #[.slice none 0 0, .slice none 0 0, .slice none 0 0]) (by kernel_rfl) rfl) (by decide) ?_
           intro g115 w116 hM a hA
           refine s_store (us := [.slice none 0 0, .slice none 0 0, .slice none 0 0]) (L' := (.obj g115 (.cells #[.slice none 0 0, .slice none 0 0, .slice none 0 0] 37) :: .row BY 1 (.slice (some ⟨g106, 0, none⟩) 2 2) 2 ((Lib.byteCells [102, UInt8.ofNat (48 + kn)])) :: .row 4 1 (.slice (some ⟨gt, 0, none⟩) 8 8) 8 ((bl ps)) :: .row 24 1 (.slice (some ⟨gh, 0, none⟩) 8 8) 8 hv :: .obj g3 (.cells #[.slice sW1 ((FM 0 ps).length) cW1, .slice sW2 (([] : List UInt8).length) cW2, .slice sW3 (([] : List UInt8).length) cW3] 37) :: D)) hA hM rfl rfl (m_store rfl rfl rfl (by kernel_rfl) hM 0 rfl rfl rfl) 0 rfl rfl rfl ?_
           intro w117 hM
           refine seq_end ?_
           refine hK114 _ _ ?_
           refine wp_seq_k (fun K118 hK118 => ?_)
           refine wp_seq_k (fun K119 hK119 => ?_)
           replace hA := hA.keep [(0, .slice sN ns.length cN), (1, .slice sR ds.length cR), (2, .int .u8 at_), (7, .pointer (some ⟨g3, 0, none⟩)), (8, .slice (some ⟨gh, 0, none⟩) 8 8), (9, .slice (some ⟨gt, 0, none⟩) 8 8), (10, .int .i64 (((i : Nat) : Int))), (11, .int .i64 (((kn : Nat) : Int))), (12, .string (nmK kn)), (13, .slice sj ((dq.take 500).length) cj), (14, .int .i64 0), (15, .pointer (some ⟨g115, 0, none⟩))] ⟨rfl, rfl, rfl, rfl, rfl, rfl, rfl, rfl, rfl, rfl, rfl, rfl, trivial⟩
           refine wp_region_lit ?_
           refine seq_do hA rfl rfl rfl (does_move rfl) ?_
           intro a hA
           refine seq_do hA rfl rfl rfl (does_move rfl) ?_
           intro a hA
           refine seq_do (v := .pointer (some ⟨bn, on_ + i, none⟩)) hA rfl rfl rfl (does_indexRow Try.underlying24 (by kernel_rfl) rfl rfl rfl hnA (show i < ns.length by omega)) ?_
           intro a hA
           refine seq_do (v := .int .u8 ((((ns.getD i 0).toNat : Nat) : Int))) hA rfl rfl rfl (m_loadR hM hnB (hnC i (by omega)) Wp_is1_5 rfl) ?_
           intro a hA
           refine seq_do (v := .int .u8 ((((ns.getD i 0).toNat / 8 : Nat) : Int))) hA rfl rfl rfl (does_bin rfl rfl (ar_quo (by decide) ((congrArg IntKind.u8.wrap (Int.tdiv_eq_ediv_of_nonneg (by omega))).trans ((in_u8 (by omega) (by omega)).trans (by omega))))) ?_
           intro a hA
           obtain ⟨sw, hsw⟩ : ∃ sw, sw = (ns.getD i 0).toNat / 8 % 3 := ⟨_, rfl⟩
           refine seq_do (v := .int .u8 (((sw : Nat) : Int))) hA rfl rfl rfl (does_bin rfl rfl (ar_rem (by decide) ((Int.tmod_eq_emod_of_nonneg (by omega)).trans (by omega)))) ?_
           intro a hA
           refine seq_end ?_
           refine hK119 _ _ ?_
           refine wp_block ?_
           refine wp_seq_k (fun K120 hK120 => ?_)
           replace hA := hA.keep [(0, .slice sN ns.length cN), (1, .slice sR ds.length cR), (2, .int .u8 at_), (7, .pointer (some ⟨g3, 0, none⟩)), (8, .slice (some ⟨gh, 0, none⟩) 8 8), (9, .slice (some ⟨gt, 0, none⟩) 8 8), (10, .int .i64 (((i : Nat) : Int))), (11, .int .i64 (((kn : Nat) : Int))), (12, .string (nmK kn)), (13, .slice sj ((dq.take 500).length) cj), (14, .int .i64 0), (15, .pointer (some ⟨g115, 0, none⟩)), (69, .int .u8 (((sw : Nat) : Int)))] ⟨rfl, rfl, rfl, rfl, rfl, rfl, rfl, rfl, rfl, rfl, rfl, rfl, rfl, trivial⟩
           refine wp_region_lit ?_
           rcases Bool.eq_false_or_eq_true ((((sw : Nat) : Int) == 0)) with hb121 | hb121
           · have hb121' := eq_of_beq hb121
             refine seq_do (v := .bool true) hA rfl rfl rfl (does_bin rfl rfl (fun w => (bin_eql w).trans (by rw [hb121]))) ?_
             intro a hA
             refine seq_do hA rfl rfl rfl (does_assign rfl) ?_
             intro a hA
             refine seq_end ?_
             refine hK120 _ _ ?_
             refine wp_cond_true (hA.ev rfl) ?_
             refine wp_seq_k (fun K122 hK122 => ?_)
             replace hA := hA.keep [(0, .slice sN ns.length cN), (1, .slice sR ds.length cR), (2, .int .u8 at_), (7, .pointer (some ⟨g3, 0, none⟩)), (8, .slice (some ⟨gh, 0, none⟩) 8 8), (9, .slice (some ⟨gt, 0, none⟩) 8 8), (10, .int .i64 (((i : Nat) : Int))), (11, .int .i64 (((kn : Nat) : Int))), (12, .string (nmK kn)), (13, .slice sj ((dq.take 500).length) cj), (14, .int .i64 0), (15, .pointer (some ⟨g115, 0, none⟩)), (69, .int .u8 (((sw : Nat) : Int)))] ⟨rfl, rfl, rfl, rfl, rfl, rfl, rfl, rfl, rfl, rfl, rfl, rfl, rfl, trivial⟩
             refine wp_region_lit ?_
             refine seq_do hA rfl rfl rfl (m_loadS hM Wp_isS_37 rfl 4 rfl (cs := [.slice sW1 ((FM 0 ps).length) cW1, .slice sW2 (([] : List UInt8).length) cW2, .slice sW3 (([] : List UInt8).length) cW3]) rfl rfl) ?_
             intro a hA
             refine seq_do hA rfl rfl rfl (does_move rfl) ?_
             intro a hA
             refine seq_do hA rfl rfl rfl (does_move rfl) ?_
             intro a hA
             have hw123 := RwD.facts hM (hRw.mono (fun c hc => (List.mem_cons_of_mem _ (List.mem_cons_of_mem _ (List.mem_cons_of_mem _ (List.mem_cons_of_mem _ (List.mem_cons_of_mem _ hc)))))))
             refine seq_call hA rfl rfl rfl (enters_func rfl rfl (fun w => by kernel_rfl)) ((show Calls Try.prog 17 _ _ (fun e w' => RetW _ e w' (0, FM 0 (ps.set kn ((dq.take 500), true)), [], [])) from files_put hpl hsd hk8 (show (dq.take 500).length ≤ 65536 by omega) ▸ put_any (cF_ := cW1) (cI := cW2) (cO := cW3) (fs := (FM 0 ps)) (il := ([] : List UInt8)) (ol := ([] : List UInt8)) (nm := nmK kn) (d := (dq.take 500)) (cd := cj) hw123.1 hw123.2.1 hw123.2.2.1 hfn ((hdq.take 500).below hM.bel))) ?_
             rintro _ w138 ⟨V124, hM125L, rfl, hM125, hnL126, hR127⟩
             obtain ⟨sF132, cF133, sI134, cI135, sO136, cO137, rfl, _⟩ := RwD.open_ hM125 hR127
             obtain ⟨D129, hg128, hnD129, hs130, hs131⟩ := grow [_, _, _, _, _] (D := D) hM hM125 (noBld_cons (by simp) (noBld_cons (by simp) (noBld_cons (by simp) (noBld_cons (by simp) (noBld_cons (by simp) hnD))))) hnL126
             replace hRw := hRw.mono hs130
             replace hmh := hs130 _ hmh
             replace hH := hH.mono hs130
             replace hR127 := hR127.mono hs131
             replace hM : Mg w w138 (.obj g115 (.cells #[.slice none 0 0, .slice none 0 0, .slice none 0 0] 37) :: .row BY 1 (.slice (some ⟨g106, 0, none⟩) 2 2) 2 ((Lib.byteCells [102, UInt8.ofNat (48 + kn)])) :: .row 4 1 (.slice (some ⟨gt, 0, none⟩) 8 8) 8 ((bl ps)) :: .row 24 1 (.slice (some ⟨gh, 0, none⟩) 8 8) 8 hv :: .obj g3 (.cells #[.slice sW1 ((FM 0 ps).length) cW1, .slice sW2 (([] : List UInt8).length) cW2, .slice sW3 (([] : List UInt8).length) cW3] 37) :: D129) := hg128
             refine ⟨_, rfl, ?_⟩
             intro a hA
             refine seq_do hA rfl rfl rfl (does_move rfl) ?_
             intro a hA
             refine seq_do (v := .agg #[.slice sF132 ((FM 0 (ps.set kn ((dq.take 500), true)) : List Fl).length) cF133, .slice sI134 (([] : List UInt8).length) cI135, .slice sO136 (([] : List UInt8).length) cO137]) hA rfl rfl rfl (does_extract (vs := [.agg #[.slice sF132 ((FM 0 (ps.set kn ((dq.take 500), true)) : List Fl).length) cF133, .slice sI134 (([] : List UInt8).length) cI135, .slice sO136 (([] : List UInt8).length) cO137], .int .i64 0]) rfl rfl) ?_
             intro a hA
             refine seq_do (v := .int .i64 0) hA rfl rfl rfl (does_extract (vs := [.agg #[.slice sF132 ((FM 0 (ps.set kn ((dq.take 500), true)) : List Fl).length) cF133, .slice sI134 (([] : List UInt8).length) cI135, .slice sO136 (([] : List UInt8).length) cO137], .int .i64 0]) rfl rfl) ?_
             intro a hA
             refine s_store (us := [.slice sF132 ((FM 0 (ps.set kn ((dq.take 500), true)) : List Fl).length) cF133, .slice sI134 (([] : List UInt8).length) cI135, .slice sO136 (([] : List UInt8).length) cO137]) (L' := (.obj g115 (.cells #[.slice sF132 ((FM 0 (ps.set kn ((dq.take 500), true)) : List Fl).length) cF133, .slice sI134 (([] : List UInt8).length) cI135, .slice sO136 (([] : List UInt8).length) cO137] 37) :: .row BY 1 (.slice (some ⟨g106, 0, none⟩) 2 2) 2 ((Lib.byteCells [102, UInt8.ofNat (48 + kn)])) :: .row 4 1 (.slice (some ⟨gt, 0, none⟩) 8 8) 8 ((bl ps)) :: .row 24 1 (.slice (some ⟨gh, 0, none⟩) 8 8) 8 hv :: .obj g3 (.cells #[.slice sW1 ((FM 0 ps).length) cW1, .slice sW2 (([] : List UInt8).length) cW2, .slice sW3 (([] : List UInt8).length) cW3] 37) :: D129)) hA hM rfl rfl (m_store rfl rfl rfl (by kernel_rfl) hM 0 rfl rfl rfl) 0 rfl rfl rfl ?_
             intro w139 hM
             refine seq_do hA rfl rfl rfl (does_assign rfl) ?_
             intro a hA
             refine seq_end ?_
             refine hK122 _ _ ?_
             replace hA := hA.keep [(0, .slice sN ns.length cN), (1, .slice sR ds.length cR), (2, .int .u8 at_), (7, .pointer (some ⟨g3, 0, none⟩)), (8, .slice (some ⟨gh, 0, none⟩) 8 8), (9, .slice (some ⟨gt, 0, none⟩) 8 8), (10, .int .i64 (((i : Nat) : Int))), (11, .int .i64 (((kn : Nat) : Int))), (12, .string (nmK kn)), (13, .slice sj ((dq.take 500).length) cj), (14, .int .i64 0), (15, .pointer (some ⟨g115, 0, none⟩)), (69, .int .u8 (((sw : Nat) : Int)))] ⟨rfl, rfl, rfl, rfl, rfl, rfl, rfl, rfl, rfl, rfl, rfl, rfl, rfl, trivial⟩
             refine wp_region_lit ?_
             refine seq_do hA rfl rfl rfl (does_move rfl) ?_
             intro a hA
             refine seq_do hA rfl rfl rfl (does_move rfl) ?_
             intro a hA
             refine seq_do hA rfl rfl rfl (does_move rfl) ?_
             intro a hA
             refine seq_do hA rfl rfl rfl (does_move rfl) ?_
             intro a hA
             refine s_lit (vs := []) hA hM rfl rfl rfl (does_buildSlice rfl (by kernel_rfl)) rfl rfl (noBld_cons (by simp) (noBld_cons (by simp) (noBld_cons (by simp) (noBld_cons (by simp) (noBld_cons (by simp) hnD129))))) ?_
             intro g140 w141 hM a hA
             refine seq_do hA rfl rfl rfl (does_move rfl) ?_
             intro a hA
             refine s_append (k := 0) (q := 0) (m := (dq.take 500).length) (xs := []) (news := Lib.byteCells (dq.take 500)) (L' := fun v142 => (.row BY 1 (v142) ((0 + (dq.take 500).length)) (([] ++ Lib.byteCells (dq.take 500))) :: .obj g115 (.cells #[.slice sF132 ((FM 0 (ps.set kn ((dq.take 500), true)) : List Fl).length) cF133, .slice sI134 (([] : List UInt8).length) cI135, .slice sO136 (([] : List UInt8).length) cO137] 37) :: .row BY 1 (.slice (some ⟨g106, 0, none⟩) 2 2) 2 ((Lib.byteCells [102, UInt8.ofNat (48 + kn)])) :: .row 4 1 (.slice (some ⟨gt, 0, none⟩) 8 8) 8 ((bl ps)) :: .row 24 1 (.slice (some ⟨gh, 0, none⟩) 8 8) 8 hv :: .obj g3 (.cells #[.slice sW1 ((FM 0 ps).length) cW1, .slice sW2 (([] : List UInt8).length) cW2, .slice sW3 (([] : List UInt8).length) cW3] 37) :: D129)) hA rfl rfl rfl (m_appendA Try.underlying24 (by kernel_rfl) hM 0 rfl rfl (show Rb _ _ ((dq.take 500)) from ((hdq.take 500).below hM.bel)) rfl (by first | omega | (simp only [List.length_nil]; omega) | (simp only [List.length_take, List.length_drop, List.length_nil]; omega))) (fun _ => rfl) ?_
             intro v142 w143 hM a hA
             replace hM : Mg w w143 (.row BY 1 (v142) ((dq.take 500).length) ((Lib.byteCells (dq.take 500))) :: .obj g115 (.cells #[.slice sF132 ((FM 0 (ps.set kn ((dq.take 500), true)) : List Fl).length) cF133, .slice sI134 (([] : List UInt8).length) cI135, .slice sO136 (([] : List UInt8).length) cO137] 37) :: .row BY 1 (.slice (some ⟨g106, 0, none⟩) 2 2) 2 ((Lib.byteCells [102, UInt8.ofNat (48 + kn)])) :: .row 4 1 (.slice (some ⟨gt, 0, none⟩) 8 8) 8 ((bl ps)) :: .row 24 1 (.slice (some ⟨gh, 0, none⟩) 8 8) 8 hv :: .obj g3 (.cells #[.slice sW1 ((FM 0 ps).length) cW1, .slice sW2 (([] : List UInt8).length) cW2, .slice sW3 (([] : List UInt8).length) cW3] 37) :: D129) := by
               have h9 := hM
               rw [Nat.zero_add, List.nil_append] at h9
               exact h9
             obtain ⟨so144, ca145, rfl⟩ := owns_sliceE (hM.has 0 rfl)
             refine seq_do (v := .pointer (some ⟨gh, kn * 1, none⟩)) hA rfl rfl rfl (does_indexX Try.underlying54 (by kernel_rfl) rfl rfl rfl rfl (show kn < 8 by omega)) ?_
             intro a hA
             refine s_storeE (cs := [.slice so144 ((dq.take 500).length) ca145]) (L' := (.row BY 1 (.slice so144 ((dq.take 500).length) ca145) ((dq.take 500).length) ((Lib.byteCells (dq.take 500))) :: .obj g115 (.cells #[.slice sF132 ((FM 0 (ps.set kn ((dq.take 500), true)) : List Fl).length) cF133, .slice sI134 (([] : List UInt8).length) cI135, .slice sO136 (([] : List UInt8).length) cO137] 37) :: .row BY 1 (.slice (some ⟨g106, 0, none⟩) 2 2) 2 ((Lib.byteCells [102, UInt8.ofNat (48 + kn)])) :: .row 4 1 (.slice (some ⟨gt, 0, none⟩) 8 8) 8 ((bl ps)) :: .row 24 1 (.slice (some ⟨gh, 0, none⟩) 8 8) 8 ((over hv (kn * 1) [.slice so144 ((dq.take 500).length) ca145])) :: .obj g3 (.cells #[.slice sW1 ((FM 0 ps).length) cW1, .slice sW2 (([] : List UInt8).length) cW2, .slice sW3 (([] : List UInt8).length) cW3] 37) :: D129)) (us := []) hA hM rfl rfl (m_storeE rfl rfl rfl (by kernel_rfl) hM 4 rfl (show kn * 1 + 1 ≤ 8 * 1 by omega) rfl) 4 rfl rfl ?_
             intro w146 hM
             replace hM : Mg w w146 (.row BY 1 (.slice so144 ((dq.take 500).length) ca145) ((dq.take 500).length) ((Lib.byteCells (dq.take 500))) :: .obj g115 (.cells #[.slice sF132 ((FM 0 (ps.set kn ((dq.take 500), true)) : List Fl).length) cF133, .slice sI134 (([] : List UInt8).length) cI135, .slice sO136 (([] : List UInt8).length) cO137] 37) :: .row BY 1 (.slice (some ⟨g106, 0, none⟩) 2 2) 2 ((Lib.byteCells [102, UInt8.ofNat (48 + kn)])) :: .row 4 1 (.slice (some ⟨gt, 0, none⟩) 8 8) 8 ((bl ps)) :: .row 24 1 (.slice (some ⟨gh, 0, none⟩) 8 8) 8 ((hv.set kn (.slice so144 ((dq.take 500).length) ca145))) :: .obj g3 (.cells #[.slice sW1 ((FM 0 ps).length) cW1, .slice sW2 (([] : List UInt8).length) cW2, .slice sW3 (([] : List UInt8).length) cW3] 37) :: D129) := by
               have h9 := hM
               rw [Nat.mul_one] at h9
               exact h9
             refine seq_do (v := .pointer (some ⟨gt, kn * 1, none⟩)) hA rfl rfl rfl (does_indexX Try.underlying55 (by kernel_rfl) rfl rfl rfl rfl (show kn < 8 by omega)) ?_
             intro a hA
             refine s_storeE (cs := [.bool true]) (L' := (.row BY 1 (.slice so144 ((dq.take 500).length) ca145) ((dq.take 500).length) ((Lib.byteCells (dq.take 500))) :: .obj g115 (.cells #[.slice sF132 ((FM 0 (ps.set kn ((dq.take 500), true)) : List Fl).length) cF133, .slice sI134 (([] : List UInt8).length) cI135, .slice sO136 (([] : List UInt8).length) cO137] 37) :: .row BY 1 (.slice (some ⟨g106, 0, none⟩) 2 2) 2 ((Lib.byteCells [102, UInt8.ofNat (48 + kn)])) :: .row 4 1 (.slice (some ⟨gt, 0, none⟩) 8 8) 8 ((over (bl ps) (kn * 1) [.bool true])) :: .row 24 1 (.slice (some ⟨gh, 0, none⟩) 8 8) 8 ((hv.set kn (.slice so144 ((dq.take 500).length) ca145))) :: .obj g3 (.cells #[.slice sW1 ((FM 0 ps).length) cW1, .slice sW2 (([] : List UInt8).length) cW2, .slice sW3 (([] : List UInt8).length) cW3] 37) :: D129)) (us := []) hA hM rfl rfl (m_storeE rfl rfl rfl (by kernel_rfl) hM 3 rfl (show kn * 1 + 1 ≤ 8 * 1 by omega) rfl) 3 rfl rfl ?_
             intro w147 hM
             replace hM : Mg w w147 (.row BY 1 (.slice so144 ((dq.take 500).length) ca145) ((dq.take 500).length) ((Lib.byteCells (dq.take 500))) :: .obj g115 (.cells #[.slice sF132 ((FM 0 (ps.set kn ((dq.take 500), true)) : List Fl).length) cF133, .slice sI134 (([] : List UInt8).length) cI135, .slice sO136 (([] : List UInt8).length) cO137] 37) :: .row BY 1 (.slice (some ⟨g106, 0, none⟩) 2 2) 2 ((Lib.byteCells [102, UInt8.ofNat (48 + kn)])) :: .row 4 1 (.slice (some ⟨gt, 0, none⟩) 8 8) 8 (((bl ps).set kn (.bool true))) :: .row 24 1 (.slice (some ⟨gh, 0, none⟩) 8 8) 8 ((hv.set kn (.slice so144 ((dq.take 500).length) ca145))) :: .obj g3 (.cells #[.slice sW1 ((FM 0 ps).length) cW1, .slice sW2 (([] : List UInt8).length) cW2, .slice sW3 (([] : List UInt8).length) cW3] 37) :: D129) := by
               have h9 := hM
               rw [Nat.mul_one] at h9
               exact h9
             refine seq_end ?_
             refine hK118 _ _ ?_
             refine wp_seq_k (fun K148 hK148 => ?_)
             refine wp_seq_k (fun K149 hK149 => ?_)
             replace hA := hA.keep [(0, .slice sN ns.length cN), (1, .slice sR ds.length cR), (2, .int .u8 at_), (7, .pointer (some ⟨g3, 0, none⟩)), (8, .slice (some ⟨gh, 0, none⟩) 8 8), (9, .slice (some ⟨gt, 0, none⟩) 8 8), (10, .int .i64 (((i : Nat) : Int))), (11, .int .i64 (((kn : Nat) : Int))), (12, .string (nmK kn)), (13, .slice sj ((dq.take 500).length) cj), (14, .int .i64 0), (15, .pointer (some ⟨g115, 0, none⟩)), (69, .int .u8 (((sw : Nat) : Int)))] ⟨rfl, rfl, rfl, rfl, rfl, rfl, rfl, rfl, rfl, rfl, rfl, rfl, rfl, trivial⟩
             refine wp_region_lit ?_
             refine seq_do hA rfl rfl rfl (does_move rfl) ?_
             intro a hA
             refine seq_do (v := .bool false) hA rfl rfl rfl (does_bin rfl rfl (fun w => by kernel_rfl)) ?_
             intro a hA
             refine seq_end ?_
             refine hK149 _ _ ?_
             refine wp_cond_false (hA.ev rfl) ?_
             refine wp_skip ?_
             refine hK148 _ _ ?_
             replace hA := hA.keep [(0, .slice sN ns.length cN), (1, .slice sR ds.length cR), (2, .int .u8 at_), (7, .pointer (some ⟨g3, 0, none⟩)), (8, .slice (some ⟨gh, 0, none⟩) 8 8), (9, .slice (some ⟨gt, 0, none⟩) 8 8), (10, .int .i64 (((i : Nat) : Int))), (11, .int .i64 (((kn : Nat) : Int))), (12, .string (nmK kn)), (13, .slice sj ((dq.take 500).length) cj), (14, .int .i64 0), (15, .pointer (some ⟨g115, 0, none⟩)), (69, .int .u8 (((sw : Nat) : Int)))] ⟨rfl, rfl, rfl, rfl, rfl, rfl, rfl, rfl, rfl, rfl, rfl, rfl, rfl, trivial⟩
             refine wp_region_lit ?_
             refine seq_do hA rfl rfl rfl (m_loadS hM Wp_isS_37 rfl 1 rfl (cs := [.slice sF132 ((FM 0 (ps.set kn ((dq.take 500), true)) : List Fl).length) cF133, .slice sI134 (([] : List UInt8).length) cI135, .slice sO136 (([] : List UInt8).length) cO137]) rfl rfl) ?_
             intro a hA
             refine s_store (us := [.slice sF132 ((FM 0 (ps.set kn ((dq.take 500), true)) : List Fl).length) cF133, .slice sI134 (([] : List UInt8).length) cI135, .slice sO136 (([] : List UInt8).length) cO137]) (L' := (.row BY 1 (.slice so144 ((dq.take 500).length) ca145) ((dq.take 500).length) ((Lib.byteCells (dq.take 500))) :: .obj g115 (.cells #[.slice sF132 ((FM 0 (ps.set kn ((dq.take 500), true)) : List Fl).length) cF133, .slice sI134 (([] : List UInt8).length) cI135, .slice sO136 (([] : List UInt8).length) cO137] 37) :: .row BY 1 (.slice (some ⟨g106, 0, none⟩) 2 2) 2 ((Lib.byteCells [102, UInt8.ofNat (48 + kn)])) :: .row 4 1 (.slice (some ⟨gt, 0, none⟩) 8 8) 8 (((bl ps).set kn (.bool true))) :: .row 24 1 (.slice (some ⟨gh, 0, none⟩) 8 8) 8 ((hv.set kn (.slice so144 ((dq.take 500).length) ca145))) :: .obj g3 (.cells #[.slice sF132 ((FM 0 (ps.set kn ((dq.take 500), true)) : List Fl).length) cF133, .slice sI134 (([] : List UInt8).length) cI135, .slice sO136 (([] : List UInt8).length) cO137] 37) :: D129)) hA hM rfl rfl (m_store rfl rfl rfl (by kernel_rfl) hM 5 rfl rfl rfl) 5 rfl rfl rfl ?_
             intro w150 hM
             refine seq_end ?_
             refine hK28 _ _ ?_
             replace hA := hA.keep [(0, .slice sN ns.length cN), (1, .slice sR ds.length cR), (2, .int .u8 at_), (7, .pointer (some ⟨g3, 0, none⟩)), (8, .slice (some ⟨gh, 0, none⟩) 8 8), (9, .slice (some ⟨gt, 0, none⟩) 8 8), (10, .int .i64 (((i : Nat) : Int))), (11, .int .i64 (((kn : Nat) : Int))), (12, .string (nmK kn)), (13, .slice sj ((dq.take 500).length) cj), (14, .int .i64 0), (15, .pointer (some ⟨g115, 0, none⟩)), (69, .int .u8 (((sw : Nat) : Int)))] ⟨rfl, rfl, rfl, rfl, rfl, rfl, rfl, rfl, rfl, rfl, rfl, rfl, rfl, trivial⟩
             refine wp_region_lit ?_
             refine seq_do hA rfl rfl rfl (does_move rfl) ?_
             intro a hA
             refine seq_do (v := .int .i64 (((i + 1 : Nat) : Int))) hA rfl rfl rfl (does_bin rfl rfl (ar_add ((in_i64 (by omega) (by omega)).trans (by omega)))) ?_
             intro a hA
             refine seq_do hA rfl rfl rfl (does_assign rfl) ?_
             intro a hA
             refine seq_end ?_
             obtain ⟨D151, hED151⟩ : ∃ X, X = .row BY 1 (.slice so144 ((dq.take 500).length) ca145) ((dq.take 500).length) ((Lib.byteCells (dq.take 500))) :: D129 := ⟨_, rfl⟩
             have hnD151 : noBld D151 := hED151 ▸ noBld_cons (by simp) hnD129
             have hs152 : ∀ c ∈ D129, c ∈ D151 := fun c hc => hED151 ▸ List.mem_cons_of_mem _ hc
             have hm153 : .row BY 1 (.slice so144 ((dq.take 500).length) ca145) ((dq.take 500).length) ((Lib.byteCells (dq.take 500))) ∈ D151 := hED151 ▸ List.mem_cons_self
             replace hM : Mg w w150 (.obj g115 (.cells #[.slice sF132 ((FM 0 (ps.set kn ((dq.take 500), true)) : List Fl).length) cF133, .slice sI134 (([] : List UInt8).length) cI135, .slice sO136 (([] : List UInt8).length) cO137] 37) :: .row BY 1 (.slice (some ⟨g106, 0, none⟩) 2 2) 2 ((Lib.byteCells [102, UInt8.ofNat (48 + kn)])) :: .row 4 1 (.slice (some ⟨gt, 0, none⟩) 8 8) 8 (((bl ps).set kn (.bool true))) :: .row 24 1 (.slice (some ⟨gh, 0, none⟩) 8 8) 8 ((hv.set kn (.slice so144 ((dq.take 500).length) ca145))) :: .obj g3 (.cells #[.slice sF132 ((FM 0 (ps.set kn ((dq.take 500), true)) : List Fl).length) cF133, .slice sI134 (([] : List UInt8).length) cI135, .slice sO136 (([] : List UInt8).length) cO137] 37) :: D151) := by
               have h9 := hM.perm (List.perm_middle (l₁ := [_, _, _, _, _])).symm
               rw [← hED151] at h9
               exact h9
             replace hRw := hRw.mono hs152
             replace hmh := hs152 _ hmh
             replace hR127 := hR127.mono hs152
             replace hH := hH.mono hs152
             replace hM : Mg w w150 (.row 4 1 (.slice (some ⟨gt, 0, none⟩) 8 8) 8 (((bl ps).set kn (.bool true))) :: .row 24 1 (.slice (some ⟨gh, 0, none⟩) 8 8) 8 ((hv.set kn (.slice so144 ((dq.take 500).length) ca145))) :: .obj g3 (.cells #[.slice sF132 ((FM 0 (ps.set kn ((dq.take 500), true)) : List Fl).length) cF133, .slice sI134 (([] : List UInt8).length) cI135, .slice sO136 (([] : List UInt8).length) cO137] 37) :: D151) := by
               have h9 := hM.sub (.cons _ (.cons _ (.cons_cons _ (.cons_cons _ (.cons_cons _ (.refl _))))))
               exact h9
             replace hM : Mg w w150 (.row 4 1 (.slice (some ⟨gt, 0, none⟩) 8 8) 8 ((bl (ps.set kn ((dq.take 500), true)))) :: .row 24 1 (.slice (some ⟨gh, 0, none⟩) 8 8) 8 ((hv.set kn (.slice so144 ((dq.take 500).length) ca145))) :: .obj g3 (.cells #[.slice sF132 ((FM 0 (ps.set kn ((dq.take 500), true)) : List Fl).length) cF133, .slice sI134 (([] : List UInt8).length) cI135, .slice sO136 (([] : List UInt8).length) cO137] 37) :: D151) := by
               have h9 := hM
               rw [bl_set]
               exact h9
             refine hK21 _ _ _ (by omega) ⟨i + 1, (ps.set kn ((dq.take 500), true)), (hv.set kn (.slice so144 ((dq.take 500).length) ca145)), sF132, cF133, sI134, cI135, sO136, cO137, D151, rfl, ⟨hR127, hnD151, (hH.put (by omega) hm153), (by rw [List.length_set]; exact hvl), (by rw [List.length_set]; exact hpl), (hsh.set (by omega) (fun _ => by show (dq.take 500).length ≤ _; omega)), by omega⟩, hA.keep _ ⟨rfl, rfl, rfl, rfl, rfl, rfl, rfl, trivial⟩, hM⟩
           · have hb121' := ne_of_beq_false hb121
             refine seq_do (v := .bool false) hA rfl rfl rfl (does_bin rfl rfl (fun w => (bin_eql w).trans (by rw [hb121]))) ?_
             intro a hA
             refine seq_do hA rfl rfl rfl (does_assign rfl) ?_
             intro a hA
             refine seq_end ?_
             refine hK120 _ _ ?_
             refine wp_cond_false (hA.ev rfl) ?_
             refine wp_seq_k (fun K154 hK154 => ?_)
             replace hA := hA.keep [(0, .slice sN ns.length cN), (1, .slice sR ds.length cR), (2, .int .u8 at_), (7, .pointer (some ⟨g3, 0, none⟩)), (8, .slice (some ⟨gh, 0, none⟩) 8 8), (9, .slice (some ⟨gt, 0, none⟩) 8 8), (10, .int .i64 (((i : Nat) : Int))), (11, .int .i64 (((kn : Nat) : Int))), (12, .string (nmK kn)), (13, .slice sj ((dq.take 500).length) cj), (14, .int .i64 0), (15, .pointer (some ⟨g115, 0, none⟩)), (69, .int .u8 (((sw : Nat) : Int)))] ⟨rfl, rfl, rfl, rfl, rfl, rfl, rfl, rfl, rfl, rfl, rfl, rfl, rfl, trivial⟩
             refine wp_region_lit ?_
             rcases Bool.eq_false_or_eq_true ((((sw : Nat) : Int) == 1)) with hb155 | hb155
             · have hb155' := eq_of_beq hb155
               refine seq_do (v := .bool true) hA rfl rfl rfl (does_bin rfl rfl (fun w => (bin_eql w).trans (by rw [hb155]))) ?_
               intro a hA
               refine seq_do hA rfl rfl rfl (does_assign rfl) ?_
               intro a hA
               refine seq_end ?_
               refine hK154 _ _ ?_
               refine wp_cond_true (hA.ev rfl) ?_
               refine wp_seq_k (fun K156 hK156 => ?_)
               replace hA := hA.keep [(0, .slice sN ns.length cN), (1, .slice sR ds.length cR), (2, .int .u8 at_), (7, .pointer (some ⟨g3, 0, none⟩)), (8, .slice (some ⟨gh, 0, none⟩) 8 8), (9, .slice (some ⟨gt, 0, none⟩) 8 8), (10, .int .i64 (((i : Nat) : Int))), (11, .int .i64 (((kn : Nat) : Int))), (12, .string (nmK kn)), (13, .slice sj ((dq.take 500).length) cj), (14, .int .i64 0), (15, .pointer (some ⟨g115, 0, none⟩)), (69, .int .u8 (((sw : Nat) : Int)))] ⟨rfl, rfl, rfl, rfl, rfl, rfl, rfl, rfl, rfl, rfl, rfl, rfl, rfl, trivial⟩
               refine wp_region_lit ?_
               refine seq_do hA rfl rfl rfl (m_loadS hM Wp_isS_37 rfl 4 rfl (cs := [.slice sW1 ((FM 0 ps).length) cW1, .slice sW2 (([] : List UInt8).length) cW2, .slice sW3 (([] : List UInt8).length) cW3]) rfl rfl) ?_
               intro a hA
               refine seq_do hA rfl rfl rfl (does_move rfl) ?_
               intro a hA
               have hw157 := RwD.facts hM (hRw.mono (fun c hc => (List.mem_cons_of_mem _ (List.mem_cons_of_mem _ (List.mem_cons_of_mem _ (List.mem_cons_of_mem _ (List.mem_cons_of_mem _ hc)))))))
               refine seq_call hA rfl rfl rfl (enters_func rfl rfl (fun w => by kernel_rfl)) ((show Calls Try.prog 21 _ _ (fun e w' => RetW _ e w' (0, FM 0 (ps.set kn (hh, false)), [], [])) from ((files_del (h' := hh) hpl hsd hpk).trans (if_pos rfl)) ▸ del_any (cF_ := cW1) (cI := cW2) (cO := cW3) (fs := (FM 0 ps)) (il := ([] : List UInt8)) (ol := ([] : List UInt8)) (nm := nmK kn) hw157.1 hw157.2.1 hw157.2.2.1 hfn)) ?_
               rintro _ w172 ⟨V158, hM159L, rfl, hM159, hnL160, hR161⟩
               obtain ⟨sF166, cF167, sI168, cI169, sO170, cO171, rfl, _⟩ := RwD.open_ hM159 hR161
               obtain ⟨D163, hg162, hnD163, hs164, hs165⟩ := grow [_, _, _, _, _] (D := D) hM hM159 (noBld_cons (by simp) (noBld_cons (by simp) (noBld_cons (by simp) (noBld_cons (by simp) (noBld_cons (by simp) hnD))))) hnL160
               replace hRw := hRw.mono hs164
               replace hmh := hs164 _ hmh
               replace hH := hH.mono hs164
               replace hR161 := hR161.mono hs165
               replace hM : Mg w w172 (.obj g115 (.cells #[.slice none 0 0, .slice none 0 0, .slice none 0 0] 37) :: .row BY 1 (.slice (some ⟨g106, 0, none⟩) 2 2) 2 ((Lib.byteCells [102, UInt8.ofNat (48 + kn)])) :: .row 4 1 (.slice (some ⟨gt, 0, none⟩) 8 8) 8 ((bl ps)) :: .row 24 1 (.slice (some ⟨gh, 0, none⟩) 8 8) 8 hv :: .obj g3 (.cells #[.slice sW1 ((FM 0 ps).length) cW1, .slice sW2 (([] : List UInt8).length) cW2, .slice sW3 (([] : List UInt8).length) cW3] 37) :: D163) := hg162
               refine ⟨_, rfl, ?_⟩
               intro a hA
               refine seq_do hA rfl rfl rfl (does_move rfl) ?_
               intro a hA
               refine seq_do (v := .agg #[.slice sF166 ((FM 0 (ps.set kn (hh, false)) : List Fl).length) cF167, .slice sI168 (([] : List UInt8).length) cI169, .slice sO170 (([] : List UInt8).length) cO171]) hA rfl rfl rfl (does_extract (vs := [.agg #[.slice sF166 ((FM 0 (ps.set kn (hh, false)) : List Fl).length) cF167, .slice sI168 (([] : List UInt8).length) cI169, .slice sO170 (([] : List UInt8).length) cO171], .int .i64 0]) rfl rfl) ?_
               intro a hA
               refine seq_do (v := .int .i64 0) hA rfl rfl rfl (does_extract (vs := [.agg #[.slice sF166 ((FM 0 (ps.set kn (hh, false)) : List Fl).length) cF167, .slice sI168 (([] : List UInt8).length) cI169, .slice sO170 (([] : List UInt8).length) cO171], .int .i64 0]) rfl rfl) ?_
               intro a hA
               refine s_store (us := [.slice sF166 ((FM 0 (ps.set kn (hh, false)) : List Fl).length) cF167, .slice sI168 (([] : List UInt8).length) cI169, .slice sO170 (([] : List UInt8).length) cO171]) (L' := (.obj g115 (.cells #[.slice sF166 ((FM 0 (ps.set kn (hh, false)) : List Fl).length) cF167, .slice sI168 (([] : List UInt8).length) cI169, .slice sO170 (([] : List UInt8).length) cO171] 37) :: .row BY 1 (.slice (some ⟨g106, 0, none⟩) 2 2) 2 ((Lib.byteCells [102, UInt8.ofNat (48 + kn)])) :: .row 4 1 (.slice (some ⟨gt, 0, none⟩) 8 8) 8 ((bl ps)) :: .row 24 1 (.slice (some ⟨gh, 0, none⟩) 8 8) 8 hv :: .obj g3 (.cells #[.slice sW1 ((FM 0 ps).length) cW1, .slice sW2 (([] : List UInt8).length) cW2, .slice sW3 (([] : List UInt8).length) cW3] 37) :: D163)) hA hM rfl rfl (m_store rfl rfl rfl (by kernel_rfl) hM 0 rfl rfl rfl) 0 rfl rfl rfl ?_
               intro w173 hM
               refine seq_do hA rfl rfl rfl (does_assign rfl) ?_
               intro a hA
               refine seq_end ?_
               refine hK156 _ _ ?_
               refine wp_seq_k (fun K174 hK174 => ?_)
               refine wp_seq_k (fun K175 hK175 => ?_)
               replace hA := hA.keep [(0, .slice sN ns.length cN), (1, .slice sR ds.length cR), (2, .int .u8 at_), (7, .pointer (some ⟨g3, 0, none⟩)), (8, .slice (some ⟨gh, 0, none⟩) 8 8), (9, .slice (some ⟨gt, 0, none⟩) 8 8), (10, .int .i64 (((i : Nat) : Int))), (11, .int .i64 (((kn : Nat) : Int))), (12, .string (nmK kn)), (13, .slice sj ((dq.take 500).length) cj), (14, .int .i64 0), (15, .pointer (some ⟨g115, 0, none⟩)), (69, .int .u8 (((sw : Nat) : Int)))] ⟨rfl, rfl, rfl, rfl, rfl, rfl, rfl, rfl, rfl, rfl, rfl, rfl, rfl, trivial⟩
               refine wp_region_lit ?_
               refine seq_do hA rfl rfl rfl (does_move rfl) ?_
               intro a hA
               refine seq_do (v := .bool true) hA rfl rfl rfl (does_bin rfl rfl (fun w => by kernel_rfl)) ?_
               intro a hA
               refine seq_do hA rfl rfl rfl (does_move rfl) ?_
               intro a hA
               refine seq_do hA rfl rfl rfl (does_move rfl) ?_
               intro a hA
               refine seq_do (v := .pointer (some ⟨gt, kn * 1, none⟩)) hA rfl rfl rfl (does_indexX Try.underlying55 (by kernel_rfl) rfl rfl rfl rfl (show kn < 8 by omega)) ?_
               intro a hA
               refine seq_do (v := .bool true) hA rfl rfl rfl (m_loadX hM 2 rfl rfl (show (bl ps)[kn * 1]? = some (.bool true) from by rw [Nat.mul_one]; exact bl_at hpk) Wp_is1_4 rfl) ?_
               intro a hA
               refine seq_do (v := .bool false) hA rfl rfl rfl (does_bin rfl rfl (bin_neqB Try.underlying4)) ?_
               intro a hA
               refine seq_end ?_
               refine hK175 _ _ ?_
               refine wp_cond_false (hA.ev rfl) ?_
               refine wp_skip ?_
               refine hK174 _ _ ?_
               refine wp_seq_k (fun K176 hK176 => ?_)
               refine wp_seq_k (fun K177 hK177 => ?_)
               replace hA := hA.keep [(0, .slice sN ns.length cN), (1, .slice sR ds.length cR), (2, .int .u8 at_), (7, .pointer (some ⟨g3, 0, none⟩)), (8, .slice (some ⟨gh, 0, none⟩) 8 8), (9, .slice (some ⟨gt, 0, none⟩) 8 8), (10, .int .i64 (((i : Nat) : Int))), (11, .int .i64 (((kn : Nat) : Int))), (12, .string (nmK kn)), (13, .slice sj ((dq.take 500).length) cj), (14, .int .i64 0), (15, .pointer (some ⟨g115, 0, none⟩)), (69, .int .u8 (((sw : Nat) : Int)))] ⟨rfl, rfl, rfl, rfl, rfl, rfl, rfl, rfl, rfl, rfl, rfl, rfl, rfl, trivial⟩
               refine wp_region_lit ?_
               refine seq_do hA rfl rfl rfl (does_move rfl) ?_
               intro a hA
               refine seq_do (v := .bool false) hA rfl rfl rfl (does_bin rfl rfl (fun w => by kernel_rfl)) ?_
               intro a hA
               refine seq_end ?_
               refine hK177 _ _ ?_
               refine wp_cond_false (hA.ev rfl) ?_
               refine wp_skip ?_
               refine hK176 _ _ ?_
               replace hA := hA.keep [(0, .slice sN ns.length cN), (1, .slice sR ds.length cR), (2, .int .u8 at_), (7, .pointer (some ⟨g3, 0, none⟩)), (8, .slice (some ⟨gh, 0, none⟩) 8 8), (9, .slice (some ⟨gt, 0, none⟩) 8 8), (10, .int .i64 (((i : Nat) : Int))), (11, .int .i64 (((kn : Nat) : Int))), (12, .string (nmK kn)), (13, .slice sj ((dq.take 500).length) cj), (14, .int .i64 0), (15, .pointer (some ⟨g115, 0, none⟩)), (69, .int .u8 (((sw : Nat) : Int)))] ⟨rfl, rfl, rfl, rfl, rfl, rfl, rfl, rfl, rfl, rfl, rfl, rfl, rfl, trivial⟩
               refine wp_region_lit ?_
               refine seq_do hA rfl rfl rfl (does_move rfl) ?_
               intro a hA
               refine seq_do hA rfl rfl rfl (does_move rfl) ?_
               intro a hA
               refine seq_do (v := .pointer (some ⟨gt, kn * 1, none⟩)) hA rfl rfl rfl (does_indexX Try.underlying55 (by kernel_rfl) rfl rfl rfl rfl (show kn < 8 by omega)) ?_
               intro a hA
               refine s_storeE (cs := [.bool false]) (L' := (.obj g115 (.cells #[.slice sF166 ((FM 0 (ps.set kn (hh, false)) : List Fl).length) cF167, .slice sI168 (([] : List UInt8).length) cI169, .slice sO170 (([] : List UInt8).length) cO171] 37) :: .row BY 1 (.slice (some ⟨g106, 0, none⟩) 2 2) 2 ((Lib.byteCells [102, UInt8.ofNat (48 + kn)])) :: .row 4 1 (.slice (some ⟨gt, 0, none⟩) 8 8) 8 ((over (bl ps) (kn * 1) [.bool false])) :: .row 24 1 (.slice (some ⟨gh, 0, none⟩) 8 8) 8 hv :: .obj g3 (.cells #[.slice sW1 ((FM 0 ps).length) cW1, .slice sW2 (([] : List UInt8).length) cW2, .slice sW3 (([] : List UInt8).length) cW3] 37) :: D163)) (us := []) hA hM rfl rfl (m_storeE rfl rfl rfl (by kernel_rfl) hM 2 rfl (show kn * 1 + 1 ≤ 8 * 1 by omega) rfl) 2 rfl rfl ?_
               intro w178 hM
               replace hM : Mg w w178 (.obj g115 (.cells #[.slice sF166 ((FM 0 (ps.set kn (hh, false)) : List Fl).length) cF167, .slice sI168 (([] : List UInt8).length) cI169, .slice sO170 (([] : List UInt8).length) cO171] 37) :: .row BY 1 (.slice (some ⟨g106, 0, none⟩) 2 2) 2 ((Lib.byteCells [102, UInt8.ofNat (48 + kn)])) :: .row 4 1 (.slice (some ⟨gt, 0, none⟩) 8 8) 8 (((bl ps).set kn (.bool false))) :: .row 24 1 (.slice (some ⟨gh, 0, none⟩) 8 8) 8 hv :: .obj g3 (.cells #[.slice sW1 ((FM 0 ps).length) cW1, .slice sW2 (([] : List UInt8).length) cW2, .slice sW3 (([] : List UInt8).length) cW3] 37) :: D163) := by
                 have h9 := hM
                 rw [Nat.mul_one] at h9
                 exact h9
               refine seq_end ?_
               refine hK118 _ _ ?_
               refine wp_seq_k (fun K179 hK179 => ?_)
               refine wp_seq_k (fun K180 hK180 => ?_)
               replace hA := hA.keep [(0, .slice sN ns.length cN), (1, .slice sR ds.length cR), (2, .int .u8 at_), (7, .pointer (some ⟨g3, 0, none⟩)), (8, .slice (some ⟨gh, 0, none⟩) 8 8), (9, .slice (some ⟨gt, 0, none⟩) 8 8), (10, .int .i64 (((i : Nat) : Int))), (11, .int .i64 (((kn : Nat) : Int))), (12, .string (nmK kn)), (13, .slice sj ((dq.take 500).length) cj), (14, .int .i64 0), (15, .pointer (some ⟨g115, 0, none⟩)), (69, .int .u8 (((sw : Nat) : Int)))] ⟨rfl, rfl, rfl, rfl, rfl, rfl, rfl, rfl, rfl, rfl, rfl, rfl, rfl, trivial⟩
               refine wp_region_lit ?_
               refine seq_do hA rfl rfl rfl (does_move rfl) ?_
               intro a hA
               refine seq_do (v := .bool false) hA rfl rfl rfl (does_bin rfl rfl (fun w => by kernel_rfl)) ?_
               intro a hA
               refine seq_end ?_
               refine hK180 _ _ ?_
               refine wp_cond_false (hA.ev rfl) ?_
               refine wp_skip ?_
               refine hK179 _ _ ?_
               replace hA := hA.keep [(0, .slice sN ns.length cN), (1, .slice sR ds.length cR), (2, .int .u8 at_), (7, .pointer (some ⟨g3, 0, none⟩)), (8, .slice (some ⟨gh, 0, none⟩) 8 8), (9, .slice (some ⟨gt, 0, none⟩) 8 8), (10, .int .i64 (((i : Nat) : Int))), (11, .int .i64 (((kn : Nat) : Int))), (12, .string (nmK kn)), (13, .slice sj ((dq.take 500).length) cj), (14, .int .i64 0), (15, .pointer (some ⟨g115, 0, none⟩)), (69, .int .u8 (((sw : Nat) : Int)))] ⟨rfl, rfl, rfl, rfl, rfl, rfl, rfl, rfl, rfl, rfl, rfl, rfl, rfl, trivial⟩
               refine wp_region_lit ?_
               refine seq_do hA rfl rfl rfl (m_loadS hM Wp_isS_37 rfl 0 rfl (cs := [.slice sF166 ((FM 0 (ps.set kn (hh, false)) : List Fl).length) cF167, .slice sI168 (([] : List UInt8).length) cI169, .slice sO170 (([] : List UInt8).length) cO171]) rfl rfl) ?_
               intro a hA
               refine s_store (us := [.slice sF166 ((FM 0 (ps.set kn (hh, false)) : List Fl).length) cF167, .slice sI168 (([] : List UInt8).length) cI169, .slice sO170 (([] : List UInt8).length) cO171]) (L' := (.obj g115 (.cells #[.slice sF166 ((FM 0 (ps.set kn (hh, false)) : List Fl).length) cF167, .slice sI168 (([] : List UInt8).length) cI169, .slice sO170 (([] : List UInt8).length) cO171] 37) :: .row BY 1 (.slice (some ⟨g106, 0, none⟩) 2 2) 2 ((Lib.byteCells [102, UInt8.ofNat (48 + kn)])) :: .row 4 1 (.slice (some ⟨gt, 0, none⟩) 8 8) 8 (((bl ps).set kn (.bool false))) :: .row 24 1 (.slice (some ⟨gh, 0, none⟩) 8 8) 8 hv :: .obj g3 (.cells #[.slice sF166 ((FM 0 (ps.set kn (hh, false)) : List Fl).length) cF167, .slice sI168 (([] : List UInt8).length) cI169, .slice sO170 (([] : List UInt8).length) cO171] 37) :: D163)) hA hM rfl rfl (m_store rfl rfl rfl (by kernel_rfl) hM 4 rfl rfl rfl) 4 rfl rfl rfl ?_
               intro w181 hM
               refine seq_end ?_
               refine hK28 _ _ ?_
               replace hA := hA.keep [(0, .slice sN ns.length cN), (1, .slice sR ds.length cR), (2, .int .u8 at_), (7, .pointer (some ⟨g3, 0, none⟩)), (8, .slice (some ⟨gh, 0, none⟩) 8 8), (9, .slice (some ⟨gt, 0, none⟩) 8 8), (10, .int .i64 (((i : Nat) : Int))), (11, .int .i64 (((kn : Nat) : Int))), (12, .string (nmK kn)), (13, .slice sj ((dq.take 500).length) cj), (14, .int .i64 0), (15, .pointer (some ⟨g115, 0, none⟩)), (69, .int .u8 (((sw : Nat) : Int)))] ⟨rfl, rfl, rfl, rfl, rfl, rfl, rfl, rfl, rfl, rfl, rfl, rfl, rfl, trivial⟩
               refine wp_region_lit ?_
               refine seq_do hA rfl rfl rfl (does_move rfl) ?_
               intro a hA
               refine seq_do (v := .int .i64 (((i + 1 : Nat) : Int))) hA rfl rfl rfl (does_bin rfl rfl (ar_add ((in_i64 (by omega) (by omega)).trans (by omega)))) ?_
               intro a hA
               refine seq_do hA rfl rfl rfl (does_assign rfl) ?_
               intro a hA
               refine seq_end ?_
               replace hM : Mg w w181 (.row 4 1 (.slice (some ⟨gt, 0, none⟩) 8 8) 8 (((bl ps).set kn (.bool false))) :: .row 24 1 (.slice (some ⟨gh, 0, none⟩) 8 8) 8 hv :: .obj g3 (.cells #[.slice sF166 ((FM 0 (ps.set kn (hh, false)) : List Fl).length) cF167, .slice sI168 (([] : List UInt8).length) cI169, .slice sO170 (([] : List UInt8).length) cO171] 37) :: D163) := by
                 have h9 := hM.sub (.cons _ (.cons _ (.cons_cons _ (.cons_cons _ (.cons_cons _ (.refl _))))))
                 exact h9
               replace hM : Mg w w181 (.row 4 1 (.slice (some ⟨gt, 0, none⟩) 8 8) 8 ((bl (ps.set kn (hh, false)))) :: .row 24 1 (.slice (some ⟨gh, 0, none⟩) 8 8) 8 hv :: .obj g3 (.cells #[.slice sF166 ((FM 0 (ps.set kn (hh, false)) : List Fl).length) cF167, .slice sI168 (([] : List UInt8).length) cI169, .slice sO170 (([] : List UInt8).length) cO171] 37) :: D163) := by
                 have h9 := hM
                 rw [bl_set]
                 exact h9
               refine hK21 _ _ _ (by omega) ⟨i + 1, (ps.set kn (hh, false)), hv, sF166, cF167, sI168, cI169, sO170, cO171, D163, rfl, ⟨hR161, hnD163, hH.del, hvl, (by rw [List.length_set]; exact hpl), (hsh.set (by omega) (fun k9 => by cases k9)), by omega⟩, hA.keep _ ⟨rfl, rfl, rfl, rfl, rfl, rfl, rfl, trivial⟩, hM⟩
             · have hb155' := ne_of_beq_false hb155
               refine seq_do (v := .bool false) hA rfl rfl rfl (does_bin rfl rfl (fun w => (bin_eql w).trans (by rw [hb155]))) ?_
               intro a hA
               refine seq_do hA rfl rfl rfl (does_assign rfl) ?_
               intro a hA
               refine seq_end ?_
               refine hK154 _ _ ?_
               refine wp_cond_false (hA.ev rfl) ?_
               refine wp_seq_k (fun K182 hK182 => ?_)
               refine wp_seq_k (fun K183 hK183 => ?_)
               replace hA := hA.keep [(0, .slice sN ns.length cN), (1, .slice sR ds.length cR), (2, .int .u8 at_), (7, .pointer (some ⟨g3, 0, none⟩)), (8, .slice (some ⟨gh, 0, none⟩) 8 8), (9, .slice (some ⟨gt, 0, none⟩) 8 8), (10, .int .i64 (((i : Nat) : Int))), (11, .int .i64 (((kn : Nat) : Int))), (12, .string (nmK kn)), (13, .slice sj ((dq.take 500).length) cj), (14, .int .i64 0), (15, .pointer (some ⟨g115, 0, none⟩)), (69, .int .u8 (((sw : Nat) : Int)))] ⟨rfl, rfl, rfl, rfl, rfl, rfl, rfl, rfl, rfl, rfl, rfl, rfl, rfl, trivial⟩
               refine wp_region_lit ?_
               refine seq_do hA rfl rfl rfl (does_move rfl) ?_
               intro a hA
               refine seq_do hA rfl rfl rfl (does_move rfl) ?_
               intro a hA
               refine seq_do (v := .pointer (some ⟨gt, kn * 1, none⟩)) hA rfl rfl rfl (does_indexX Try.underlying55 (by kernel_rfl) rfl rfl rfl rfl (show kn < 8 by omega)) ?_
               intro a hA
               refine seq_do (v := .bool true) hA rfl rfl rfl (m_loadX hM 2 rfl rfl (show (bl ps)[kn * 1]? = some (.bool true) from by rw [Nat.mul_one]; exact bl_at hpk) Wp_is1_4 rfl) ?_
               intro a hA
               refine seq_do (v := .bool false) hA rfl rfl rfl (does_un rfl un_not) ?_
               intro a hA
               refine seq_end ?_
               refine hK183 _ _ ?_
               refine wp_cond_false (hA.ev rfl) ?_
               refine wp_skip ?_
               refine hK182 _ _ ?_
               refine wp_seq_k (fun K184 hK184 => ?_)
               replace hA := hA.keep [(0, .slice sN ns.length cN), (1, .slice sR ds.length cR), (2, .int .u8 at_), (7, .pointer (some ⟨g3, 0, none⟩)), (8, .slice (some ⟨gh, 0, none⟩) 8 8), (9, .slice (some ⟨gt, 0, none⟩) 8 8), (10, .int .i64 (((i : Nat) : Int))), (11, .int .i64 (((kn : Nat) : Int))), (12, .string (nmK kn)), (13, .slice sj ((dq.take 500).length) cj), (14, .int .i64 0), (15, .pointer (some ⟨g115, 0, none⟩)), (69, .int .u8 (((sw : Nat) : Int)))] ⟨rfl, rfl, rfl, rfl, rfl, rfl, rfl, rfl, rfl, rfl, rfl, rfl, rfl, trivial⟩
               refine wp_region_lit ?_
               refine seq_do hA rfl rfl rfl (does_move rfl) ?_
               intro a hA
               refine seq_do (v := .int .i64 at_) hA rfl rfl rfl (does_convert rfl (ar_conv Try.underlying5 Try.underlying3 (in_i64 (by omega) (by omega)))) ?_
               intro a hA
               refine seq_do hA rfl rfl rfl (does_move rfl) ?_
               intro a hA
               refine seq_do hA rfl rfl rfl (does_move rfl) ?_
               intro a hA
               refine seq_do (v := .pointer (some ⟨gh, kn * 1, none⟩)) hA rfl rfl rfl (does_indexX Try.underlying54 (by kernel_rfl) rfl rfl rfl rfl (show kn < 8 by omega)) ?_
               intro a hA
               refine seq_do (v := .slice sh hh.length ch) hA rfl rfl rfl (m_loadX hM 3 rfl rfl (show hv[kn * 1]? = some _ from by rw [Nat.mul_one]; exact hvh) Wp_is1_24 rfl) ?_
               intro a hA
               refine seq_do (v := .int .i64 (((hh.length : Nat) : Int))) hA rfl rfl rfl (does_len Try.underlying24 rfl) ?_
               intro a hA
               refine seq_do (v := .int .i64 (((hh.length + 1 : Nat) : Int))) hA rfl rfl rfl (does_bin rfl rfl (ar_add ((in_i64 (by omega) (by omega)).trans (by omega)))) ?_
               intro a hA
               obtain ⟨an, han⟩ : ∃ an : Nat, ((an : Nat) : Int) = at_ % ((hh.length + 1 : Nat) : Int) := ⟨(at_ % ((hh.length + 1 : Nat) : Int)).toNat, Int.toNat_of_nonneg (Int.emod_nonneg _ (by omega))⟩
               have han2 : an ≤ hh.length := by
                 have := Int.emod_lt_of_pos at_ (show (0 : Int) < ((hh.length + 1 : Nat) : Int) by omega)
                 omega
               refine seq_do (v := .int .i64 (((an : Nat) : Int))) hA rfl rfl rfl (does_bin rfl rfl (ar_rem (by omega) ((Int.tmod_eq_emod_of_nonneg (by omega)).trans han.symm))) ?_
               intro a hA
               refine seq_do hA rfl rfl rfl (does_assign rfl) ?_
               intro a hA
               refine seq_end ?_
               refine hK184 _ _ ?_
               refine wp_seq_k (fun K185 hK185 => ?_)
               replace hA := hA.keep [(0, .slice sN ns.length cN), (1, .slice sR ds.length cR), (2, .int .u8 at_), (7, .pointer (some ⟨g3, 0, none⟩)), (8, .slice (some ⟨gh, 0, none⟩) 8 8), (9, .slice (some ⟨gt, 0, none⟩) 8 8), (10, .int .i64 (((i : Nat) : Int))), (11, .int .i64 (((kn : Nat) : Int))), (12, .string (nmK kn)), (13, .slice sj ((dq.take 500).length) cj), (14, .int .i64 0), (15, .pointer (some ⟨g115, 0, none⟩)), (16, .int .i64 (((an : Nat) : Int))), (69, .int .u8 (((sw : Nat) : Int)))] ⟨rfl, rfl, rfl, rfl, rfl, rfl, rfl, rfl, rfl, rfl, rfl, rfl, rfl, rfl, trivial⟩
               refine wp_region_lit ?_
               refine seq_do hA rfl rfl rfl (m_loadS hM Wp_isS_37 rfl 4 rfl (cs := [.slice sW1 ((FM 0 ps).length) cW1, .slice sW2 (([] : List UInt8).length) cW2, .slice sW3 (([] : List UInt8).length) cW3]) rfl rfl) ?_
               intro a hA
               refine seq_do hA rfl rfl rfl (does_move rfl) ?_
               intro a hA
               refine seq_do hA rfl rfl rfl (does_move rfl) ?_
               intro a hA
               refine seq_do hA rfl rfl rfl (does_move rfl) ?_
               intro a hA
               have hw186 := RwD.facts hM (hRw.mono (fun c hc => (List.mem_cons_of_mem _ (List.mem_cons_of_mem _ (List.mem_cons_of_mem _ (List.mem_cons_of_mem _ (List.mem_cons_of_mem _ hc)))))))
               refine seq_call hA rfl rfl rfl (enters_func rfl rfl (fun w => by kernel_rfl)) ((show Calls Try.prog 19 _ _ (fun e w' => RetW _ e w' (0, FM 0 (ps.set kn (wrD an (dq.take 500) hh, true)), [], [])) from files_wr hpl hsd hpk han2 (show an + (dq.take 500).length ≤ 65536 by omega) ▸ write_any (cF_ := cW1) (cI := cW2) (cO := cW3) (fs := (FM 0 ps)) (il := ([] : List UInt8)) (ol := ([] : List UInt8)) (nm := nmK kn) (z := ((an : Nat) : Int)) (d := (dq.take 500)) (cd := cj) hw186.1 hw186.2.1 hw186.2.2.1 hfn ((hdq.take 500).below hM.bel) (by omega))) ?_
               rintro _ w201 ⟨V187, hM188L, rfl, hM188, hnL189, hR190⟩
               obtain ⟨sF195, cF196, sI197, cI198, sO199, cO200, rfl, _⟩ := RwD.open_ hM188 hR190
               obtain ⟨D192, hg191, hnD192, hs193, hs194⟩ := grow [_, _, _, _, _] (D := D) hM hM188 (noBld_cons (by simp) (noBld_cons (by simp) (noBld_cons (by simp) (noBld_cons (by simp) (noBld_cons (by simp) hnD))))) hnL189
               replace hRw := hRw.mono hs193
               replace hmh := hs193 _ hmh
               replace hH := hH.mono hs193
               replace hR190 := hR190.mono hs194
               replace hM : Mg w w201 (.obj g115 (.cells #[.slice none 0 0, .slice none 0 0, .slice none 0 0] 37) :: .row BY 1 (.slice (some ⟨g106, 0, none⟩) 2 2) 2 ((Lib.byteCells [102, UInt8.ofNat (48 + kn)])) :: .row 4 1 (.slice (some ⟨gt, 0, none⟩) 8 8) 8 ((bl ps)) :: .row 24 1 (.slice (some ⟨gh, 0, none⟩) 8 8) 8 hv :: .obj g3 (.cells #[.slice sW1 ((FM 0 ps).length) cW1, .slice sW2 (([] : List UInt8).length) cW2, .slice sW3 (([] : List UInt8).length) cW3] 37) :: D192) := hg191
               refine ⟨_, rfl, ?_⟩
               intro a hA
               refine seq_do hA rfl rfl rfl (does_move rfl) ?_
               intro a hA
               refine seq_do (v := .agg #[.slice sF195 ((FM 0 (ps.set kn (wrD an (dq.take 500) hh, true)) : List Fl).length) cF196, .slice sI197 (([] : List UInt8).length) cI198, .slice sO199 (([] : List UInt8).length) cO200]) hA rfl rfl rfl (does_extract (vs := [.agg #[.slice sF195 ((FM 0 (ps.set kn (wrD an (dq.take 500) hh, true)) : List Fl).length) cF196, .slice sI197 (([] : List UInt8).length) cI198, .slice sO199 (([] : List UInt8).length) cO200], .int .i64 0]) rfl rfl) ?_
               intro a hA
               refine seq_do (v := .int .i64 0) hA rfl rfl rfl (does_extract (vs := [.agg #[.slice sF195 ((FM 0 (ps.set kn (wrD an (dq.take 500) hh, true)) : List Fl).length) cF196, .slice sI197 (([] : List UInt8).length) cI198, .slice sO199 (([] : List UInt8).length) cO200], .int .i64 0]) rfl rfl) ?_
               intro a hA
               refine s_store (us := [.slice sF195 ((FM 0 (ps.set kn (wrD an (dq.take 500) hh, true)) : List Fl).length) cF196, .slice sI197 (([] : List UInt8).length) cI198, .slice sO199 (([] : List UInt8).length) cO200]) (L' := (.obj g115 (.cells #[.slice sF195 ((FM 0 (ps.set kn (wrD an (dq.take 500) hh, true)) : List Fl).length) cF196, .slice sI197 (([] : List UInt8).length) cI198, .slice sO199 (([] : List UInt8).length) cO200] 37) :: .row BY 1 (.slice (some ⟨g106, 0, none⟩) 2 2) 2 ((Lib.byteCells [102, UInt8.ofNat (48 + kn)])) :: .row 4 1 (.slice (some ⟨gt, 0, none⟩) 8 8) 8 ((bl ps)) :: .row 24 1 (.slice (some ⟨gh, 0, none⟩) 8 8) 8 hv :: .obj g3 (.cells #[.slice sW1 ((FM 0 ps).length) cW1, .slice sW2 (([] : List UInt8).length) cW2, .slice sW3 (([] : List UInt8).length) cW3] 37) :: D192)) hA hM rfl rfl (m_store rfl rfl rfl (by kernel_rfl) hM 0 rfl rfl rfl) 0 rfl rfl rfl ?_
               intro w202 hM
               refine seq_do hA rfl rfl rfl (does_assign rfl) ?_
               intro a hA
               refine seq_end ?_
               refine hK185 _ _ ?_
               refine wp_seq_k (fun K203 hK203 => ?_)
               replace hA := hA.keep [(0, .slice sN ns.length cN), (1, .slice sR ds.length cR), (2, .int .u8 at_), (7, .pointer (some ⟨g3, 0, none⟩)), (8, .slice (some ⟨gh, 0, none⟩) 8 8), (9, .slice (some ⟨gt, 0, none⟩) 8 8), (10, .int .i64 (((i : Nat) : Int))), (11, .int .i64 (((kn : Nat) : Int))), (12, .string (nmK kn)), (13, .slice sj ((dq.take 500).length) cj), (14, .int .i64 0), (15, .pointer (some ⟨g115, 0, none⟩)), (16, .int .i64 (((an : Nat) : Int))), (69, .int .u8 (((sw : Nat) : Int)))] ⟨rfl, rfl, rfl, rfl, rfl, rfl, rfl, rfl, rfl, rfl, rfl, rfl, rfl, rfl, trivial⟩
               refine wp_region_lit ?_
               refine s_lit (vs := []) hA hM rfl rfl rfl (does_buildSlice rfl (by kernel_rfl)) rfl rfl (noBld_cons (by simp) (noBld_cons (by simp) (noBld_cons (by simp) (noBld_cons (by simp) (noBld_cons (by simp) hnD192))))) ?_
               intro g204 w205 hM a hA
               refine seq_do hA rfl rfl rfl (does_move rfl) ?_
               intro a hA
               refine seq_do hA rfl rfl rfl (does_move rfl) ?_
               intro a hA
               refine seq_do (v := .pointer (some ⟨gh, kn * 1, none⟩)) hA rfl rfl rfl (does_indexX Try.underlying54 (by kernel_rfl) rfl rfl rfl rfl (show kn < 8 by omega)) ?_
               intro a hA
               refine seq_do (v := .slice sh hh.length ch) hA rfl rfl rfl (m_loadX hM 4 rfl rfl (show hv[kn * 1]? = some _ from by rw [Nat.mul_one]; exact hvh) Wp_is1_24 rfl) ?_
               intro a hA
               refine seq_do hA rfl rfl rfl (does_move rfl) ?_
               intro a hA
               refine seq_do (v := .slice sh ((hh.take an).length) ch) hA rfl rfl rfl (does_upto (sz := 1) (hi := (hh.take an).length) Try.underlying24 (by kernel_rfl) rfl rfl (by rw [List.length_take]; omega) (by rw [List.length_take]; omega)) ?_
               intro a hA
               have hlan : (hh.take an).length = an := by rw [List.length_take]; omega
               refine s_append (k := 0) (q := 0) (m := (hh.take an).length) (xs := []) (news := Lib.byteCells (hh.take an)) (L' := fun v206 => (.row BY 1 (v206) ((0 + (hh.take an).length)) (([] ++ Lib.byteCells (hh.take an))) :: .obj g115 (.cells #[.slice sF195 ((FM 0 (ps.set kn (wrD an (dq.take 500) hh, true)) : List Fl).length) cF196, .slice sI197 (([] : List UInt8).length) cI198, .slice sO199 (([] : List UInt8).length) cO200] 37) :: .row BY 1 (.slice (some ⟨g106, 0, none⟩) 2 2) 2 ((Lib.byteCells [102, UInt8.ofNat (48 + kn)])) :: .row 4 1 (.slice (some ⟨gt, 0, none⟩) 8 8) 8 ((bl ps)) :: .row 24 1 (.slice (some ⟨gh, 0, none⟩) 8 8) 8 hv :: .obj g3 (.cells #[.slice sW1 ((FM 0 ps).length) cW1, .slice sW2 (([] : List UInt8).length) cW2, .slice sW3 (([] : List UInt8).length) cW3] 37) :: D192)) hA rfl rfl rfl (m_appendA Try.underlying24 (by kernel_rfl) hM 0 rfl rfl (show Rb _ _ ((hh.take an)) from ((rb_of hM (List.mem_cons_of_mem _ (List.mem_cons_of_mem _ (List.mem_cons_of_mem _ (List.mem_cons_of_mem _ (List.mem_cons_of_mem _ (List.mem_cons_of_mem _ hmh))))))).take an)) rfl (by first | omega | (simp only [List.length_nil]; omega) | (simp only [List.length_take, List.length_drop, List.length_nil]; omega))) (fun _ => rfl) ?_
               intro v206 w207 hM a hA
               replace hM : Mg w w207 (.row BY 1 (v206) ((hh.take an).length) ((Lib.byteCells (hh.take an))) :: .obj g115 (.cells #[.slice sF195 ((FM 0 (ps.set kn (wrD an (dq.take 500) hh, true)) : List Fl).length) cF196, .slice sI197 (([] : List UInt8).length) cI198, .slice sO199 (([] : List UInt8).length) cO200] 37) :: .row BY 1 (.slice (some ⟨g106, 0, none⟩) 2 2) 2 ((Lib.byteCells [102, UInt8.ofNat (48 + kn)])) :: .row 4 1 (.slice (some ⟨gt, 0, none⟩) 8 8) 8 ((bl ps)) :: .row 24 1 (.slice (some ⟨gh, 0, none⟩) 8 8) 8 hv :: .obj g3 (.cells #[.slice sW1 ((FM 0 ps).length) cW1, .slice sW2 (([] : List UInt8).length) cW2, .slice sW3 (([] : List UInt8).length) cW3] 37) :: D192) := by
                 have h9 := hM
                 rw [Nat.zero_add, List.nil_append] at h9
                 exact h9
               obtain ⟨so208, ca209, rfl⟩ := owns_sliceE (hM.has 0 rfl)
               refine seq_do hA rfl rfl rfl (does_assign rfl) ?_
               intro a hA
               refine seq_end ?_
               refine hK203 _ _ ?_
               refine wp_seq_k (fun K210 hK210 => ?_)
               replace hA := hA.keep [(0, .slice sN ns.length cN), (1, .slice sR ds.length cR), (2, .int .u8 at_), (7, .pointer (some ⟨g3, 0, none⟩)), (8, .slice (some ⟨gh, 0, none⟩) 8 8), (9, .slice (some ⟨gt, 0, none⟩) 8 8), (10, .int .i64 (((i : Nat) : Int))), (11, .int .i64 (((kn : Nat) : Int))), (12, .string (nmK kn)), (13, .slice sj ((dq.take 500).length) cj), (14, .int .i64 0), (15, .pointer (some ⟨g115, 0, none⟩)), (16, .int .i64 (((an : Nat) : Int))), (17, .slice so208 ((hh.take an).length) ca209), (69, .int .u8 (((sw : Nat) : Int)))] ⟨rfl, rfl, rfl, rfl, rfl, rfl, rfl, rfl, rfl, rfl, rfl, rfl, rfl, rfl, rfl, trivial⟩
               refine wp_region_lit ?_
               refine seq_do hA rfl rfl rfl (does_move rfl) ?_
               intro a hA
               refine seq_do hA rfl rfl rfl (does_move rfl) ?_
               intro a hA
               refine s_append (k := 0) (q := (hh.take an).length) (m := (dq.take 500).length) (xs := (Lib.byteCells (hh.take an))) (news := Lib.byteCells (dq.take 500)) (L' := fun v211 => (.row BY 1 (v211) (((hh.take an).length + (dq.take 500).length)) (((Lib.byteCells (hh.take an)) ++ Lib.byteCells (dq.take 500))) :: .obj g115 (.cells #[.slice sF195 ((FM 0 (ps.set kn (wrD an (dq.take 500) hh, true)) : List Fl).length) cF196, .slice sI197 (([] : List UInt8).length) cI198, .slice sO199 (([] : List UInt8).length) cO200] 37) :: .row BY 1 (.slice (some ⟨g106, 0, none⟩) 2 2) 2 ((Lib.byteCells [102, UInt8.ofNat (48 + kn)])) :: .row 4 1 (.slice (some ⟨gt, 0, none⟩) 8 8) 8 ((bl ps)) :: .row 24 1 (.slice (some ⟨gh, 0, none⟩) 8 8) 8 hv :: .obj g3 (.cells #[.slice sW1 ((FM 0 ps).length) cW1, .slice sW2 (([] : List UInt8).length) cW2, .slice sW3 (([] : List UInt8).length) cW3] 37) :: D192)) hA rfl rfl rfl (m_appendA Try.underlying24 (by kernel_rfl) hM 0 rfl rfl (show Rb _ _ ((dq.take 500)) from ((hdq.take 500).below hM.bel)) rfl (by first | omega | (simp only [List.length_nil]; omega) | (simp only [List.length_take, List.length_drop, List.length_nil]; omega))) (fun _ => rfl) ?_
               intro v211 w212 hM a hA
               replace hM : Mg w w212 (.row BY 1 (v211) (((hh.take an) ++ (dq.take 500)).length) ((Lib.byteCells ((hh.take an) ++ (dq.take 500)))) :: .obj g115 (.cells #[.slice sF195 ((FM 0 (ps.set kn (wrD an (dq.take 500) hh, true)) : List Fl).length) cF196, .slice sI197 (([] : List UInt8).length) cI198, .slice sO199 (([] : List UInt8).length) cO200] 37) :: .row BY 1 (.slice (some ⟨g106, 0, none⟩) 2 2) 2 ((Lib.byteCells [102, UInt8.ofNat (48 + kn)])) :: .row 4 1 (.slice (some ⟨gt, 0, none⟩) 8 8) 8 ((bl ps)) :: .row 24 1 (.slice (some ⟨gh, 0, none⟩) 8 8) 8 hv :: .obj g3 (.cells #[.slice sW1 ((FM 0 ps).length) cW1, .slice sW2 (([] : List UInt8).length) cW2, .slice sW3 (([] : List UInt8).length) cW3] 37) :: D192) := by
                 have h9 := hM
                 rw [← List.length_append, ← Lib.byteCells_append] at h9
                 exact h9
               obtain ⟨so213, ca214, rfl⟩ := owns_sliceE (hM.has 0 rfl)
               refine seq_do hA rfl rfl rfl (does_assign rfl) ?_
               intro a hA
               refine seq_end ?_
               refine hK210 _ _ ?_
               refine wp_seq_k (fun K215 hK215 => ?_)
               refine wp_seq_k (fun K216 hK216 => ?_)
               replace hA := hA.keep [(0, .slice sN ns.length cN), (1, .slice sR ds.length cR), (2, .int .u8 at_), (7, .pointer (some ⟨g3, 0, none⟩)), (8, .slice (some ⟨gh, 0, none⟩) 8 8), (9, .slice (some ⟨gt, 0, none⟩) 8 8), (10, .int .i64 (((i : Nat) : Int))), (11, .int .i64 (((kn : Nat) : Int))), (12, .string (nmK kn)), (13, .slice sj ((dq.take 500).length) cj), (14, .int .i64 0), (15, .pointer (some ⟨g115, 0, none⟩)), (16, .int .i64 (((an : Nat) : Int))), (17, .slice so213 (((hh.take an) ++ (dq.take 500)).length) ca214), (69, .int .u8 (((sw : Nat) : Int)))] ⟨rfl, rfl, rfl, rfl, rfl, rfl, rfl, rfl, rfl, rfl, rfl, rfl, rfl, rfl, rfl, trivial⟩
               have hnl : ((hh.take an) ++ (dq.take 500)).length = an + (dq.take 500).length := by rw [List.length_append, List.length_take]; omega
               refine wp_region_lit ?_
               refine seq_do hA rfl rfl rfl (does_move rfl) ?_
               intro a hA
               refine seq_do (v := .int .i64 (((((hh.take an) ++ (dq.take 500)).length : Nat) : Int))) hA rfl rfl rfl (does_len Try.underlying24 rfl) ?_
               intro a hA
               refine seq_do hA rfl rfl rfl (does_move rfl) ?_
               intro a hA
               refine seq_do hA rfl rfl rfl (does_move rfl) ?_
               intro a hA
               refine seq_do (v := .pointer (some ⟨gh, kn * 1, none⟩)) hA rfl rfl rfl (does_indexX Try.underlying54 (by kernel_rfl) rfl rfl rfl rfl (show kn < 8 by omega)) ?_
               intro a hA
               refine seq_do (v := .slice sh hh.length ch) hA rfl rfl rfl (m_loadX hM 4 rfl rfl (show hv[kn * 1]? = some _ from by rw [Nat.mul_one]; exact hvh) Wp_is1_24 rfl) ?_
               intro a hA
               refine seq_do (v := .int .i64 (((hh.length : Nat) : Int))) hA rfl rfl rfl (does_len Try.underlying24 rfl) ?_
               intro a hA
               rcases Bool.eq_false_or_eq_true (decide (((((hh.take an) ++ (dq.take 500)).length : Nat) : Int) < ((hh.length : Nat) : Int))) with hb217 | hb217
               · have hb217' := of_decide_eq_true hb217
                 refine seq_do (v := .bool true) hA rfl rfl rfl (does_bin rfl rfl (fun w => (bin_lss w).trans (by rw [hb217]))) ?_
                 intro a hA
                 refine seq_end ?_
                 refine hK216 _ _ ?_
                 refine wp_cond_true (hA.ev rfl) ?_
                 replace hA := hA.keep [(0, .slice sN ns.length cN), (1, .slice sR ds.length cR), (2, .int .u8 at_), (7, .pointer (some ⟨g3, 0, none⟩)), (8, .slice (some ⟨gh, 0, none⟩) 8 8), (9, .slice (some ⟨gt, 0, none⟩) 8 8), (10, .int .i64 (((i : Nat) : Int))), (11, .int .i64 (((kn : Nat) : Int))), (12, .string (nmK kn)), (13, .slice sj ((dq.take 500).length) cj), (14, .int .i64 0), (15, .pointer (some ⟨g115, 0, none⟩)), (16, .int .i64 (((an : Nat) : Int))), (17, .slice so213 (((hh.take an) ++ (dq.take 500)).length) ca214), (69, .int .u8 (((sw : Nat) : Int)))] ⟨rfl, rfl, rfl, rfl, rfl, rfl, rfl, rfl, rfl, rfl, rfl, rfl, rfl, rfl, rfl, trivial⟩
                 refine wp_region_lit ?_
                 refine seq_do hA rfl rfl rfl (does_move rfl) ?_
                 intro a hA
                 refine seq_do hA rfl rfl rfl (does_move rfl) ?_
                 intro a hA
                 refine seq_do hA rfl rfl rfl (does_move rfl) ?_
                 intro a hA
                 refine seq_do (v := .pointer (some ⟨gh, kn * 1, none⟩)) hA rfl rfl rfl (does_indexX Try.underlying54 (by kernel_rfl) rfl rfl rfl rfl (show kn < 8 by omega)) ?_
                 intro a hA
                 refine seq_do (v := .slice sh hh.length ch) hA rfl rfl rfl (m_loadX hM 4 rfl rfl (show hv[kn * 1]? = some _ from by rw [Nat.mul_one]; exact hvh) Wp_is1_24 rfl) ?_
                 intro a hA
                 refine seq_do hA rfl rfl rfl (does_move rfl) ?_
                 intro a hA
                 refine seq_do (v := .int .i64 (((((hh.take an) ++ (dq.take 500)).length : Nat) : Int))) hA rfl rfl rfl (does_len Try.underlying24 rfl) ?_
                 intro a hA
                 refine seq_do (v := .slice ((dropA sh ch ((hh.take an) ++ (dq.take 500)).length)) ((hh.drop ((hh.take an) ++ (dq.take 500)).length).length) ((ch - ((hh.take an) ++ (dq.take 500)).length))) hA rfl rfl rfl (does_fromq Try.underlying24 (by kernel_rfl) rfl rfl rfl (by omega) (by rw [List.length_drop])) ?_
                 intro a hA
                 refine s_append (k := 0) (q := ((hh.take an) ++ (dq.take 500)).length) (m := (hh.drop ((hh.take an) ++ (dq.take 500)).length).length) (xs := (Lib.byteCells ((hh.take an) ++ (dq.take 500)))) (news := Lib.byteCells (hh.drop ((hh.take an) ++ (dq.take 500)).length)) (L' := fun v218 => (.row BY 1 (v218) ((((hh.take an) ++ (dq.take 500)).length + (hh.drop ((hh.take an) ++ (dq.take 500)).length).length)) (((Lib.byteCells ((hh.take an) ++ (dq.take 500))) ++ Lib.byteCells (hh.drop ((hh.take an) ++ (dq.take 500)).length))) :: .obj g115 (.cells #[.slice sF195 ((FM 0 (ps.set kn (wrD an (dq.take 500) hh, true)) : List Fl).length) cF196, .slice sI197 (([] : List UInt8).length) cI198, .slice sO199 (([] : List UInt8).length) cO200] 37) :: .row BY 1 (.slice (some ⟨g106, 0, none⟩) 2 2) 2 ((Lib.byteCells [102, UInt8.ofNat (48 + kn)])) :: .row 4 1 (.slice (some ⟨gt, 0, none⟩) 8 8) 8 ((bl ps)) :: .row 24 1 (.slice (some ⟨gh, 0, none⟩) 8 8) 8 hv :: .obj g3 (.cells #[.slice sW1 ((FM 0 ps).length) cW1, .slice sW2 (([] : List UInt8).length) cW2, .slice sW3 (([] : List UInt8).length) cW3] 37) :: D192)) hA rfl rfl rfl (m_appendA Try.underlying24 (by kernel_rfl) hM 0 rfl rfl (show Rb _ _ ((hh.drop ((hh.take an) ++ (dq.take 500)).length)) from ((rb_of hM (List.mem_cons_of_mem _ (List.mem_cons_of_mem _ (List.mem_cons_of_mem _ (List.mem_cons_of_mem _ (List.mem_cons_of_mem _ (List.mem_cons_of_mem _ hmh))))))).drop ch ((hh.take an) ++ (dq.take 500)).length hcl)) rfl (by first | omega | (simp only [List.length_nil]; omega) | (simp only [List.length_take, List.length_drop, List.length_nil]; omega))) (fun _ => rfl) ?_
                 intro v218 w219 hM a hA
                 replace hM : Mg w w219 (.row BY 1 (v218) ((((hh.take an) ++ (dq.take 500)) ++ (hh.drop ((hh.take an) ++ (dq.take 500)).length)).length) ((Lib.byteCells (((hh.take an) ++ (dq.take 500)) ++ (hh.drop ((hh.take an) ++ (dq.take 500)).length)))) :: .obj g115 (.cells #[.slice sF195 ((FM 0 (ps.set kn (wrD an (dq.take 500) hh, true)) : List Fl).length) cF196, .slice sI197 (([] : List UInt8).length) cI198, .slice sO199 (([] : List UInt8).length) cO200] 37) :: .row BY 1 (.slice (some ⟨g106, 0, none⟩) 2 2) 2 ((Lib.byteCells [102, UInt8.ofNat (48 + kn)])) :: .row 4 1 (.slice (some ⟨gt, 0, none⟩) 8 8) 8 ((bl ps)) :: .row 24 1 (.slice (some ⟨gh, 0, none⟩) 8 8) 8 hv :: .obj g3 (.cells #[.slice sW1 ((FM 0 ps).length) cW1, .slice sW2 (([] : List UInt8).length) cW2, .slice sW3 (([] : List UInt8).length) cW3] 37) :: D192) := by
                   have h9 := hM
                   rw [← List.length_append, ← Lib.byteCells_append] at h9
                   exact h9
                 obtain ⟨so220, ca221, rfl⟩ := owns_sliceE (hM.has 0 rfl)
                 refine seq_do hA rfl rfl rfl (does_assign rfl) ?_
                 intro a hA
                 refine seq_end ?_
                 refine hK215 _ _ ?_
                 replace hA := hA.keep [(0, .slice sN ns.length cN), (1, .slice sR ds.length cR), (2, .int .u8 at_), (7, .pointer (some ⟨g3, 0, none⟩)), (8, .slice (some ⟨gh, 0, none⟩) 8 8), (9, .slice (some ⟨gt, 0, none⟩) 8 8), (10, .int .i64 (((i : Nat) : Int))), (11, .int .i64 (((kn : Nat) : Int))), (12, .string (nmK kn)), (13, .slice sj ((dq.take 500).length) cj), (14, .int .i64 0), (15, .pointer (some ⟨g115, 0, none⟩)), (16, .int .i64 (((an : Nat) : Int))), (17, .slice so220 ((((hh.take an) ++ (dq.take 500)) ++ (hh.drop ((hh.take an) ++ (dq.take 500)).length)).length) ca221), (69, .int .u8 (((sw : Nat) : Int)))] ⟨rfl, rfl, rfl, rfl, rfl, rfl, rfl, rfl, rfl, rfl, rfl, rfl, rfl, rfl, rfl, trivial⟩
                 refine wp_region_lit ?_
                 refine seq_do hA rfl rfl rfl (does_move rfl) ?_
                 intro a hA
                 refine seq_do hA rfl rfl rfl (does_move rfl) ?_
                 intro a hA
                 refine seq_do hA rfl rfl rfl (does_move rfl) ?_
                 intro a hA
                 refine seq_do (v := .pointer (some ⟨gh, kn * 1, none⟩)) hA rfl rfl rfl (does_indexX Try.underlying54 (by kernel_rfl) rfl rfl rfl rfl (show kn < 8 by omega)) ?_
                 intro a hA
                 refine s_storeE (cs := [.slice so220 ((((hh.take an) ++ (dq.take 500)) ++ (hh.drop ((hh.take an) ++ (dq.take 500)).length)).length) ca221]) (L' := (.row BY 1 (.slice so220 ((((hh.take an) ++ (dq.take 500)) ++ (hh.drop ((hh.take an) ++ (dq.take 500)).length)).length) ca221) ((((hh.take an) ++ (dq.take 500)) ++ (hh.drop ((hh.take an) ++ (dq.take 500)).length)).length) ((Lib.byteCells (((hh.take an) ++ (dq.take 500)) ++ (hh.drop ((hh.take an) ++ (dq.take 500)).length)))) :: .obj g115 (.cells #[.slice sF195 ((FM 0 (ps.set kn (wrD an (dq.take 500) hh, true)) : List Fl).length) cF196, .slice sI197 (([] : List UInt8).length) cI198, .slice sO199 (([] : List UInt8).length) cO200] 37) :: .row BY 1 (.slice (some ⟨g106, 0, none⟩) 2 2) 2 ((Lib.byteCells [102, UInt8.ofNat (48 + kn)])) :: .row 4 1 (.slice (some ⟨gt, 0, none⟩) 8 8) 8 ((bl ps)) :: .row 24 1 (.slice (some ⟨gh, 0, none⟩) 8 8) 8 ((over hv (kn * 1) [.slice so220 ((((hh.take an) ++ (dq.take 500)) ++ (hh.drop ((hh.take an) ++ (dq.take 500)).length)).length) ca221])) :: .obj g3 (.cells #[.slice sW1 ((FM 0 ps).length) cW1, .slice sW2 (([] : List UInt8).length) cW2, .slice sW3 (([] : List UInt8).length) cW3] 37) :: D192)) (us := []) hA hM rfl rfl (m_storeE rfl rfl rfl (by kernel_rfl) hM 4 rfl (show kn * 1 + 1 ≤ 8 * 1 by omega) rfl) 4 rfl rfl ?_
                 intro w222 hM
                 replace hM : Mg w w222 (.row BY 1 (.slice so220 ((((hh.take an) ++ (dq.take 500)) ++ (hh.drop ((hh.take an) ++ (dq.take 500)).length)).length) ca221) ((((hh.take an) ++ (dq.take 500)) ++ (hh.drop ((hh.take an) ++ (dq.take 500)).length)).length) ((Lib.byteCells (((hh.take an) ++ (dq.take 500)) ++ (hh.drop ((hh.take an) ++ (dq.take 500)).length)))) :: .obj g115 (.cells #[.slice sF195 ((FM 0 (ps.set kn (wrD an (dq.take 500) hh, true)) : List Fl).length) cF196, .slice sI197 (([] : List UInt8).length) cI198, .slice sO199 (([] : List UInt8).length) cO200] 37) :: .row BY 1 (.slice (some ⟨g106, 0, none⟩) 2 2) 2 ((Lib.byteCells [102, UInt8.ofNat (48 + kn)])) :: .row 4 1 (.slice (some ⟨gt, 0, none⟩) 8 8) 8 ((bl ps)) :: .row 24 1 (.slice (some ⟨gh, 0, none⟩) 8 8) 8 ((hv.set kn (.slice so220 ((((hh.take an) ++ (dq.take 500)) ++ (hh.drop ((hh.take an) ++ (dq.take 500)).length)).length) ca221))) :: .obj g3 (.cells #[.slice sW1 ((FM 0 ps).length) cW1, .slice sW2 (([] : List UInt8).length) cW2, .slice sW3 (([] : List UInt8).length) cW3] 37) :: D192) := by
                   have h9 := hM
                   rw [Nat.mul_one] at h9
                   exact h9
                 refine seq_end ?_
                 refine hK118 _ _ ?_
                 refine wp_seq_k (fun K223 hK223 => ?_)
                 refine wp_seq_k (fun K224 hK224 => ?_)
                 replace hA := hA.keep [(0, .slice sN ns.length cN), (1, .slice sR ds.length cR), (2, .int .u8 at_), (7, .pointer (some ⟨g3, 0, none⟩)), (8, .slice (some ⟨gh, 0, none⟩) 8 8), (9, .slice (some ⟨gt, 0, none⟩) 8 8), (10, .int .i64 (((i : Nat) : Int))), (11, .int .i64 (((kn : Nat) : Int))), (12, .string (nmK kn)), (13, .slice sj ((dq.take 500).length) cj), (14, .int .i64 0), (15, .pointer (some ⟨g115, 0, none⟩)), (16, .int .i64 (((an : Nat) : Int))), (17, .slice so220 ((((hh.take an) ++ (dq.take 500)) ++ (hh.drop ((hh.take an) ++ (dq.take 500)).length)).length) ca221), (69, .int .u8 (((sw : Nat) : Int)))] ⟨rfl, rfl, rfl, rfl, rfl, rfl, rfl, rfl, rfl, rfl, rfl, rfl, rfl, rfl, rfl, trivial⟩
                 refine wp_region_lit ?_
                 refine seq_do hA rfl rfl rfl (does_move rfl) ?_
                 intro a hA
                 refine seq_do (v := .bool false) hA rfl rfl rfl (does_bin rfl rfl (fun w => by kernel_rfl)) ?_
                 intro a hA
                 refine seq_end ?_
                 refine hK224 _ _ ?_
                 refine wp_cond_false (hA.ev rfl) ?_
                 refine wp_skip ?_
                 refine hK223 _ _ ?_
                 replace hA := hA.keep [(0, .slice sN ns.length cN), (1, .slice sR ds.length cR), (2, .int .u8 at_), (7, .pointer (some ⟨g3, 0, none⟩)), (8, .slice (some ⟨gh, 0, none⟩) 8 8), (9, .slice (some ⟨gt, 0, none⟩) 8 8), (10, .int .i64 (((i : Nat) : Int))), (11, .int .i64 (((kn : Nat) : Int))), (12, .string (nmK kn)), (13, .slice sj ((dq.take 500).length) cj), (14, .int .i64 0), (15, .pointer (some ⟨g115, 0, none⟩)), (16, .int .i64 (((an : Nat) : Int))), (17, .slice so220 ((((hh.take an) ++ (dq.take 500)) ++ (hh.drop ((hh.take an) ++ (dq.take 500)).length)).length) ca221), (69, .int .u8 (((sw : Nat) : Int)))] ⟨rfl, rfl, rfl, rfl, rfl, rfl, rfl, rfl, rfl, rfl, rfl, rfl, rfl, rfl, rfl, trivial⟩
                 refine wp_region_lit ?_
                 refine seq_do hA rfl rfl rfl (m_loadS hM Wp_isS_37 rfl 1 rfl (cs := [.slice sF195 ((FM 0 (ps.set kn (wrD an (dq.take 500) hh, true)) : List Fl).length) cF196, .slice sI197 (([] : List UInt8).length) cI198, .slice sO199 (([] : List UInt8).length) cO200]) rfl rfl) ?_
                 intro a hA
                 refine s_store (us := [.slice sF195 ((FM 0 (ps.set kn (wrD an (dq.take 500) hh, true)) : List Fl).length) cF196, .slice sI197 (([] : List UInt8).length) cI198, .slice sO199 (([] : List UInt8).length) cO200]) (L' := (.row BY 1 (.slice so220 ((((hh.take an) ++ (dq.take 500)) ++ (hh.drop ((hh.take an) ++ (dq.take 500)).length)).length) ca221) ((((hh.take an) ++ (dq.take 500)) ++ (hh.drop ((hh.take an) ++ (dq.take 500)).length)).length) ((Lib.byteCells (((hh.take an) ++ (dq.take 500)) ++ (hh.drop ((hh.take an) ++ (dq.take 500)).length)))) :: .obj g115 (.cells #[.slice sF195 ((FM 0 (ps.set kn (wrD an (dq.take 500) hh, true)) : List Fl).length) cF196, .slice sI197 (([] : List UInt8).length) cI198, .slice sO199 (([] : List UInt8).length) cO200] 37) :: .row BY 1 (.slice (some ⟨g106, 0, none⟩) 2 2) 2 ((Lib.byteCells [102, UInt8.ofNat (48 + kn)])) :: .row 4 1 (.slice (some ⟨gt, 0, none⟩) 8 8) 8 ((bl ps)) :: .row 24 1 (.slice (some ⟨gh, 0, none⟩) 8 8) 8 ((hv.set kn (.slice so220 ((((hh.take an) ++ (dq.take 500)) ++ (hh.drop ((hh.take an) ++ (dq.take 500)).length)).length) ca221))) :: .obj g3 (.cells #[.slice sF195 ((FM 0 (ps.set kn (wrD an (dq.take 500) hh, true)) : List Fl).length) cF196, .slice sI197 (([] : List UInt8).length) cI198, .slice sO199 (([] : List UInt8).length) cO200] 37) :: D192)) hA hM rfl rfl (m_store rfl rfl rfl (by kernel_rfl) hM 5 rfl rfl rfl) 5 rfl rfl rfl ?_
                 intro w225 hM
                 refine seq_end ?_
                 refine hK28 _ _ ?_
                 replace hA := hA.keep [(0, .slice sN ns.length cN), (1, .slice sR ds.length cR), (2, .int .u8 at_), (7, .pointer (some ⟨g3, 0, none⟩)), (8, .slice (some ⟨gh, 0, none⟩) 8 8), (9, .slice (some ⟨gt, 0, none⟩) 8 8), (10, .int .i64 (((i : Nat) : Int))), (11, .int .i64 (((kn : Nat) : Int))), (12, .string (nmK kn)), (13, .slice sj ((dq.take 500).length) cj), (14, .int .i64 0), (15, .pointer (some ⟨g115, 0, none⟩)), (16, .int .i64 (((an : Nat) : Int))), (17, .slice so220 ((((hh.take an) ++ (dq.take 500)) ++ (hh.drop ((hh.take an) ++ (dq.take 500)).length)).length) ca221), (69, .int .u8 (((sw : Nat) : Int)))] ⟨rfl, rfl, rfl, rfl, rfl, rfl, rfl, rfl, rfl, rfl, rfl, rfl, rfl, rfl, rfl, trivial⟩
                 refine wp_region_lit ?_
                 refine seq_do hA rfl rfl rfl (does_move rfl) ?_
                 intro a hA
                 refine seq_do (v := .int .i64 (((i + 1 : Nat) : Int))) hA rfl rfl rfl (does_bin rfl rfl (ar_add ((in_i64 (by omega) (by omega)).trans (by omega)))) ?_
                 intro a hA
                 refine seq_do hA rfl rfl rfl (does_assign rfl) ?_
                 intro a hA
                 refine seq_end ?_
                 have hwd : (((hh.take an) ++ (dq.take 500)) ++ (hh.drop ((hh.take an) ++ (dq.take 500)).length)) = (wrD an (dq.take 500) hh) := by unfold wrD; rw [hnl]
                 rw [hwd] at hM
                 have hwl : (wrD an (dq.take 500) hh).length ≤ 500 * (i + 1) := by
                   unfold wrD
                   rw [List.length_append, List.length_append, List.length_take, List.length_drop]
                   omega
                 obtain ⟨D226, hED226⟩ : ∃ X, X = .row BY 1 (.slice so220 ((wrD an (dq.take 500) hh).length) ca221) ((wrD an (dq.take 500) hh).length) ((Lib.byteCells (wrD an (dq.take 500) hh))) :: D192 := ⟨_, rfl⟩
                 have hnD226 : noBld D226 := hED226 ▸ noBld_cons (by simp) hnD192
                 have hs227 : ∀ c ∈ D192, c ∈ D226 := fun c hc => hED226 ▸ List.mem_cons_of_mem _ hc
                 have hm228 : .row BY 1 (.slice so220 ((wrD an (dq.take 500) hh).length) ca221) ((wrD an (dq.take 500) hh).length) ((Lib.byteCells (wrD an (dq.take 500) hh))) ∈ D226 := hED226 ▸ List.mem_cons_self
                 replace hM : Mg w w225 (.obj g115 (.cells #[.slice sF195 ((FM 0 (ps.set kn (wrD an (dq.take 500) hh, true)) : List Fl).length) cF196, .slice sI197 (([] : List UInt8).length) cI198, .slice sO199 (([] : List UInt8).length) cO200] 37) :: .row BY 1 (.slice (some ⟨g106, 0, none⟩) 2 2) 2 ((Lib.byteCells [102, UInt8.ofNat (48 + kn)])) :: .row 4 1 (.slice (some ⟨gt, 0, none⟩) 8 8) 8 ((bl ps)) :: .row 24 1 (.slice (some ⟨gh, 0, none⟩) 8 8) 8 ((hv.set kn (.slice so220 ((wrD an (dq.take 500) hh).length) ca221))) :: .obj g3 (.cells #[.slice sF195 ((FM 0 (ps.set kn (wrD an (dq.take 500) hh, true)) : List Fl).length) cF196, .slice sI197 (([] : List UInt8).length) cI198, .slice sO199 (([] : List UInt8).length) cO200] 37) :: D226) := by
                   have h9 := hM.perm (List.perm_middle (l₁ := [_, _, _, _, _])).symm
                   rw [← hED226] at h9
                   exact h9
                 replace hRw := hRw.mono hs227
                 replace hmh := hs227 _ hmh
                 replace hR190 := hR190.mono hs227
                 replace hH := hH.mono hs227
                 replace hM : Mg w w225 (.row 4 1 (.slice (some ⟨gt, 0, none⟩) 8 8) 8 ((bl ps)) :: .row 24 1 (.slice (some ⟨gh, 0, none⟩) 8 8) 8 ((hv.set kn (.slice so220 ((wrD an (dq.take 500) hh).length) ca221))) :: .obj g3 (.cells #[.slice sF195 ((FM 0 (ps.set kn (wrD an (dq.take 500) hh, true)) : List Fl).length) cF196, .slice sI197 (([] : List UInt8).length) cI198, .slice sO199 (([] : List UInt8).length) cO200] 37) :: D226) := by
                   have h9 := hM.sub (.cons _ (.cons _ (.cons_cons _ (.cons_cons _ (.cons_cons _ (.refl _))))))
                   exact h9
                 replace hM : Mg w w225 (.row 4 1 (.slice (some ⟨gt, 0, none⟩) 8 8) 8 ((bl (ps.set kn (wrD an (dq.take 500) hh, true)))) :: .row 24 1 (.slice (some ⟨gh, 0, none⟩) 8 8) 8 ((hv.set kn (.slice so220 ((wrD an (dq.take 500) hh).length) ca221))) :: .obj g3 (.cells #[.slice sF195 ((FM 0 (ps.set kn (wrD an (dq.take 500) hh, true)) : List Fl).length) cF196, .slice sI197 (([] : List UInt8).length) cI198, .slice sO199 (([] : List UInt8).length) cO200] 37) :: D226) := by
                   have h9 := hM
                   rw [bl_same hpk]
                   exact h9
                 refine hK21 _ _ _ (by omega) ⟨i + 1, (ps.set kn (wrD an (dq.take 500) hh, true)), (hv.set kn (.slice so220 ((wrD an (dq.take 500) hh).length) ca221)), sF195, cF196, sI197, cI198, sO199, cO200, D226, rfl, ⟨hR190, hnD226, (hH.put (by omega) hm228), (by rw [List.length_set]; exact hvl), (by rw [List.length_set]; exact hpl), (hsh.set (by omega) (fun _ => hwl)), by omega⟩, hA.keep _ ⟨rfl, rfl, rfl, rfl, rfl, rfl, rfl, trivial⟩, hM⟩
               · have hb217' := of_decide_eq_false hb217
                 refine seq_do (v := .bool false) hA rfl rfl rfl (does_bin rfl rfl (fun w => (bin_lss w).trans (by rw [hb217]))) ?_
                 intro a hA
                 refine seq_end ?_
                 refine hK216 _ _ ?_
                 refine wp_cond_false (hA.ev rfl) ?_
                 refine wp_skip ?_
                 refine hK215 _ _ ?_
                 replace hA := hA.keep [(0, .slice sN ns.length cN), (1, .slice sR ds.length cR), (2, .int .u8 at_), (7, .pointer (some ⟨g3, 0, none⟩)), (8, .slice (some ⟨gh, 0, none⟩) 8 8), (9, .slice (some ⟨gt, 0, none⟩) 8 8), (10, .int .i64 (((i : Nat) : Int))), (11, .int .i64 (((kn : Nat) : Int))), (12, .string (nmK kn)), (13, .slice sj ((dq.take 500).length) cj), (14, .int .i64 0), (15, .pointer (some ⟨g115, 0, none⟩)), (16, .int .i64 (((an : Nat) : Int))), (17, .slice so213 (((hh.take an) ++ (dq.take 500)).length) ca214), (69, .int .u8 (((sw : Nat) : Int)))] ⟨rfl, rfl, rfl, rfl, rfl, rfl, rfl, rfl, rfl, rfl, rfl, rfl, rfl, rfl, rfl, trivial⟩
                 refine wp_region_lit ?_
                 refine seq_do hA rfl rfl rfl (does_move rfl) ?_
                 intro a hA
                 refine seq_do hA rfl rfl rfl (does_move rfl) ?_
                 intro a hA
                 refine seq_do hA rfl rfl rfl (does_move rfl) ?_
                 intro a hA
                 refine seq_do (v := .pointer (some ⟨gh, kn * 1, none⟩)) hA rfl rfl rfl (does_indexX Try.underlying54 (by kernel_rfl) rfl rfl rfl rfl (show kn < 8 by omega)) ?_
                 intro a hA
                 refine s_storeE (cs := [.slice so213 (((hh.take an) ++ (dq.take 500)).length) ca214]) (L' := (.row BY 1 (.slice so213 (((hh.take an) ++ (dq.take 500)).length) ca214) (((hh.take an) ++ (dq.take 500)).length) ((Lib.byteCells ((hh.take an) ++ (dq.take 500)))) :: .obj g115 (.cells #[.slice sF195 ((FM 0 (ps.set kn (wrD an (dq.take 500) hh, true)) : List Fl).length) cF196, .slice sI197 (([] : List UInt8).length) cI198, .slice sO199 (([] : List UInt8).length) cO200] 37) :: .row BY 1 (.slice (some ⟨g106, 0, none⟩) 2 2) 2 ((Lib.byteCells [102, UInt8.ofNat (48 + kn)])) :: .row 4 1 (.slice (some ⟨gt, 0, none⟩) 8 8) 8 ((bl ps)) :: .row 24 1 (.slice (some ⟨gh, 0, none⟩) 8 8) 8 ((over hv (kn * 1) [.slice so213 (((hh.take an) ++ (dq.take 500)).length) ca214])) :: .obj g3 (.cells #[.slice sW1 ((FM 0 ps).length) cW1, .slice sW2 (([] : List UInt8).length) cW2, .slice sW3 (([] : List UInt8).length) cW3] 37) :: D192)) (us := []) hA hM rfl rfl (m_storeE rfl rfl rfl (by kernel_rfl) hM 4 rfl (show kn * 1 + 1 ≤ 8 * 1 by omega) rfl) 4 rfl rfl ?_
                 intro w229 hM
                 replace hM : Mg w w229 (.row BY 1 (.slice so213 (((hh.take an) ++ (dq.take 500)).length) ca214) (((hh.take an) ++ (dq.take 500)).length) ((Lib.byteCells ((hh.take an) ++ (dq.take 500)))) :: .obj g115 (.cells #[.slice sF195 ((FM 0 (ps.set kn (wrD an (dq.take 500) hh, true)) : List Fl).length) cF196, .slice sI197 (([] : List UInt8).length) cI198, .slice sO199 (([] : List UInt8).length) cO200] 37) :: .row BY 1 (.slice (some ⟨g106, 0, none⟩) 2 2) 2 ((Lib.byteCells [102, UInt8.ofNat (48 + kn)])) :: .row 4 1 (.slice (some ⟨gt, 0, none⟩) 8 8) 8 ((bl ps)) :: .row 24 1 (.slice (some ⟨gh, 0, none⟩) 8 8) 8 ((hv.set kn (.slice so213 (((hh.take an) ++ (dq.take 500)).length) ca214))) :: .obj g3 (.cells #[.slice sW1 ((FM 0 ps).length) cW1, .slice sW2 (([] : List UInt8).length) cW2, .slice sW3 (([] : List UInt8).length) cW3] 37) :: D192) := by
                   have h9 := hM
                   rw [Nat.mul_one] at h9
                   exact h9
                 refine seq_end ?_
                 refine hK118 _ _ ?_
                 refine wp_seq_k (fun K230 hK230 => ?_)
                 refine wp_seq_k (fun K231 hK231 => ?_)
                 replace hA := hA.keep [(0, .slice sN ns.length cN), (1, .slice sR ds.length cR), (2, .int .u8 at_), (7, .pointer (some ⟨g3, 0, none⟩)), (8, .slice (some ⟨gh, 0, none⟩) 8 8), (9, .slice (some ⟨gt, 0, none⟩) 8 8), (10, .int .i64 (((i : Nat) : Int))), (11, .int .i64 (((kn : Nat) : Int))), (12, .string (nmK kn)), (13, .slice sj ((dq.take 500).length) cj), (14, .int .i64 0), (15, .pointer (some ⟨g115, 0, none⟩)), (16, .int .i64 (((an : Nat) : Int))), (17, .slice so213 (((hh.take an) ++ (dq.take 500)).length) ca214), (69, .int .u8 (((sw : Nat) : Int)))] ⟨rfl, rfl, rfl, rfl, rfl, rfl, rfl, rfl, rfl, rfl, rfl, rfl, rfl, rfl, rfl, trivial⟩
                 refine wp_region_lit ?_
                 refine seq_do hA rfl rfl rfl (does_move rfl) ?_
                 intro a hA
                 refine seq_do (v := .bool false) hA rfl rfl rfl (does_bin rfl rfl (fun w => by kernel_rfl)) ?_
                 intro a hA
                 refine seq_end ?_
                 refine hK231 _ _ ?_
                 refine wp_cond_false (hA.ev rfl) ?_
                 refine wp_skip ?_
                 refine hK230 _ _ ?_
                 replace hA := hA.keep [(0, .slice sN ns.length cN), (1, .slice sR ds.length cR), (2, .int .u8 at_), (7, .pointer (some ⟨g3, 0, none⟩)), (8, .slice (some ⟨gh, 0, none⟩) 8 8), (9, .slice (some ⟨gt, 0, none⟩) 8 8), (10, .int .i64 (((i : Nat) : Int))), (11, .int .i64 (((kn : Nat) : Int))), (12, .string (nmK kn)), (13, .slice sj ((dq.take 500).length) cj), (14, .int .i64 0), (15, .pointer (some ⟨g115, 0, none⟩)), (16, .int .i64 (((an : Nat) : Int))), (17, .slice so213 (((hh.take an) ++ (dq.take 500)).length) ca214), (69, .int .u8 (((sw : Nat) : Int)))] ⟨rfl, rfl, rfl, rfl, rfl, rfl, rfl, rfl, rfl, rfl, rfl, rfl, rfl, rfl, rfl, trivial⟩
                 refine wp_region_lit ?_
                 refine seq_do hA rfl rfl rfl (m_loadS hM Wp_isS_37 rfl 1 rfl (cs := [.slice sF195 ((FM 0 (ps.set kn (wrD an (dq.take 500) hh, true)) : List Fl).length) cF196, .slice sI197 (([] : List UInt8).length) cI198, .slice sO199 (([] : List UInt8).length) cO200]) rfl rfl) ?_
                 intro a hA
                 refine s_store (us := [.slice sF195 ((FM 0 (ps.set kn (wrD an (dq.take 500) hh, true)) : List Fl).length) cF196, .slice sI197 (([] : List UInt8).length) cI198, .slice sO199 (([] : List UInt8).length) cO200]) (L' := (.row BY 1 (.slice so213 (((hh.take an) ++ (dq.take 500)).length) ca214) (((hh.take an) ++ (dq.take 500)).length) ((Lib.byteCells ((hh.take an) ++ (dq.take 500)))) :: .obj g115 (.cells #[.slice sF195 ((FM 0 (ps.set kn (wrD an (dq.take 500) hh, true)) : List Fl).length) cF196, .slice sI197 (([] : List UInt8).length) cI198, .slice sO199 (([] : List UInt8).length) cO200] 37) :: .row BY 1 (.slice (some ⟨g106, 0, none⟩) 2 2) 2 ((Lib.byteCells [102, UInt8.ofNat (48 + kn)])) :: .row 4 1 (.slice (some ⟨gt, 0, none⟩) 8 8) 8 ((bl ps)) :: .row 24 1 (.slice (some ⟨gh, 0, none⟩) 8 8) 8 ((hv.set kn (.slice so213 (((hh.take an) ++ (dq.take 500)).length) ca214))) :: .obj g3 (.cells #[.slice sF195 ((FM 0 (ps.set kn (wrD an (dq.take 500) hh, true)) : List Fl).length) cF196, .slice sI197 (([] : List UInt8).length) cI198, .slice sO199 (([] : List UInt8).length) cO200] 37) :: D192)) hA hM rfl rfl (m_store rfl rfl rfl (by kernel_rfl) hM 5 rfl rfl rfl) 5 rfl rfl rfl ?_
                 intro w232 hM
                 refine seq_end ?_
                 refine hK28 _ _ ?_
                 replace hA := hA.keep [(0, .slice sN ns.length cN), (1, .slice sR ds.length cR), (2, .int .u8 at_), (7, .pointer (some ⟨g3, 0, none⟩)), (8, .slice (some ⟨gh, 0, none⟩) 8 8), (9, .slice (some ⟨gt, 0, none⟩) 8 8), (10, .int .i64 (((i : Nat) : Int))), (11, .int .i64 (((kn : Nat) : Int))), (12, .string (nmK kn)), (13, .slice sj ((dq.take 500).length) cj), (14, .int .i64 0), (15, .pointer (some ⟨g115, 0, none⟩)), (16, .int .i64 (((an : Nat) : Int))), (17, .slice so213 (((hh.take an) ++ (dq.take 500)).length) ca214), (69, .int .u8 (((sw : Nat) : Int)))] ⟨rfl, rfl, rfl, rfl, rfl, rfl, rfl, rfl, rfl, rfl, rfl, rfl, rfl, rfl, rfl, trivial⟩
                 refine wp_region_lit ?_
                 refine seq_do hA rfl rfl rfl (does_move rfl) ?_
                 intro a hA
                 refine seq_do (v := .int .i64 (((i + 1 : Nat) : Int))) hA rfl rfl rfl (does_bin rfl rfl (ar_add ((in_i64 (by omega) (by omega)).trans (by omega)))) ?_
                 intro a hA
                 refine seq_do hA rfl rfl rfl (does_assign rfl) ?_
                 intro a hA
                 refine seq_end ?_
                 have hwd : ((hh.take an) ++ (dq.take 500)) = (wrD an (dq.take 500) hh) := by unfold wrD; rw [List.drop_eq_nil_of_le (by omega), List.append_nil]
                 rw [hwd] at hM
                 have hwl : (wrD an (dq.take 500) hh).length ≤ 500 * (i + 1) := by
                   unfold wrD
                   rw [List.length_append, List.length_append, List.length_take, List.length_drop]
                   omega
                 obtain ⟨D233, hED233⟩ : ∃ X, X = .row BY 1 (.slice so213 ((wrD an (dq.take 500) hh).length) ca214) ((wrD an (dq.take 500) hh).length) ((Lib.byteCells (wrD an (dq.take 500) hh))) :: D192 := ⟨_, rfl⟩
                 have hnD233 : noBld D233 := hED233 ▸ noBld_cons (by simp) hnD192
                 have hs234 : ∀ c ∈ D192, c ∈ D233 := fun c hc => hED233 ▸ List.mem_cons_of_mem _ hc
                 have hm235 : .row BY 1 (.slice so213 ((wrD an (dq.take 500) hh).length) ca214) ((wrD an (dq.take 500) hh).length) ((Lib.byteCells (wrD an (dq.take 500) hh))) ∈ D233 := hED233 ▸ List.mem_cons_self
                 replace hM : Mg w w232 (.obj g115 (.cells #[.slice sF195 ((FM 0 (ps.set kn (wrD an (dq.take 500) hh, true)) : List Fl).length) cF196, .slice sI197 (([] : List UInt8).length) cI198, .slice sO199 (([] : List UInt8).length) cO200] 37) :: .row BY 1 (.slice (some ⟨g106, 0, none⟩) 2 2) 2 ((Lib.byteCells [102, UInt8.ofNat (48 + kn)])) :: .row 4 1 (.slice (some ⟨gt, 0, none⟩) 8 8) 8 ((bl ps)) :: .row 24 1 (.slice (some ⟨gh, 0, none⟩) 8 8) 8 ((hv.set kn (.slice so213 ((wrD an (dq.take 500) hh).length) ca214))) :: .obj g3 (.cells #[.slice sF195 ((FM 0 (ps.set kn (wrD an (dq.take 500) hh, true)) : List Fl).length) cF196, .slice sI197 (([] : List UInt8).length) cI198, .slice sO199 (([] : List UInt8).length) cO200] 37) :: D233) := by
                   have h9 := hM.perm (List.perm_middle (l₁ := [_, _, _, _, _])).symm
                   rw [← hED233] at h9
                   exact h9
                 replace hRw := hRw.mono hs234
                 replace hmh := hs234 _ hmh
                 replace hR190 := hR190.mono hs234
                 replace hH := hH.mono hs234
                 replace hM : Mg w w232 (.row 4 1 (.slice (some ⟨gt, 0, none⟩) 8 8) 8 ((bl ps)) :: .row 24 1 (.slice (some ⟨gh, 0, none⟩) 8 8) 8 ((hv.set kn (.slice so213 ((wrD an (dq.take 500) hh).length) ca214))) :: .obj g3 (.cells #[.slice sF195 ((FM 0 (ps.set kn (wrD an (dq.take 500) hh, true)) : List Fl).length) cF196, .slice sI197 (([] : List UInt8).length) cI198, .slice sO199 (([] : List UInt8).length) cO200] 37) :: D233) := by
                   have h9 := hM.sub (.cons _ (.cons _ (.cons_cons _ (.cons_cons _ (.cons_cons _ (.refl _))))))
                   exact h9
                 replace hM : Mg w w232 (.row 4 1 (.slice (some ⟨gt, 0, none⟩) 8 8) 8 ((bl (ps.set kn (wrD an (dq.take 500) hh, true)))) :: .row 24 1 (.slice (some ⟨gh, 0, none⟩) 8 8) 8 ((hv.set kn (.slice so213 ((wrD an (dq.take 500) hh).length) ca214))) :: .obj g3 (.cells #[.slice sF195 ((FM 0 (ps.set kn (wrD an (dq.take 500) hh, true)) : List Fl).length) cF196, .slice sI197 (([] : List UInt8).length) cI198, .slice sO199 (([] : List UInt8).length) cO200] 37) :: D233) := by
                   have h9 := hM
                   rw [bl_same hpk]
                   exact h9
                 refine hK21 _ _ _ (by omega) ⟨i + 1, (ps.set kn (wrD an (dq.take 500) hh, true)), (hv.set kn (.slice so213 ((wrD an (dq.take 500) hh).length) ca214)), sF195, cF196, sI197, cI198, sO199, cO200, D233, rfl, ⟨hR190, hnD233, (hH.put (by omega) hm235), (by rw [List.length_set]; exact hvl), (by rw [List.length_set]; exact hpl), (hsh.set (by omega) (fun _ => hwl)), by omega⟩, hA.keep _ ⟨rfl, rfl, rfl, rfl, rfl, rfl, rfl, trivial⟩, hM⟩
         refine wp_cond_split (t := decide (500 < ((dq.length : Nat) : Int))) (hA.ev rfl) (fun hc236 => ?_) (fun hc236 => ?_)
         · have hc236' := of_decide_eq_true hc236
           replace hA := hA.keep [(0, .slice sN ns.length cN), (1, .slice sR ds.length cR), (2, .int .u8 at_), (7, .pointer (some ⟨g3, 0, none⟩)), (8, .slice (some ⟨gh, 0, none⟩) 8 8), (9, .slice (some ⟨gt, 0, none⟩) 8 8), (10, .int .i64 (((i : Nat) : Int))), (11, .int .i64 (((kn : Nat) : Int))), (12, .string (nmK kn)), (13, .slice sj dq.length cj)] ⟨rfl, rfl, rfl, rfl, rfl, rfl, rfl, rfl, rfl, rfl, trivial⟩
           refine wp_region_lit ?_
           refine seq_do hA rfl rfl rfl (does_move rfl) ?_
           intro a hA
           refine seq_do (v := .slice sj ((dq.take 500).length) cj) hA rfl rfl rfl (does_upto (sz := 1) (hi := (dq.take 500).length) Try.underlying24 (by kernel_rfl) rfl rfl (by rw [List.length_take]; omega) (by rw [List.length_take]; omega)) ?_
           intro a hA
           have hl500 : (dq.take 500).length = 500 := by rw [List.length_take]; omega
           refine seq_do hA rfl rfl rfl (does_assign rfl) ?_
           intro a hA
           refine seq_end ?_
           exact hJ111 _ _ ⟨hA.keep _ ⟨rfl, rfl, rfl, rfl, rfl, rfl, rfl, rfl, rfl, rfl, trivial⟩, hM⟩
         · have hc236' := of_decide_eq_false hc236
           refine wp_skip ?_
           rw [show dq.length = (dq.take 500).length from by rw [List.take_of_length_le (by omega)]] at hA
           exact hJ111 _ _ ⟨hA.keep _ ⟨rfl, rfl, rfl, rfl, rfl, rfl, rfl, rfl, rfl, rfl, trivial⟩, hM⟩
     · have hb27' := of_decide_eq_false hb27
       refine seq_do (v := .bool false) hA rfl rfl rfl (does_bin rfl rfl (fun w => (bin_lss w).trans (by rw [hb27]))) ?_
       intro a hA
       refine seq_do (v := .bool false) hA rfl rfl rfl (does_pick rfl rfl rfl rfl) ?_
       intro a hA
       refine seq_end ?_
       refine hK24 _ _ ?_
       refine wp_cond_false (hA.ev rfl) ?_
       refine wp_exit ?_
       refine hK14 _ _ ?_
       refine wp_seq_k (fun K237 hK237 => ?_)
       replace hA := hA.keep [(0, .slice sN ns.length cN), (1, .slice sR ds.length cR), (2, .int .u8 at_), (7, .pointer (some ⟨g3, 0, none⟩)), (8, .slice (some ⟨gh, 0, none⟩) 8 8), (9, .slice (some ⟨gt, 0, none⟩) 8 8), (10, .int .i64 (((i : Nat) : Int)))] ⟨rfl, rfl, rfl, rfl, rfl, rfl, rfl, trivial⟩
       refine wp_region_lit ?_
       refine seq_do hA rfl rfl rfl (does_assign rfl) ?_
       intro a hA
       refine seq_end ?_
       refine hK237 _ _ ?_
       refine wp_seq_k (fun K238 hK238 => ?_)
       refine wp_seq_k (fun K239 hK239 => ?_)
       refine wp_region_lit ?_
       refine seq_do hA rfl rfl rfl (does_assign rfl) ?_
       intro a hA
       refine seq_end ?_
       refine hK239 _ _ ?_
       refine wp_block ?_
       refine wp_loop_n (fun m_ a w1 => ∃ (kx : Nat) (c8 : Nat) (D : List Ck), m_ = 8 - kx ∧ (RwD D (.agg #[.slice sW1 ((FM 0 ps).length) cW1, .slice sW2 (([] : List UInt8).length) cW2, .slice sW3 (([] : List UInt8).length) cW3]) (FM 0 ps) [] [] ∧ noBld D ∧ Hd D ps hv ∧ c8 = cnt (ps.take kx) ∧ kx ≤ 8) ∧ Sl a 216 [(0, .slice sN ns.length cN), (1, .slice sR ds.length cR), (2, .int .u8 at_), (7, .pointer (some ⟨g3, 0, none⟩)), (8, .slice (some ⟨gh, 0, none⟩) 8 8), (9, .slice (some ⟨gt, 0, none⟩) 8 8), (10, .int .i64 (((i : Nat) : Int))), (18, .int .i64 (((c8 : Nat) : Int))), (19, .int .i64 (((kx : Nat) : Int)))] ∧ Mg w w1 (.row 4 1 (.slice (some ⟨gt, 0, none⟩) 8 8) 8 ((bl ps)) :: .row 24 1 (.slice (some ⟨gh, 0, none⟩) 8 8) 8 hv :: .obj g3 (.cells #[.slice sW1 ((FM 0 ps).length) cW1, .slice sW2 (([] : List UInt8).length) cW2, .slice sW3 (([] : List UInt8).length) cW3] 37) :: D)) _ ⟨0, 0, D, rfl, ⟨hRw, hnD, hH, rfl, Nat.zero_le _⟩, hA.keep _ ⟨rfl, rfl, rfl, rfl, rfl, rfl, rfl, rfl, rfl, trivial⟩, hM⟩ ?_
       clear hM hA
       rintro m_ a w240 ⟨kx, c8, D, rfl, hinv242, hA, hM⟩ K241 hK241
       obtain ⟨hRw, hnD, hH, hc8, hk9⟩ := hinv242
       have hcl8 : c8 ≤ 8 := by
         have h7 := cnt_le (ps.take kx)
         rw [List.length_take] at h7
         omega
       refine wp_seq_k (fun K243 hK243 => ?_)
       refine wp_seq_k (fun K244 hK244 => ?_)
       refine wp_region_lit ?_
       refine seq_do hA rfl rfl rfl (does_move rfl) ?_
       intro a hA
       rcases Bool.eq_false_or_eq_true (decide (((kx : Nat) : Int) < 8)) with hb245 | hb245
       · have hb245' := of_decide_eq_true hb245
         refine seq_do (v := .bool true) hA rfl rfl rfl (does_bin rfl rfl (fun w => (bin_lss w).trans (by rw [hb245]))) ?_
         intro a hA
         refine seq_end ?_
         refine hK244 _ _ ?_
         refine wp_cond_true (hA.ev rfl) ?_
         refine wp_skip ?_
         refine hK243 _ _ ?_
         refine wp_seq_k (fun K246 hK246 => ?_)
         refine wp_block ?_
         refine wp_seq_k (fun K247 hK247 => ?_)
         replace hA := hA.keep [(0, .slice sN ns.length cN), (1, .slice sR ds.length cR), (2, .int .u8 at_), (7, .pointer (some ⟨g3, 0, none⟩)), (8, .slice (some ⟨gh, 0, none⟩) 8 8), (9, .slice (some ⟨gt, 0, none⟩) 8 8), (10, .int .i64 (((i : Nat) : Int))), (18, .int .i64 (((c8 : Nat) : Int))), (19, .int .i64 (((kx : Nat) : Int)))] ⟨rfl, rfl, rfl, rfl, rfl, rfl, rfl, rfl, rfl, trivial⟩
         refine wp_region_lit ?_
         refine seq_do hA rfl rfl rfl (m_loadS hM Wp_isS_37 rfl 2 rfl (cs := [.slice sW1 ((FM 0 ps).length) cW1, .slice sW2 (([] : List UInt8).length) cW2, .slice sW3 (([] : List UInt8).length) cW3]) rfl rfl) ?_
         intro a hA
         refine seq_do hA rfl rfl rfl (does_move rfl) ?_
         intro a hA
         refine seq_do (v := .int .i64 (((48 + kx : Nat) : Int))) hA rfl rfl rfl (does_bin rfl rfl (ar_add ((in_i64 (by omega) (by omega)).trans (by omega)))) ?_
         intro a hA
         obtain ⟨hh, tt, hpk⟩ := pr_get (ps := ps) (k := kx) (by omega)
         rcases tt with _ | _
         · refine seq_do (v := .int .u8 (((48 + kx : Nat) : Int))) hA rfl rfl rfl (does_convert rfl (ar_conv Try.underlying3 Try.underlying5 (in_u8 (by omega) (by omega)))) ?_
           intro a hA
           refine s_lit (vs := [.int .u8 102, .int .u8 (((48 + kx : Nat) : Int))]) hA hM rfl rfl rfl (does_buildSlice rfl (by kernel_rfl)) rfl rfl (noBld_cons (by simp) (noBld_cons (by simp) (noBld_cons (by simp) hnD))) ?_
           intro g248 w249 hM a hA
           replace hM : Mg w w249 (.row BY 1 (.slice (some ⟨g248, 0, none⟩) 2 2) 2 ((Lib.byteCells [102, UInt8.ofNat (48 + kx)])) :: .row 4 1 (.slice (some ⟨gt, 0, none⟩) 8 8) 8 ((bl ps)) :: .row 24 1 (.slice (some ⟨gh, 0, none⟩) 8 8) 8 hv :: .obj g3 (.cells #[.slice sW1 ((FM 0 ps).length) cW1, .slice sW2 (([] : List UInt8).length) cW2, .slice sW3 (([] : List UInt8).length) cW3] 37) :: D) := by
             have h9 := hM
             rw [byteK (k := kx) (by omega)] at h9
             exact h9
           refine seq_do (v := .string (nmK kx)) hA rfl rfl rfl (does_convC rfl (conv_bytes Try.underlying24 Try.underlying5 Try.underlying9 (l := [102, UInt8.ofNat (48 + kx)]) (rb_row hM 0 rfl).1 2)) ?_
           intro a hA
           have hw250 := RwD.facts hM (hRw.mono (fun c hc => (List.mem_cons_of_mem _ (List.mem_cons_of_mem _ (List.mem_cons_of_mem _ (List.mem_cons_of_mem _ hc))))))
           refine seq_call hA rfl rfl rfl (enters_func rfl rfl (fun w => by kernel_rfl)) ((show Calls Try.prog 27 _ _ (fun e w' => ∃ v, e = .returned (.tuple #[v, .int .i64 7]) ∧ Mg _ w' [.row BY 1 v ([] : List UInt8).length (Lib.byteCells ([] : List UInt8))]) from (by have h8 := get_any (cF_ := cW1) (cI := cW2) (cO := cW3) (fs := (FM 0 ps)) (il := ([] : List UInt8)) (ol := ([] : List UInt8)) (nm := nmK kx) hw250.1 hw250.2.1 hw250.2.2.1 hfn; rw [((files_get hpl hsd hpk).trans (if_neg (by decide)))] at h8; exact h8))) ?_
           rintro _ w260 ⟨v251, rfl, hM252⟩
           obtain ⟨so257, ca258, rfl⟩ := owns_sliceE (hM252.has 0 rfl)
           obtain ⟨D254, hg253, hnD254, hs255, hs256⟩ := grow [_, _, _, _] (D := D) hM hM252 (noBld_cons (by simp) (noBld_cons (by simp) (noBld_cons (by simp) (noBld_cons (by simp) hnD)))) (noBld_cons (by simp) (noBld_quiet quietL_nil))
           replace hRw := hRw.mono hs255
           replace hH := hH.mono hs255
           have hp259 := hs256 _ (mem_at (k := 0) rfl)
           replace hM : Mg w w260 (.row BY 1 (.slice (some ⟨g248, 0, none⟩) 2 2) 2 ((Lib.byteCells [102, UInt8.ofNat (48 + kx)])) :: .row 4 1 (.slice (some ⟨gt, 0, none⟩) 8 8) 8 ((bl ps)) :: .row 24 1 (.slice (some ⟨gh, 0, none⟩) 8 8) 8 hv :: .obj g3 (.cells #[.slice sW1 ((FM 0 ps).length) cW1, .slice sW2 (([] : List UInt8).length) cW2, .slice sW3 (([] : List UInt8).length) cW3] 37) :: D254) := hg253
           refine ⟨_, rfl, ?_⟩
           intro a hA
           refine seq_do hA rfl rfl rfl (does_move rfl) ?_
           intro a hA
           refine seq_do (v := .slice so257 (([] : List UInt8).length) ca258) hA rfl rfl rfl (does_extract (vs := [.slice so257 (([] : List UInt8).length) ca258, .int .i64 7]) rfl rfl) ?_
           intro a hA
           refine seq_do (v := .int .i64 7) hA rfl rfl rfl (does_extract (vs := [.slice so257 (([] : List UInt8).length) ca258, .int .i64 7]) rfl rfl) ?_
           intro a hA
           refine seq_do hA rfl rfl rfl (does_assign rfl) ?_
           intro a hA
           refine seq_do hA rfl rfl rfl (does_assign rfl) ?_
           intro a hA
           refine seq_end ?_
           refine hK247 _ _ ?_
           refine wp_seq_k (fun K261 hK261 => ?_)
           refine wp_seq_k (fun K262 hK262 => ?_)
           replace hA := hA.keep [(0, .slice sN ns.length cN), (1, .slice sR ds.length cR), (2, .int .u8 at_), (7, .pointer (some ⟨g3, 0, none⟩)), (8, .slice (some ⟨gh, 0, none⟩) 8 8), (9, .slice (some ⟨gt, 0, none⟩) 8 8), (10, .int .i64 (((i : Nat) : Int))), (18, .int .i64 (((c8 : Nat) : Int))), (19, .int .i64 (((kx : Nat) : Int))), (20, .slice so257 (([] : List UInt8).length) ca258), (21, .int .i64 7)] ⟨rfl, rfl, rfl, rfl, rfl, rfl, rfl, rfl, rfl, rfl, rfl, trivial⟩
           refine wp_region_lit ?_
           refine seq_do hA rfl rfl rfl (does_move rfl) ?_
           intro a hA
           refine seq_do (v := .bool false) hA rfl rfl rfl (does_bin rfl rfl (fun w => by kernel_rfl)) ?_
           intro a hA
           refine seq_do hA rfl rfl rfl (does_move rfl) ?_
           intro a hA
           refine seq_do hA rfl rfl rfl (does_move rfl) ?_
           intro a hA
           refine seq_do (v := .pointer (some ⟨gt, kx * 1, none⟩)) hA rfl rfl rfl (does_indexX Try.underlying55 (by kernel_rfl) rfl rfl rfl rfl (show kx < 8 by omega)) ?_
           intro a hA
           refine seq_do (v := .bool false) hA rfl rfl rfl (m_loadX hM 1 rfl rfl (show (bl ps)[kx * 1]? = some (.bool false) from by rw [Nat.mul_one]; exact bl_at hpk) Wp_is1_4 rfl) ?_
           intro a hA
           refine seq_do (v := .bool false) hA rfl rfl rfl (does_bin rfl rfl (bin_neqB Try.underlying4)) ?_
           intro a hA
           refine seq_do hA rfl rfl rfl (does_move rfl) ?_
           intro a hA
           refine seq_do hA rfl rfl rfl (does_move rfl) ?_
           intro a hA
           refine seq_do hA rfl rfl rfl (does_move rfl) ?_
           intro a hA
           refine seq_do (v := .pointer (some ⟨gt, kx * 1, none⟩)) hA rfl rfl rfl (does_indexX Try.underlying55 (by kernel_rfl) rfl rfl rfl rfl (show kx < 8 by omega)) ?_
           intro a hA
           refine seq_do (v := .bool false) hA rfl rfl rfl (m_loadX hM 1 rfl rfl (show (bl ps)[kx * 1]? = some (.bool false) from by rw [Nat.mul_one]; exact bl_at hpk) Wp_is1_4 rfl) ?_
           intro a hA
           refine seq_do hA rfl rfl rfl (does_move rfl) ?_
           intro a hA
           refine seq_skip hA rfl rfl rfl ?_
           intro a hA
           refine seq_skip hA rfl rfl rfl ?_
           intro a hA
           refine seq_skip hA rfl rfl rfl ?_
           intro a hA
           refine seq_skip hA rfl rfl rfl ?_
           intro a hA
           refine seq_skip hA rfl rfl rfl ?_
           intro a hA
           refine seq_skip hA rfl rfl rfl ?_
           intro a hA
           refine seq_skip hA rfl rfl rfl ?_
           intro a hA
           refine seq_do (v := .bool false) hA rfl rfl rfl (does_pick rfl rfl rfl rfl) ?_
           intro a hA
           refine seq_do (v := .bool false) hA rfl rfl rfl (does_pick rfl rfl rfl rfl) ?_
           intro a hA
           refine seq_end ?_
           refine hK262 _ _ ?_
           refine wp_cond_false (hA.ev rfl) ?_
           refine wp_skip ?_
           refine hK261 _ _ ?_
           refine wp_seq_k (fun K263 hK263 => ?_)
           replace hA := hA.keep [(0, .slice sN ns.length cN), (1, .slice sR ds.length cR), (2, .int .u8 at_), (7, .pointer (some ⟨g3, 0, none⟩)), (8, .slice (some ⟨gh, 0, none⟩) 8 8), (9, .slice (some ⟨gt, 0, none⟩) 8 8), (10, .int .i64 (((i : Nat) : Int))), (18, .int .i64 (((c8 : Nat) : Int))), (19, .int .i64 (((kx : Nat) : Int))), (20, .slice so257 (([] : List UInt8).length) ca258), (21, .int .i64 7)] ⟨rfl, rfl, rfl, rfl, rfl, rfl, rfl, rfl, rfl, rfl, rfl, trivial⟩
           refine wp_region_lit ?_
           refine seq_do hA rfl rfl rfl (does_move rfl) ?_
           intro a hA
           refine seq_do hA rfl rfl rfl (does_move rfl) ?_
           intro a hA
           refine seq_do (v := .pointer (some ⟨gt, kx * 1, none⟩)) hA rfl rfl rfl (does_indexX Try.underlying55 (by kernel_rfl) rfl rfl rfl rfl (show kx < 8 by omega)) ?_
           intro a hA
           refine seq_do (v := .bool false) hA rfl rfl rfl (m_loadX hM 1 rfl rfl (show (bl ps)[kx * 1]? = some (.bool false) from by rw [Nat.mul_one]; exact bl_at hpk) Wp_is1_4 rfl) ?_
           intro a hA
           refine seq_end ?_
           refine hK263 _ _ ?_
           refine wp_cond_false (hA.ev rfl) ?_
           refine wp_skip ?_
           refine hK246 _ _ ?_
           replace hA := hA.keep [(0, .slice sN ns.length cN), (1, .slice sR ds.length cR), (2, .int .u8 at_), (7, .pointer (some ⟨g3, 0, none⟩)), (8, .slice (some ⟨gh, 0, none⟩) 8 8), (9, .slice (some ⟨gt, 0, none⟩) 8 8), (10, .int .i64 (((i : Nat) : Int))), (18, .int .i64 (((c8 : Nat) : Int))), (19, .int .i64 (((kx : Nat) : Int))), (20, .slice so257 (([] : List UInt8).length) ca258), (21, .int .i64 7)] ⟨rfl, rfl, rfl, rfl, rfl, rfl, rfl, rfl, rfl, rfl, rfl, trivial⟩
           refine wp_region_lit ?_
           refine seq_do hA rfl rfl rfl (does_move rfl) ?_
           intro a hA
           refine seq_do (v := .int .i64 (((kx + 1 : Nat) : Int))) hA rfl rfl rfl (does_bin rfl rfl (ar_add ((in_i64 (by omega) (by omega)).trans (by omega)))) ?_
           intro a hA
           refine seq_do hA rfl rfl rfl (does_assign rfl) ?_
           intro a hA
           refine seq_end ?_
           replace hM : Mg w w260 (.row 4 1 (.slice (some ⟨gt, 0, none⟩) 8 8) 8 ((bl ps)) :: .row 24 1 (.slice (some ⟨gh, 0, none⟩) 8 8) 8 hv :: .obj g3 (.cells #[.slice sW1 ((FM 0 ps).length) cW1, .slice sW2 (([] : List UInt8).length) cW2, .slice sW3 (([] : List UInt8).length) cW3] 37) :: D254) := by
             have h9 := hM.sub (.cons _ (.cons_cons _ (.cons_cons _ (.cons_cons _ (.refl _)))))
             exact h9
           refine hK241 _ _ _ (by omega) ⟨kx + 1, c8, D254, rfl, ⟨hRw, hnD254, hH, (by rw [cnt_step hpk, if_neg (by decide)]; omega), by omega⟩, hA.keep _ ⟨rfl, rfl, rfl, rfl, rfl, rfl, rfl, rfl, rfl, trivial⟩, hM⟩
         · have hhl : hh.length ≤ 500 * i := hsh _ (List.mem_of_getElem? hpk) rfl
           obtain ⟨vh, hvh, hmh⟩ := hH kx hh hpk
           obtain ⟨sh, ch, rfl, _, hcl⟩ := rb_mem hM (List.mem_cons_of_mem _ (List.mem_cons_of_mem _ (List.mem_cons_of_mem _ hmh)))
           refine seq_do (v := .int .u8 (((48 + kx : Nat) : Int))) hA rfl rfl rfl (does_convert rfl (ar_conv Try.underlying3 Try.underlying5 (in_u8 (by omega) (by omega)))) ?_
           intro a hA
           refine s_lit (vs := [.int .u8 102, .int .u8 (((48 + kx : Nat) : Int))]) hA hM rfl rfl rfl (does_buildSlice rfl (by kernel_rfl)) rfl rfl (noBld_cons (by simp) (noBld_cons (by simp) (noBld_cons (by simp) hnD))) ?_
           intro g264 w265 hM a hA
           replace hM : Mg w w265 (.row BY 1 (.slice (some ⟨g264, 0, none⟩) 2 2) 2 ((Lib.byteCells [102, UInt8.ofNat (48 + kx)])) :: .row 4 1 (.slice (some ⟨gt, 0, none⟩) 8 8) 8 ((bl ps)) :: .row 24 1 (.slice (some ⟨gh, 0, none⟩) 8 8) 8 hv :: .obj g3 (.cells #[.slice sW1 ((FM 0 ps).length) cW1, .slice sW2 (([] : List UInt8).length) cW2, .slice sW3 (([] : List UInt8).length) cW3] 37) :: D) := by
             have h9 := hM
             rw [byteK (k := kx) (by omega)] at h9
             exact h9
           refine seq_do (v := .string (nmK kx)) hA rfl rfl rfl (does_convC rfl (conv_bytes Try.underlying24 Try.underlying5 Try.underlying9 (l := [102, UInt8.ofNat (48 + kx)]) (rb_row hM 0 rfl).1 2)) ?_
           intro a hA
           have hw266 := RwD.facts hM (hRw.mono (fun c hc => (List.mem_cons_of_mem _ (List.mem_cons_of_mem _ (List.mem_cons_of_mem _ (List.mem_cons_of_mem _ hc))))))
           refine seq_call hA rfl rfl rfl (enters_func rfl rfl (fun w => by kernel_rfl)) ((show Calls Try.prog 27 _ _ (fun e w' => ∃ v, e = .returned (.tuple #[v, .int .i64 0]) ∧ Mg _ w' [.row BY 1 v hh.length (Lib.byteCells hh)]) from (by have h8 := get_any (cF_ := cW1) (cI := cW2) (cO := cW3) (fs := (FM 0 ps)) (il := ([] : List UInt8)) (ol := ([] : List UInt8)) (nm := nmK kx) hw266.1 hw266.2.1 hw266.2.2.1 hfn; rw [((files_get hpl hsd hpk).trans (if_pos rfl))] at h8; exact h8))) ?_
           rintro _ w276 ⟨v267, rfl, hM268⟩
           obtain ⟨so273, ca274, rfl⟩ := owns_sliceE (hM268.has 0 rfl)
           obtain ⟨D270, hg269, hnD270, hs271, hs272⟩ := grow [_, _, _, _] (D := D) hM hM268 (noBld_cons (by simp) (noBld_cons (by simp) (noBld_cons (by simp) (noBld_cons (by simp) hnD)))) (noBld_cons (by simp) (noBld_quiet quietL_nil))
           replace hRw := hRw.mono hs271
           replace hmh := hs271 _ hmh
           replace hH := hH.mono hs271
           have hp275 := hs272 _ (mem_at (k := 0) rfl)
           replace hM : Mg w w276 (.row BY 1 (.slice (some ⟨g264, 0, none⟩) 2 2) 2 ((Lib.byteCells [102, UInt8.ofNat (48 + kx)])) :: .row 4 1 (.slice (some ⟨gt, 0, none⟩) 8 8) 8 ((bl ps)) :: .row 24 1 (.slice (some ⟨gh, 0, none⟩) 8 8) 8 hv :: .obj g3 (.cells #[.slice sW1 ((FM 0 ps).length) cW1, .slice sW2 (([] : List UInt8).length) cW2, .slice sW3 (([] : List UInt8).length) cW3] 37) :: D270) := hg269
           refine ⟨_, rfl, ?_⟩
           intro a hA
           refine seq_do hA rfl rfl rfl (does_move rfl) ?_
           intro a hA
           refine seq_do (v := .slice so273 hh.length ca274) hA rfl rfl rfl (does_extract (vs := [.slice so273 hh.length ca274, .int .i64 0]) rfl rfl) ?_
           intro a hA
           refine seq_do (v := .int .i64 0) hA rfl rfl rfl (does_extract (vs := [.slice so273 hh.length ca274, .int .i64 0]) rfl rfl) ?_
           intro a hA
           refine seq_do hA rfl rfl rfl (does_assign rfl) ?_
           intro a hA
           refine seq_do hA rfl rfl rfl (does_assign rfl) ?_
           intro a hA
           refine seq_end ?_
           refine hK247 _ _ ?_
           refine wp_seq_k (fun K277 hK277 => ?_)
           refine wp_seq_k (fun K278 hK278 => ?_)
           replace hA := hA.keep [(0, .slice sN ns.length cN), (1, .slice sR ds.length cR), (2, .int .u8 at_), (7, .pointer (some ⟨g3, 0, none⟩)), (8, .slice (some ⟨gh, 0, none⟩) 8 8), (9, .slice (some ⟨gt, 0, none⟩) 8 8), (10, .int .i64 (((i : Nat) : Int))), (18, .int .i64 (((c8 : Nat) : Int))), (19, .int .i64 (((kx : Nat) : Int))), (20, .slice so273 hh.length ca274), (21, .int .i64 0)] ⟨rfl, rfl, rfl, rfl, rfl, rfl, rfl, rfl, rfl, rfl, rfl, trivial⟩
           refine wp_region_lit ?_
           refine seq_do hA rfl rfl rfl (does_move rfl) ?_
           intro a hA
           refine seq_do (v := .bool true) hA rfl rfl rfl (does_bin rfl rfl (fun w => by kernel_rfl)) ?_
           intro a hA
           refine seq_do hA rfl rfl rfl (does_move rfl) ?_
           intro a hA
           refine seq_do hA rfl rfl rfl (does_move rfl) ?_
           intro a hA
           refine seq_do (v := .pointer (some ⟨gt, kx * 1, none⟩)) hA rfl rfl rfl (does_indexX Try.underlying55 (by kernel_rfl) rfl rfl rfl rfl (show kx < 8 by omega)) ?_
           intro a hA
           refine seq_do (v := .bool true) hA rfl rfl rfl (m_loadX hM 1 rfl rfl (show (bl ps)[kx * 1]? = some (.bool true) from by rw [Nat.mul_one]; exact bl_at hpk) Wp_is1_4 rfl) ?_
           intro a hA
           refine seq_do (v := .bool false) hA rfl rfl rfl (does_bin rfl rfl (bin_neqB Try.underlying4)) ?_
           intro a hA
           refine seq_do hA rfl rfl rfl (does_move rfl) ?_
           intro a hA
           refine seq_do hA rfl rfl rfl (does_move rfl) ?_
           intro a hA
           refine seq_do hA rfl rfl rfl (does_move rfl) ?_
           intro a hA
           refine seq_do (v := .pointer (some ⟨gt, kx * 1, none⟩)) hA rfl rfl rfl (does_indexX Try.underlying55 (by kernel_rfl) rfl rfl rfl rfl (show kx < 8 by omega)) ?_
           intro a hA
           refine seq_do (v := .bool true) hA rfl rfl rfl (m_loadX hM 1 rfl rfl (show (bl ps)[kx * 1]? = some (.bool true) from by rw [Nat.mul_one]; exact bl_at hpk) Wp_is1_4 rfl) ?_
           intro a hA
           refine seq_do hA rfl rfl rfl (does_move rfl) ?_
           intro a hA
           refine seq_do hA rfl rfl rfl (does_move rfl) ?_
           intro a hA
           refine seq_do hA rfl rfl rfl (does_move rfl) ?_
           intro a hA
           refine seq_do hA rfl rfl rfl (does_move rfl) ?_
           intro a hA
           refine seq_do (v := .pointer (some ⟨gh, kx * 1, none⟩)) hA rfl rfl rfl (does_indexX Try.underlying54 (by kernel_rfl) rfl rfl rfl rfl (show kx < 8 by omega)) ?_
           intro a hA
           refine seq_do (v := .slice sh hh.length ch) hA rfl rfl rfl (m_loadX hM 2 rfl rfl (show hv[kx * 1]? = some _ from by rw [Nat.mul_one]; exact hvh) Wp_is1_24 rfl) ?_
           intro a hA
           refine seq_call hA rfl rfl rfl (enters_func rfl rfl (fun w => by kernel_rfl)) (same_as (xs := hh) (ys := hh) (ca := ca274) (cb := ch) (b := true) (rb_of hM (List.mem_cons_of_mem _ (List.mem_cons_of_mem _ (List.mem_cons_of_mem _ (List.mem_cons_of_mem _ hp275))))) (rb_of hM (List.mem_cons_of_mem _ (List.mem_cons_of_mem _ (List.mem_cons_of_mem _ (List.mem_cons_of_mem _ hmh))))) (by omega) (decide_eq_true rfl)) ?_
           rintro _ w280 ⟨rfl, hb279⟩
           replace hM := hM.call hb279
           refine ⟨_, rfl, ?_⟩
           intro a hA
           refine seq_do (v := .bool false) hA rfl rfl rfl (does_un rfl un_not) ?_
           intro a hA
           refine seq_do (v := .bool false) hA rfl rfl rfl (does_pick rfl rfl rfl rfl) ?_
           intro a hA
           refine seq_do (v := .bool false) hA rfl rfl rfl (does_pick rfl rfl rfl rfl) ?_
           intro a hA
           refine seq_end ?_
           refine hK278 _ _ ?_
           refine wp_cond_false (hA.ev rfl) ?_
           refine wp_skip ?_
           refine hK277 _ _ ?_
           refine wp_seq_k (fun K281 hK281 => ?_)
           replace hA := hA.keep [(0, .slice sN ns.length cN), (1, .slice sR ds.length cR), (2, .int .u8 at_), (7, .pointer (some ⟨g3, 0, none⟩)), (8, .slice (some ⟨gh, 0, none⟩) 8 8), (9, .slice (some ⟨gt, 0, none⟩) 8 8), (10, .int .i64 (((i : Nat) : Int))), (18, .int .i64 (((c8 : Nat) : Int))), (19, .int .i64 (((kx : Nat) : Int))), (20, .slice so273 hh.length ca274), (21, .int .i64 0)] ⟨rfl, rfl, rfl, rfl, rfl, rfl, rfl, rfl, rfl, rfl, rfl, trivial⟩
           refine wp_region_lit ?_
           refine seq_do hA rfl rfl rfl (does_move rfl) ?_
           intro a hA
           refine seq_do hA rfl rfl rfl (does_move rfl) ?_
           intro a hA
           refine seq_do (v := .pointer (some ⟨gt, kx * 1, none⟩)) hA rfl rfl rfl (does_indexX Try.underlying55 (by kernel_rfl) rfl rfl rfl rfl (show kx < 8 by omega)) ?_
           intro a hA
           refine seq_do (v := .bool true) hA rfl rfl rfl (m_loadX hM 1 rfl rfl (show (bl ps)[kx * 1]? = some (.bool true) from by rw [Nat.mul_one]; exact bl_at hpk) Wp_is1_4 rfl) ?_
           intro a hA
           refine seq_end ?_
           refine hK281 _ _ ?_
           refine wp_cond_true (hA.ev rfl) ?_
           replace hA := hA.keep [(0, .slice sN ns.length cN), (1, .slice sR ds.length cR), (2, .int .u8 at_), (7, .pointer (some ⟨g3, 0, none⟩)), (8, .slice (some ⟨gh, 0, none⟩) 8 8), (9, .slice (some ⟨gt, 0, none⟩) 8 8), (10, .int .i64 (((i : Nat) : Int))), (18, .int .i64 (((c8 : Nat) : Int))), (19, .int .i64 (((kx : Nat) : Int))), (20, .slice so273 hh.length ca274), (21, .int .i64 0)] ⟨rfl, rfl, rfl, rfl, rfl, rfl, rfl, rfl, rfl, rfl, rfl, trivial⟩
           refine wp_region_lit ?_
           refine seq_do hA rfl rfl rfl (does_move rfl) ?_
           intro a hA
           refine seq_do (v := .int .i64 (((c8 + 1 : Nat) : Int))) hA rfl rfl rfl (does_bin rfl rfl (ar_add ((in_i64 (by omega) (by omega)).trans (by omega)))) ?_
           intro a hA
           refine seq_do hA rfl rfl rfl (does_assign rfl) ?_
           intro a hA
           refine seq_end ?_
           refine hK246 _ _ ?_
           replace hA := hA.keep [(0, .slice sN ns.length cN), (1, .slice sR ds.length cR), (2, .int .u8 at_), (7, .pointer (some ⟨g3, 0, none⟩)), (8, .slice (some ⟨gh, 0, none⟩) 8 8), (9, .slice (some ⟨gt, 0, none⟩) 8 8), (10, .int .i64 (((i : Nat) : Int))), (18, .int .i64 (((c8 + 1 : Nat) : Int))), (19, .int .i64 (((kx : Nat) : Int))), (20, .slice so273 hh.length ca274), (21, .int .i64 0)] ⟨rfl, rfl, rfl, rfl, rfl, rfl, rfl, rfl, rfl, rfl, rfl, trivial⟩
           refine wp_region_lit ?_
           refine seq_do hA rfl rfl rfl (does_move rfl) ?_
           intro a hA
           refine seq_do (v := .int .i64 (((kx + 1 : Nat) : Int))) hA rfl rfl rfl (does_bin rfl rfl (ar_add ((in_i64 (by omega) (by omega)).trans (by omega)))) ?_
           intro a hA
           refine seq_do hA rfl rfl rfl (does_assign rfl) ?_
           intro a hA
           refine seq_end ?_
           replace hM : Mg w w280 (.row 4 1 (.slice (some ⟨gt, 0, none⟩) 8 8) 8 ((bl ps)) :: .row 24 1 (.slice (some ⟨gh, 0, none⟩) 8 8) 8 hv :: .obj g3 (.cells #[.slice sW1 ((FM 0 ps).length) cW1, .slice sW2 (([] : List UInt8).length) cW2, .slice sW3 (([] : List UInt8).length) cW3] 37) :: D270) := by
             have h9 := hM.sub (.cons _ (.cons_cons _ (.cons_cons _ (.cons_cons _ (.refl _)))))
             exact h9
           refine hK241 _ _ _ (by omega) ⟨kx + 1, c8 + 1, D270, rfl, ⟨hRw, hnD270, hH, (by rw [cnt_step hpk, if_pos rfl]; omega), by omega⟩, hA.keep _ ⟨rfl, rfl, rfl, rfl, rfl, rfl, rfl, rfl, rfl, trivial⟩, hM⟩
       · have hb245' := of_decide_eq_false hb245
         refine seq_do (v := .bool false) hA rfl rfl rfl (does_bin rfl rfl (fun w => (bin_lss w).trans (by rw [hb245]))) ?_
         intro a hA
         refine seq_end ?_
         refine hK244 _ _ ?_
         refine wp_cond_false (hA.ev rfl) ?_
         refine wp_exit ?_
         refine hK238 _ _ ?_
         refine wp_seq_k (fun K282 hK282 => ?_)
         replace hA := hA.keep [(0, .slice sN ns.length cN), (1, .slice sR ds.length cR), (2, .int .u8 at_), (7, .pointer (some ⟨g3, 0, none⟩)), (8, .slice (some ⟨gh, 0, none⟩) 8 8), (9, .slice (some ⟨gt, 0, none⟩) 8 8), (10, .int .i64 (((i : Nat) : Int))), (18, .int .i64 (((c8 : Nat) : Int))), (19, .int .i64 (((kx : Nat) : Int)))] ⟨rfl, rfl, rfl, rfl, rfl, rfl, rfl, rfl, rfl, trivial⟩
         refine wp_region_lit ?_
         refine seq_do (v := .pointer (some ⟨g3, 0, none⟩)) hA rfl rfl rfl (does_field Wp_fld_37_0 rfl rfl) ?_
         intro a hA
         refine seq_do hA rfl rfl rfl (m_load1 hM Wp_is1_35 rfl 2 rfl rfl) ?_
         intro a hA
         refine seq_do (v := .int .i64 ((((FM 0 ps).length : Nat) : Int))) hA rfl rfl rfl (does_len Try.underlying35 rfl) ?_
         intro a hA
         refine seq_do hA rfl rfl rfl (does_move rfl) ?_
         intro a hA
         refine seq_do (v := .bool true) hA rfl rfl rfl (does_bin rfl rfl (fun w => (bin_eql w).trans (by rw [show (((((FM 0 ps).length : Nat) : Int) == ((c8 : Nat) : Int))) = true from (by have h7 := FM_len ps 0; rw [List.take_of_length_le (by omega)] at hc8; rw [beq_iff_eq]; omega)]))) ?_
         intro a hA
         refine seq_do hA rfl rfl rfl (does_move rfl) ?_
         intro a hA
         refine seq_do hA rfl rfl rfl (m_loadS hM Wp_isS_37 rfl 2 rfl (cs := [.slice sW1 ((FM 0 ps).length) cW1, .slice sW2 (([] : List UInt8).length) cW2, .slice sW3 (([] : List UInt8).length) cW3]) rfl rfl) ?_
         intro a hA
         have hw283 := RwD.facts hM (hRw.mono (fun c hc => (List.mem_cons_of_mem _ (List.mem_cons_of_mem _ (List.mem_cons_of_mem _ hc)))))
         refine seq_call hA rfl rfl rfl (enters_func rfl rfl (fun w => by kernel_rfl)) (sound_as (cF_ := cW1) (cI := cW2) (cO := cW3) (fs := (FM 0 ps)) (il := ([] : List UInt8)) (ol := ([] : List UInt8)) (b := true) hw283.1 hfn hsd) ?_
         rintro _ w285 ⟨rfl, hb284⟩
         replace hM := hM.call hb284
         refine ⟨_, rfl, ?_⟩
         intro a hA
         refine seq_do (v := .bool true) hA rfl rfl rfl (does_pick rfl rfl rfl rfl) ?_
         intro a hA
         refine seq_do hA rfl rfl rfl (does_assign rfl) ?_
         intro a hA
         refine seq_end ?_
         refine hK282 _ _ ?_
         refine wp_ret ?_
         refine hret _ _ ?_
         refine ends (v := .bool true) hA rfl (.cons (res_tmp rfl) .nil) rfl ?_
         exact ⟨rfl, hM.bel⟩
   · have hb26' := of_decide_eq_false hb26
     refine seq_do (v := .bool false) hA rfl rfl rfl (does_bin rfl rfl (fun w => (bin_lss w).trans (by rw [hb26]))) ?_
     intro a hA
     refine seq_do (v := .bool false) hA rfl rfl rfl (does_pick rfl rfl rfl rfl) ?_
     intro a hA
     refine seq_do hA rfl rfl rfl (does_move rfl) ?_
     intro a hA
     refine seq_skip hA rfl rfl rfl ?_
     intro a hA
     refine seq_skip hA rfl rfl rfl ?_
     intro a hA
     refine seq_do (v := .bool false) hA rfl rfl rfl (does_pick rfl rfl rfl rfl) ?_
     intro a hA
     refine seq_end ?_
     refine hK24 _ _ ?_
     refine wp_cond_false (hA.ev rfl) ?_
     refine wp_exit ?_
     refine hK14 _ _ ?_
     refine wp_seq_k (fun K286 hK286 => ?_)
     replace hA := hA.keep [(0, .slice sN ns.length cN), (1, .slice sR ds.length cR), (2, .int .u8 at_), (7, .pointer (some ⟨g3, 0, none⟩)), (8, .slice (some ⟨gh, 0, none⟩) 8 8), (9, .slice (some ⟨gt, 0, none⟩) 8 8), (10, .int .i64 (((i : Nat) : Int)))] ⟨rfl, rfl, rfl, rfl, rfl, rfl, rfl, trivial⟩
     refine wp_region_lit ?_
     refine seq_do hA rfl rfl rfl (does_assign rfl) ?_
     intro a hA
     refine seq_end ?_
     refine hK286 _ _ ?_
     refine wp_seq_k (fun K287 hK287 => ?_)
     refine wp_seq_k (fun K288 hK288 => ?_)
     refine wp_region_lit ?_
     refine seq_do hA rfl rfl rfl (does_assign rfl) ?_
     intro a hA
     refine seq_end ?_
     refine hK288 _ _ ?_
     refine wp_block ?_
     refine wp_loop_n (fun m_ a w1 => ∃ (kx : Nat) (c8 : Nat) (D : List Ck), m_ = 8 - kx ∧ (RwD D (.agg #[.slice sW1 ((FM 0 ps).length) cW1, .slice sW2 (([] : List UInt8).length) cW2, .slice sW3 (([] : List UInt8).length) cW3]) (FM 0 ps) [] [] ∧ noBld D ∧ Hd D ps hv ∧ c8 = cnt (ps.take kx) ∧ kx ≤ 8) ∧ Sl a 216 [(0, .slice sN ns.length cN), (1, .slice sR ds.length cR), (2, .int .u8 at_), (7, .pointer (some ⟨g3, 0, none⟩)), (8, .slice (some ⟨gh, 0, none⟩) 8 8), (9, .slice (some ⟨gt, 0, none⟩) 8 8), (10, .int .i64 (((i : Nat) : Int))), (18, .int .i64 (((c8 : Nat) : Int))), (19, .int .i64 (((kx : Nat) : Int)))] ∧ Mg w w1 (.row 4 1 (.slice (some ⟨gt, 0, none⟩) 8 8) 8 ((bl ps)) :: .row 24 1 (.slice (some ⟨gh, 0, none⟩) 8 8) 8 hv :: .obj g3 (.cells #[.slice sW1 ((FM 0 ps).length) cW1, .slice sW2 (([] : List UInt8).length) cW2, .slice sW3 (([] : List UInt8).length) cW3] 37) :: D)) _ ⟨0, 0, D, rfl, ⟨hRw, hnD, hH, rfl, Nat.zero_le _⟩, hA.keep _ ⟨rfl, rfl, rfl, rfl, rfl, rfl, rfl, rfl, rfl, trivial⟩, hM⟩ ?_
     clear hM hA
     rintro m_ a w289 ⟨kx, c8, D, rfl, hinv291, hA, hM⟩ K290 hK290
     obtain ⟨hRw, hnD, hH, hc8, hk9⟩ := hinv291
     have hcl8 : c8 ≤ 8 := by
       have h7 := cnt_le (ps.take kx)
       rw [List.length_take] at h7
       omega
     refine wp_seq_k (fun K292 hK292 => ?_)
     refine wp_seq_k (fun K293 hK293 => ?_)
     refine wp_region_lit ?_
     refine seq_do hA rfl rfl rfl (does_move rfl) ?_
     intro a hA
     rcases Bool.eq_false_or_eq_true (decide (((kx : Nat) : Int) < 8)) with hb294 | hb294
     · have hb294' := of_decide_eq_true hb294
       refine seq_do (v := .bool true) hA rfl rfl rfl (does_bin rfl rfl (fun w => (bin_lss w).trans (by rw [hb294]))) ?_
       intro a hA
       refine seq_end ?_
       refine hK293 _ _ ?_
       refine wp_cond_true (hA.ev rfl) ?_
       refine wp_skip ?_
       refine hK292 _ _ ?_
       refine wp_seq_k (fun K295 hK295 => ?_)
       refine wp_block ?_
       refine wp_seq_k (fun K296 hK296 => ?_)
       replace hA := hA.keep [(0, .slice sN ns.length cN), (1, .slice sR ds.length cR), (2, .int .u8 at_), (7, .pointer (some ⟨g3, 0, none⟩)), (8, .slice (some ⟨gh, 0, none⟩) 8 8), (9, .slice (some ⟨gt, 0, none⟩) 8 8), (10, .int .i64 (((i : Nat) : Int))), (18, .int .i64 (((c8 : Nat) : Int))), (19, .int .i64 (((kx : Nat) : Int)))] ⟨rfl, rfl, rfl, rfl, rfl, rfl, rfl, rfl, rfl, trivial⟩
       refine wp_region_lit ?_
       refine seq_do hA rfl rfl rfl (m_loadS hM Wp_isS_37 rfl 2 rfl (cs := [.slice sW1 ((FM 0 ps).length) cW1, .slice sW2 (([] : List UInt8).length) cW2, .slice sW3 (([] : List UInt8).length) cW3]) rfl rfl) ?_
       intro a hA
       refine seq_do hA rfl rfl rfl (does_move rfl) ?_
       intro a hA
       refine seq_do (v := .int .i64 (((48 + kx : Nat) : Int))) hA rfl rfl rfl (does_bin rfl rfl (ar_add ((in_i64 (by omega) (by omega)).trans (by omega)))) ?_
       intro a hA
       obtain ⟨hh, tt, hpk⟩ := pr_get (ps := ps) (k := kx) (by omega)
       rcases tt with _ | _
       · refine seq_do (v := .int .u8 (((48 + kx : Nat) : Int))) hA rfl rfl rfl (does_convert rfl (ar_conv Try.underlying3 Try.underlying5 (in_u8 (by omega) (by omega)))) ?_
         intro a hA
         refine s_lit (vs := [.int .u8 102, .int .u8 (((48 + kx : Nat) : Int))]) hA hM rfl rfl rfl (does_buildSlice rfl (by kernel_rfl)) rfl rfl (noBld_cons (by simp) (noBld_cons (by simp) (noBld_cons (by simp) hnD))) ?_
         intro g297 w298 hM a hA
         replace hM : Mg w w298 (.row BY 1 (.slice (some ⟨g297, 0, none⟩) 2 2) 2 ((Lib.byteCells [102, UInt8.ofNat (48 + kx)])) :: .row 4 1 (.slice (some ⟨gt, 0, none⟩) 8 8) 8 ((bl ps)) :: .row 24 1 (.slice (some ⟨gh, 0, none⟩) 8 8) 8 hv :: .obj g3 (.cells #[.slice sW1 ((FM 0 ps).length) cW1, .slice sW2 (([] : List UInt8).length) cW2, .slice sW3 (([] : List UInt8).length) cW3] 37) :: D) := by
           have h9 := hM
           rw [byteK (k := kx) (by omega)] at h9
           exact h9
         refine seq_do (v := .string (nmK kx)) hA rfl rfl rfl (does_convC rfl (conv_bytes Try.underlying24 Try.underlying5 Try.underlying9 (l := [102, UInt8.ofNat (48 + kx)]) (rb_row hM 0 rfl).1 2)) ?_
         intro a hA
         have hw299 := RwD.facts hM (hRw.mono (fun c hc => (List.mem_cons_of_mem _ (List.mem_cons_of_mem _ (List.mem_cons_of_mem _ (List.mem_cons_of_mem _ hc))))))
         refine seq_call hA rfl rfl rfl (enters_func rfl rfl (fun w => by kernel_rfl)) ((show Calls Try.prog 27 _ _ (fun e w' => ∃ v, e = .returned (.tuple #[v, .int .i64 7]) ∧ Mg _ w' [.row BY 1 v ([] : List UInt8).length (Lib.byteCells ([] : List UInt8))]) from (by have h8 := get_any (cF_ := cW1) (cI := cW2) (cO := cW3) (fs := (FM 0 ps)) (il := ([] : List UInt8)) (ol := ([] : List UInt8)) (nm := nmK kx) hw299.1 hw299.2.1 hw299.2.2.1 hfn; rw [((files_get hpl hsd hpk).trans (if_neg (by decide)))] at h8; exact h8))) ?_
         rintro _ w309 ⟨v300, rfl, hM301⟩
         obtain ⟨so306, ca307, rfl⟩ := owns_sliceE (hM301.has 0 rfl)
         obtain ⟨D303, hg302, hnD303, hs304, hs305⟩ := grow [_, _, _, _] (D := D) hM hM301 (noBld_cons (by simp) (noBld_cons (by simp) (noBld_cons (by simp) (noBld_cons (by simp) hnD)))) (noBld_cons (by simp) (noBld_quiet quietL_nil))
         replace hRw := hRw.mono hs304
         replace hH := hH.mono hs304
         have hp308 := hs305 _ (mem_at (k := 0) rfl)
         replace hM : Mg w w309 (.row BY 1 (.slice (some ⟨g297, 0, none⟩) 2 2) 2 ((Lib.byteCells [102, UInt8.ofNat (48 + kx)])) :: .row 4 1 (.slice (some ⟨gt, 0, none⟩) 8 8) 8 ((bl ps)) :: .row 24 1 (.slice (some ⟨gh, 0, none⟩) 8 8) 8 hv :: .obj g3 (.cells #[.slice sW1 ((FM 0 ps).length) cW1, .slice sW2 (([] : List UInt8).length) cW2, .slice sW3 (([] : List UInt8).length) cW3] 37) :: D303) := hg302
         refine ⟨_, rfl, ?_⟩
         intro a hA
         refine seq_do hA rfl rfl rfl (does_move rfl) ?_
         intro a hA
         refine seq_do (v := .slice so306 (([] : List UInt8).length) ca307) hA rfl rfl rfl (does_extract (vs := [.slice so306 (([] : List UInt8).length) ca307, .int .i64 7]) rfl rfl) ?_
         intro a hA
         refine seq_do (v := .int .i64 7) hA rfl rfl rfl (does_extract (vs := [.slice so306 (([] : List UInt8).length) ca307, .int .i64 7]) rfl rfl) ?_
         intro a hA
         refine seq_do hA rfl rfl rfl (does_assign rfl) ?_
         intro a hA
         refine seq_do hA rfl rfl rfl (does_assign rfl) ?_
         intro a hA
         refine seq_end ?_
         refine hK296 _ _ ?_
         refine wp_seq_k (fun K310 hK310 => ?_)
         refine wp_seq_k (fun K311 hK311 => ?_)
         replace hA := hA.keep [(0, .slice sN ns.length cN), (1, .slice sR ds.length cR), (2, .int .u8 at_), (7, .pointer (some ⟨g3, 0, none⟩)), (8, .slice (some ⟨gh, 0, none⟩) 8 8), (9, .slice (some ⟨gt, 0, none⟩) 8 8), (10, .int .i64 (((i : Nat) : Int))), (18, .int .i64 (((c8 : Nat) : Int))), (19, .int .i64 (((kx : Nat) : Int))), (20, .slice so306 (([] : List UInt8).length) ca307), (21, .int .i64 7)] ⟨rfl, rfl, rfl, rfl, rfl, rfl, rfl, rfl, rfl, rfl, rfl, trivial⟩
         refine wp_region_lit ?_
         refine seq_do hA rfl rfl rfl (does_move rfl) ?_
         intro a hA
         refine seq_do (v := .bool false) hA rfl rfl rfl (does_bin rfl rfl (fun w => by kernel_rfl)) ?_
         intro a hA
         refine seq_do hA rfl rfl rfl (does_move rfl) ?_
         intro a hA
         refine seq_do hA rfl rfl rfl (does_move rfl) ?_
         intro a hA
         refine seq_do (v := .pointer (some ⟨gt, kx * 1, none⟩)) hA rfl rfl rfl (does_indexX Try.underlying55 (by kernel_rfl) rfl rfl rfl rfl (show kx < 8 by omega)) ?_
         intro a hA
         refine seq_do (v := .bool false) hA rfl rfl rfl (m_loadX hM 1 rfl rfl (show (bl ps)[kx * 1]? = some (.bool false) from by rw [Nat.mul_one]; exact bl_at hpk) Wp_is1_4 rfl) ?_
         intro a hA
         refine seq_do (v := .bool false) hA rfl rfl rfl (does_bin rfl rfl (bin_neqB Try.underlying4)) ?_
         intro a hA
         refine seq_do hA rfl rfl rfl (does_move rfl) ?_
         intro a hA
         refine seq_do hA rfl rfl rfl (does_move rfl) ?_
         intro a hA
         refine seq_do hA rfl rfl rfl (does_move rfl) ?_
         intro a hA
         refine seq_do (v := .pointer (some ⟨gt, kx * 1, none⟩)) hA rfl rfl rfl (does_indexX Try.underlying55 (by kernel_rfl) rfl rfl rfl rfl (show kx < 8 by omega)) ?_
         intro a hA
         refine seq_do (v := .bool false) hA rfl rfl rfl (m_loadX hM 1 rfl rfl (show (bl ps)[kx * 1]? = some (.bool false) from by rw [Nat.mul_one]; exact bl_at hpk) Wp_is1_4 rfl) ?_
         intro a hA
         refine seq_do hA rfl rfl rfl (does_move rfl) ?_
         intro a hA
         refine seq_skip hA rfl rfl rfl ?_
         intro a hA
         refine seq_skip hA rfl rfl rfl ?_
         intro a hA
         refine seq_skip hA rfl rfl rfl ?_
         intro a hA
         refine seq_skip hA rfl rfl rfl ?_
         intro a hA
         refine seq_skip hA rfl rfl rfl ?_
         intro a hA
         refine seq_skip hA rfl rfl rfl ?_
         intro a hA
         refine seq_skip hA rfl rfl rfl ?_
         intro a hA
         refine seq_do (v := .bool false) hA rfl rfl rfl (does_pick rfl rfl rfl rfl) ?_
         intro a hA
         refine seq_do (v := .bool false) hA rfl rfl rfl (does_pick rfl rfl rfl rfl) ?_
         intro a hA
         refine seq_end ?_
         refine hK311 _ _ ?_
         refine wp_cond_false (hA.ev rfl) ?_
         refine wp_skip ?_
         refine hK310 _ _ ?_
         refine wp_seq_k (fun K312 hK312 => ?_)
         replace hA := hA.keep [(0, .slice sN ns.length cN), (1, .slice sR ds.length cR), (2, .int .u8 at_), (7, .pointer (some ⟨g3, 0, none⟩)), (8, .slice (some ⟨gh, 0, none⟩) 8 8), (9, .slice (some ⟨gt, 0, none⟩) 8 8), (10, .int .i64 (((i : Nat) : Int))), (18, .int .i64 (((c8 : Nat) : Int))), (19, .int .i64 (((kx : Nat) : Int))), (20, .slice so306 (([] : List UInt8).length) ca307), (21, .int .i64 7)] ⟨rfl, rfl, rfl, rfl, rfl, rfl, rfl, rfl, rfl, rfl, rfl, trivial⟩
         refine wp_region_lit ?_
         refine seq_do hA rfl rfl rfl (does_move rfl) ?_
         intro a hA
         refine seq_do hA rfl rfl rfl (does_move rfl) ?_
         intro a hA
         refine seq_do (v := .pointer (some ⟨gt, kx * 1, none⟩)) hA rfl rfl rfl (does_indexX Try.underlying55 (by kernel_rfl) rfl rfl rfl rfl (show kx < 8 by omega)) ?_
         intro a hA
         refine seq_do (v := .bool false) hA rfl rfl rfl (m_loadX hM 1 rfl rfl (show (bl ps)[kx * 1]? = some (.bool false) from by rw [Nat.mul_one]; exact bl_at hpk) Wp_is1_4 rfl) ?_
         intro a hA
         refine seq_end ?_
         refine hK312 _ _ ?_
         refine wp_cond_false (hA.ev rfl) ?_
         refine wp_skip ?_
         refine hK295 _ _ ?_
         replace hA := hA.keep [(0, .slice sN ns.length cN), (1, .slice sR ds.length cR), (2, .int .u8 at_), (7, .pointer (some ⟨g3, 0, none⟩)), (8, .slice (some ⟨gh, 0, none⟩) 8 8), (9, .slice (some ⟨gt, 0, none⟩) 8 8), (10, .int .i64 (((i : Nat) : Int))), (18, .int .i64 (((c8 : Nat) : Int))), (19, .int .i64 (((kx : Nat) : Int))), (20, .slice so306 (([] : List UInt8).length) ca307), (21, .int .i64 7)] ⟨rfl, rfl, rfl, rfl, rfl, rfl, rfl, rfl, rfl, rfl, rfl, trivial⟩
         refine wp_region_lit ?_
         refine seq_do hA rfl rfl rfl (does_move rfl) ?_
         intro a hA
         refine seq_do (v := .int .i64 (((kx + 1 : Nat) : Int))) hA rfl rfl rfl (does_bin rfl rfl (ar_add ((in_i64 (by omega) (by omega)).trans (by omega)))) ?_
         intro a hA
         refine seq_do hA rfl rfl rfl (does_assign rfl) ?_
         intro a hA
         refine seq_end ?_
         replace hM : Mg w w309 (.row 4 1 (.slice (some ⟨gt, 0, none⟩) 8 8) 8 ((bl ps)) :: .row 24 1 (.slice (some ⟨gh, 0, none⟩) 8 8) 8 hv :: .obj g3 (.cells #[.slice sW1 ((FM 0 ps).length) cW1, .slice sW2 (([] : List UInt8).length) cW2, .slice sW3 (([] : List UInt8).length) cW3] 37) :: D303) := by
           have h9 := hM.sub (.cons _ (.cons_cons _ (.cons_cons _ (.cons_cons _ (.refl _)))))
           exact h9
         refine hK290 _ _ _ (by omega) ⟨kx + 1, c8, D303, rfl, ⟨hRw, hnD303, hH, (by rw [cnt_step hpk, if_neg (by decide)]; omega), by omega⟩, hA.keep _ ⟨rfl, rfl, rfl, rfl, rfl, rfl, rfl, rfl, rfl, trivial⟩, hM⟩
       · have hhl : hh.length ≤ 500 * i := hsh _ (List.mem_of_getElem? hpk) rfl
         obtain ⟨vh, hvh, hmh⟩ := hH kx hh hpk
         obtain ⟨sh, ch, rfl, _, hcl⟩ := rb_mem hM (List.mem_cons_of_mem _ (List.mem_cons_of_mem _ (List.mem_cons_of_mem _ hmh)))
         refine seq_do (v := .int .u8 (((48 + kx : Nat) : Int))) hA rfl rfl rfl (does_convert rfl (ar_conv Try.underlying3 Try.underlying5 (in_u8 (by omega) (by omega)))) ?_
         intro a hA
         refine s_lit (vs := [.int .u8 102, .int .u8 (((48 + kx : Nat) : Int))]) hA hM rfl rfl rfl (does_buildSlice rfl (by kernel_rfl)) rfl rfl (noBld_cons (by simp) (noBld_cons (by simp) (noBld_cons (by simp) hnD))) ?_
         intro g313 w314 hM a hA
         replace hM : Mg w w314 (.row BY 1 (.slice (some ⟨g313, 0, none⟩) 2 2) 2 ((Lib.byteCells [102, UInt8.ofNat (48 + kx)])) :: .row 4 1 (.slice (some ⟨gt, 0, none⟩) 8 8) 8 ((bl ps)) :: .row 24 1 (.slice (some ⟨gh, 0, none⟩) 8 8) 8 hv :: .obj g3 (.cells #[.slice sW1 ((FM 0 ps).length) cW1, .slice sW2 (([] : List UInt8).length) cW2, .slice sW3 (([] : List UInt8).length) cW3] 37) :: D) := by
           have h9 := hM
           rw [byteK (k := kx) (by omega)] at h9
           exact h9
         refine seq_do (v := .string (nmK kx)) hA rfl rfl rfl (does_convC rfl (conv_bytes Try.underlying24 Try.underlying5 Try.underlying9 (l := [102, UInt8.ofNat (48 + kx)]) (rb_row hM 0 rfl).1 2)) ?_
         intro a hA
         have hw315 := RwD.facts hM (hRw.mono (fun c hc => (List.mem_cons_of_mem _ (List.mem_cons_of_mem _ (List.mem_cons_of_mem _ (List.mem_cons_of_mem _ hc))))))
         refine seq_call hA rfl rfl rfl (enters_func rfl rfl (fun w => by kernel_rfl)) ((show Calls Try.prog 27 _ _ (fun e w' => ∃ v, e = .returned (.tuple #[v, .int .i64 0]) ∧ Mg _ w' [.row BY 1 v hh.length (Lib.byteCells hh)]) from (by have h8 := get_any (cF_ := cW1) (cI := cW2) (cO := cW3) (fs := (FM 0 ps)) (il := ([] : List UInt8)) (ol := ([] : List UInt8)) (nm := nmK kx) hw315.1 hw315.2.1 hw315.2.2.1 hfn; rw [((files_get hpl hsd hpk).trans (if_pos rfl))] at h8; exact h8))) ?_
         rintro _ w325 ⟨v316, rfl, hM317⟩
         obtain ⟨so322, ca323, rfl⟩ := owns_sliceE (hM317.has 0 rfl)
         obtain ⟨D319, hg318, hnD319, hs320, hs321⟩ := grow [_, _, _, _] (D := D) hM hM317 (noBld_cons (by simp) (noBld_cons (by simp) (noBld_cons (by simp) (noBld_cons (by simp) hnD)))) (noBld_cons (by simp) (noBld_quiet quietL_nil))
         replace hRw := hRw.mono hs320
         replace hmh := hs320 _ hmh
         replace hH := hH.mono hs320
         have hp324 := hs321 _ (mem_at (k := 0) rfl)
         replace hM : Mg w w325 (.row BY 1 (.slice (some ⟨g313, 0, none⟩) 2 2) 2 ((Lib.byteCells [102, UInt8.ofNat (48 + kx)])) :: .row 4 1 (.slice (some ⟨gt, 0, none⟩) 8 8) 8 ((bl ps)) :: .row 24 1 (.slice (some ⟨gh, 0, none⟩) 8 8) 8 hv :: .obj g3 (.cells #[.slice sW1 ((FM 0 ps).length) cW1, .slice sW2 (([] : List UInt8).length) cW2, .slice sW3 (([] : List UInt8).length) cW3] 37) :: D319) := hg318
         refine ⟨_, rfl, ?_⟩
         intro a hA
         refine seq_do hA rfl rfl rfl (does_move rfl) ?_
         intro a hA
         refine seq_do (v := .slice so322 hh.length ca323) hA rfl rfl rfl (does_extract (vs := [.slice so322 hh.length ca323, .int .i64 0]) rfl rfl) ?_
         intro a hA
         refine seq_do (v := .int .i64 0) hA rfl rfl rfl (does_extract (vs := [.slice so322 hh.length ca323, .int .i64 0]) rfl rfl) ?_
         intro a hA
         refine seq_do hA rfl rfl rfl (does_assign rfl) ?_
         intro a hA
         refine seq_do hA rfl rfl rfl (does_assign rfl) ?_
         intro a hA
         refine seq_end ?_
         refine hK296 _ _ ?_
         refine wp_seq_k (fun K326 hK326 => ?_)
         refine wp_seq_k (fun K327 hK327 => ?_)
         replace hA := hA.keep [(0, .slice sN ns.length cN), (1, .slice sR ds.length cR), (2, .int .u8 at_), (7, .pointer (some ⟨g3, 0, none⟩)), (8, .slice (some ⟨gh, 0, none⟩) 8 8), (9, .slice (some ⟨gt, 0, none⟩) 8 8), (10, .int .i64 (((i : Nat) : Int))), (18, .int .i64 (((c8 : Nat) : Int))), (19, .int .i64 (((kx : Nat) : Int))), (20, .slice so322 hh.length ca323), (21, .int .i64 0)] ⟨rfl, rfl, rfl, rfl, rfl, rfl, rfl, rfl, rfl, rfl, rfl, trivial⟩
         refine wp_region_lit ?_
         refine seq_do hA rfl rfl rfl (does_move rfl) ?_
         intro a hA
         refine seq_do (v := .bool true) hA rfl rfl rfl (does_bin rfl rfl (fun w => by kernel_rfl)) ?_
         intro a hA
         refine seq_do hA rfl rfl rfl (does_move rfl) ?_
         intro a hA
         refine seq_do hA rfl rfl rfl (does_move rfl) ?_
         intro a hA
         refine seq_do (v := .pointer (some ⟨gt, kx * 1, none⟩)) hA rfl rfl rfl (does_indexX Try.underlying55 (by kernel_rfl) rfl rfl rfl rfl (show kx < 8 by omega)) ?_
         intro a hA
         refine seq_do (v := .bool true) hA rfl rfl rfl (m_loadX hM 1 rfl rfl (show (bl ps)[kx * 1]? = some (.bool true) from by rw [Nat.mul_one]; exact bl_at hpk) Wp_is1_4 rfl) ?_
         intro a hA
         refine seq_do (v := .bool false) hA rfl rfl rfl (does_bin rfl rfl (bin_neqB Try.underlying4)) ?_
         intro a hA
         refine seq_do hA rfl rfl rfl (does_move rfl) ?_
         intro a hA
         refine seq_do hA rfl rfl rfl (does_move rfl) ?_
         intro a hA
         refine seq_do hA rfl rfl rfl (does_move rfl) ?_
         intro a hA
         refine seq_do (v := .pointer (some ⟨gt, kx * 1, none⟩)) hA rfl rfl rfl (does_indexX Try.underlying55 (by kernel_rfl) rfl rfl rfl rfl (show kx < 8 by omega)) ?_
         intro a hA
         refine seq_do (v := .bool true) hA rfl rfl rfl (m_loadX hM 1 rfl rfl (show (bl ps)[kx * 1]? = some (.bool true) from by rw [Nat.mul_one]; exact bl_at hpk) Wp_is1_4 rfl) ?_
         intro a hA
         refine seq_do hA rfl rfl rfl (does_move rfl) ?_
         intro a hA
         refine seq_do hA rfl rfl rfl (does_move rfl) ?_
         intro a hA
         refine seq_do hA rfl rfl rfl (does_move rfl) ?_
         intro a hA
         refine seq_do hA rfl rfl rfl (does_move rfl) ?_
         intro a hA
         refine seq_do (v := .pointer (some ⟨gh, kx * 1, none⟩)) hA rfl rfl rfl (does_indexX Try.underlying54 (by kernel_rfl) rfl rfl rfl rfl (show kx < 8 by omega)) ?_
         intro a hA
         refine seq_do (v := .slice sh hh.length ch) hA rfl rfl rfl (m_loadX hM 2 rfl rfl (show hv[kx * 1]? = some _ from by rw [Nat.mul_one]; exact hvh) Wp_is1_24 rfl) ?_
         intro a hA
         refine seq_call hA rfl rfl rfl (enters_func rfl rfl (fun w => by kernel_rfl)) (same_as (xs := hh) (ys := hh) (ca := ca323) (cb := ch) (b := true) (rb_of hM (List.mem_cons_of_mem _ (List.mem_cons_of_mem _ (List.mem_cons_of_mem _ (List.mem_cons_of_mem _ hp324))))) (rb_of hM (List.mem_cons_of_mem _ (List.mem_cons_of_mem _ (List.mem_cons_of_mem _ (List.mem_cons_of_mem _ hmh))))) (by omega) (decide_eq_true rfl)) ?_
         rintro _ w329 ⟨rfl, hb328⟩
         replace hM := hM.call hb328
         refine ⟨_, rfl, ?_⟩
         intro a hA
         refine seq_do (v := .bool false) hA rfl rfl rfl (does_un rfl un_not) ?_
         intro a hA
         refine seq_do (v := .bool false) hA rfl rfl rfl (does_pick rfl rfl rfl rfl) ?_
         intro a hA
         refine seq_do (v := .bool false) hA rfl rfl rfl (does_pick rfl rfl rfl rfl) ?_
         intro a hA
         refine seq_end ?_
         refine hK327 _ _ ?_
         refine wp_cond_false (hA.ev rfl) ?_
         refine wp_skip ?_
         refine hK326 _ _ ?_
         refine wp_seq_k (fun K330 hK330 => ?_)
         replace hA := hA.keep [(0, .slice sN ns.length cN), (1, .slice sR ds.length cR), (2, .int .u8 at_), (7, .pointer (some ⟨g3, 0, none⟩)), (8, .slice (some ⟨gh, 0, none⟩) 8 8), (9, .slice (some ⟨gt, 0, none⟩) 8 8), (10, .int .i64 (((i : Nat) : Int))), (18, .int .i64 (((c8 : Nat) : Int))), (19, .int .i64 (((kx : Nat) : Int))), (20, .slice so322 hh.length ca323), (21, .int .i64 0)] ⟨rfl, rfl, rfl, rfl, rfl, rfl, rfl, rfl, rfl, rfl, rfl, trivial⟩
         refine wp_region_lit ?_
         refine seq_do hA rfl rfl rfl (does_move rfl) ?_
         intro a hA
         refine seq_do hA rfl rfl rfl (does_move rfl) ?_
         intro a hA
         refine seq_do (v := .pointer (some ⟨gt, kx * 1, none⟩)) hA rfl rfl rfl (does_indexX Try.underlying55 (by kernel_rfl) rfl rfl rfl rfl (show kx < 8 by omega)) ?_
         intro a hA
         refine seq_do (v := .bool true) hA rfl rfl rfl (m_loadX hM 1 rfl rfl (show (bl ps)[kx * 1]? = some (.bool true) from by rw [Nat.mul_one]; exact bl_at hpk) Wp_is1_4 rfl) ?_
         intro a hA
         refine seq_end ?_
         refine hK330 _ _ ?_
         refine wp_cond_true (hA.ev rfl) ?_
         replace hA := hA.keep [(0, .slice sN ns.length cN), (1, .slice sR ds.length cR), (2, .int .u8 at_), (7, .pointer (some ⟨g3, 0, none⟩)), (8, .slice (some ⟨gh, 0, none⟩) 8 8), (9, .slice (some ⟨gt, 0, none⟩) 8 8), (10, .int .i64 (((i : Nat) : Int))), (18, .int .i64 (((c8 : Nat) : Int))), (19, .int .i64 (((kx : Nat) : Int))), (20, .slice so322 hh.length ca323), (21, .int .i64 0)] ⟨rfl, rfl, rfl, rfl, rfl, rfl, rfl, rfl, rfl, rfl, rfl, trivial⟩
         refine wp_region_lit ?_
         refine seq_do hA rfl rfl rfl (does_move rfl) ?_
         intro a hA
         refine seq_do (v := .int .i64 (((c8 + 1 : Nat) : Int))) hA rfl rfl rfl (does_bin rfl rfl (ar_add ((in_i64 (by omega) (by omega)).trans (by omega)))) ?_
         intro a hA
         refine seq_do hA rfl rfl rfl (does_assign rfl) ?_
         intro a hA
         refine seq_end ?_
         refine hK295 _ _ ?_
         replace hA := hA.keep [(0, .slice sN ns.length cN), (1, .slice sR ds.length cR), (2, .int .u8 at_), (7, .pointer (some ⟨g3, 0, none⟩)), (8, .slice (some ⟨gh, 0, none⟩) 8 8), (9, .slice (some ⟨gt, 0, none⟩) 8 8), (10, .int .i64 (((i : Nat) : Int))), (18, .int .i64 (((c8 + 1 : Nat) : Int))), (19, .int .i64 (((kx : Nat) : Int))), (20, .slice so322 hh.length ca323), (21, .int .i64 0)] ⟨rfl, rfl, rfl, rfl, rfl, rfl, rfl, rfl, rfl, rfl, rfl, trivial⟩
         refine wp_region_lit ?_
         refine seq_do hA rfl rfl rfl (does_move rfl) ?_
         intro a hA
         refine seq_do (v := .int .i64 (((kx + 1 : Nat) : Int))) hA rfl rfl rfl (does_bin rfl rfl (ar_add ((in_i64 (by omega) (by omega)).trans (by omega)))) ?_
         intro a hA
         refine seq_do hA rfl rfl rfl (does_assign rfl) ?_
         intro a hA
         refine seq_end ?_
         replace hM : Mg w w329 (.row 4 1 (.slice (some ⟨gt, 0, none⟩) 8 8) 8 ((bl ps)) :: .row 24 1 (.slice (some ⟨gh, 0, none⟩) 8 8) 8 hv :: .obj g3 (.cells #[.slice sW1 ((FM 0 ps).length) cW1, .slice sW2 (([] : List UInt8).length) cW2, .slice sW3 (([] : List UInt8).length) cW3] 37) :: D319) := by
           have h9 := hM.sub (.cons _ (.cons_cons _ (.cons_cons _ (.cons_cons _ (.refl _)))))
           exact h9
         refine hK290 _ _ _ (by omega) ⟨kx + 1, c8 + 1, D319, rfl, ⟨hRw, hnD319, hH, (by rw [cnt_step hpk, if_pos rfl]; omega), by omega⟩, hA.keep _ ⟨rfl, rfl, rfl, rfl, rfl, rfl, rfl, rfl, rfl, trivial⟩, hM⟩
     · have hb294' := of_decide_eq_false hb294
       refine seq_do (v := .bool false) hA rfl rfl rfl (does_bin rfl rfl (fun w => (bin_lss w).trans (by rw [hb294]))) ?_
       intro a hA
       refine seq_end ?_
       refine hK293 _ _ ?_
       refine wp_cond_false (hA.ev rfl) ?_
       refine wp_exit ?_
       refine hK287 _ _ ?_
       refine wp_seq_k (fun K331 hK331 => ?_)
       replace hA := hA.keep [(0, .slice sN ns.length cN), (1, .slice sR ds.length cR), (2, .int .u8 at_), (7, .pointer (some ⟨g3, 0, none⟩)), (8, .slice (some ⟨gh, 0, none⟩) 8 8), (9, .slice (some ⟨gt, 0, none⟩) 8 8), (10, .int .i64 (((i : Nat) : Int))), (18, .int .i64 (((c8 : Nat) : Int))), (19, .int .i64 (((kx : Nat) : Int)))] ⟨rfl, rfl, rfl, rfl, rfl, rfl, rfl, rfl, rfl, trivial⟩
       refine wp_region_lit ?_
       refine seq_do (v := .pointer (some ⟨g3, 0, none⟩)) hA rfl rfl rfl (does_field Wp_fld_37_0 rfl rfl) ?_
       intro a hA
       refine seq_do hA rfl rfl rfl (m_load1 hM Wp_is1_35 rfl 2 rfl rfl) ?_
       intro a hA
       refine seq_do (v := .int .i64 ((((FM 0 ps).length : Nat) : Int))) hA rfl rfl rfl (does_len Try.underlying35 rfl) ?_
       intro a hA
       refine seq_do hA rfl rfl rfl (does_move rfl) ?_
       intro a hA
       refine seq_do (v := .bool true) hA rfl rfl rfl (does_bin rfl rfl (fun w => (bin_eql w).trans (by rw [show (((((FM 0 ps).length : Nat) : Int) == ((c8 : Nat) : Int))) = true from (by have h7 := FM_len ps 0; rw [List.take_of_length_le (by omega)] at hc8; rw [beq_iff_eq]; omega)]))) ?_
       intro a hA
       refine seq_do hA rfl rfl rfl (does_move rfl) ?_
       intro a hA
       refine seq_do hA rfl rfl rfl (m_loadS hM Wp_isS_37 rfl 2 rfl (cs := [.slice sW1 ((FM 0 ps).length) cW1, .slice sW2 (([] : List UInt8).length) cW2, .slice sW3 (([] : List UInt8).length) cW3]) rfl rfl) ?_
       intro a hA
       have hw332 := RwD.facts hM (hRw.mono (fun c hc => (List.mem_cons_of_mem _ (List.mem_cons_of_mem _ (List.mem_cons_of_mem _ hc)))))
       refine seq_call hA rfl rfl rfl (enters_func rfl rfl (fun w => by kernel_rfl)) (sound_as (cF_ := cW1) (cI := cW2) (cO := cW3) (fs := (FM 0 ps)) (il := ([] : List UInt8)) (ol := ([] : List UInt8)) (b := true) hw332.1 hfn hsd) ?_
       rintro _ w334 ⟨rfl, hb333⟩
       replace hM := hM.call hb333
       refine ⟨_, rfl, ?_⟩
       intro a hA
       refine seq_do (v := .bool true) hA rfl rfl rfl (does_pick rfl rfl rfl rfl) ?_
       intro a hA
       refine seq_do hA rfl rfl rfl (does_assign rfl) ?_
       intro a hA
       refine seq_end ?_
       refine hK331 _ _ ?_
       refine wp_ret ?_
       refine hret _ _ ?_
       refine ends (v := .bool true) hA rfl (.cons (res_tmp rfl) .nil) rfl ?_
       exact ⟨rfl, hM.bel⟩
 · have hb25' := of_decide_eq_false hb25
   refine seq_do (v := .bool false) hA rfl rfl rfl (does_bin rfl rfl (fun w => (bin_lss w).trans (by rw [hb25]))) ?_
   intro a hA
   refine seq_do hA rfl rfl rfl (does_move rfl) ?_
   intro a hA
   refine seq_skip hA rfl rfl rfl ?_
   intro a hA
   refine seq_skip hA rfl rfl rfl ?_
   intro a hA
   refine seq_skip hA rfl rfl rfl ?_
   intro a hA
   refine seq_skip hA rfl rfl rfl ?_
   intro a hA
   refine seq_do (v := .bool false) hA rfl rfl rfl (does_pick rfl rfl rfl rfl) ?_
   intro a hA
   refine seq_do hA rfl rfl rfl (does_move rfl) ?_
   intro a hA
   refine seq_skip hA rfl rfl rfl ?_
   intro a hA
   refine seq_skip hA rfl rfl rfl ?_
   intro a hA
   refine seq_do (v := .bool false) hA rfl rfl rfl (does_pick rfl rfl rfl rfl) ?_
   intro a hA
   refine seq_end ?_
   refine hK24 _ _ ?_
   refine wp_cond_false (hA.ev rfl) ?_
   refine wp_exit ?_
   refine hK14 _ _ ?_
   refine wp_seq_k (fun K335 hK335 => ?_)
   replace hA := hA.keep [(0, .slice sN ns.length cN), (1, .slice sR ds.length cR), (2, .int .u8 at_), (7, .pointer (some ⟨g3, 0, none⟩)), (8, .slice (some ⟨gh, 0, none⟩) 8 8), (9, .slice (some ⟨gt, 0, none⟩) 8 8), (10, .int .i64 (((i : Nat) : Int)))] ⟨rfl, rfl, rfl, rfl, rfl, rfl, rfl, trivial⟩
   refine wp_region_lit ?_
   refine seq_do hA rfl rfl rfl (does_assign rfl) ?_
   intro a hA
   refine seq_end ?_
   refine hK335 _ _ ?_
   refine wp_seq_k (fun K336 hK336 => ?_)
   refine wp_seq_k (fun K337 hK337 => ?_)
   refine wp_region_lit ?_
   refine seq_do hA rfl rfl rfl (does_assign rfl) ?_
   intro a hA
   refine seq_end ?_
   refine hK337 _ _ ?_
   refine wp_block ?_
   refine wp_loop_n (fun m_ a w1 => ∃ (kx : Nat) (c8 : Nat) (D : List Ck), m_ = 8 - kx ∧ (RwD D (.agg #[.slice sW1 ((FM 0 ps).length) cW1, .slice sW2 (([] : List UInt8).length) cW2, .slice sW3 (([] : List UInt8).length) cW3]) (FM 0 ps) [] [] ∧ noBld D ∧ Hd D ps hv ∧ c8 = cnt (ps.take kx) ∧ kx ≤ 8) ∧ Sl a 216 [(0, .slice sN ns.length cN), (1, .slice sR ds.length cR), (2, .int .u8 at_), (7, .pointer (some ⟨g3, 0, none⟩)), (8, .slice (some ⟨gh, 0, none⟩) 8 8), (9, .slice (some ⟨gt, 0, none⟩) 8 8), (10, .int .i64 (((i : Nat) : Int))), (18, .int .i64 (((c8 : Nat) : Int))), (19, .int .i64 (((kx : Nat) : Int)))] ∧ Mg w w1 (.row 4 1 (.slice (some ⟨gt, 0, none⟩) 8 8) 8 ((bl ps)) :: .row 24 1 (.slice (some ⟨gh, 0, none⟩) 8 8) 8 hv :: .obj g3 (.cells #[.slice sW1 ((FM 0 ps).length) cW1, .slice sW2 (([] : List UInt8).length) cW2, .slice sW3 (([] : List UInt8).length) cW3] 37) :: D)) _ ⟨0, 0, D, rfl, ⟨hRw, hnD, hH, rfl, Nat.zero_le _⟩, hA.keep _ ⟨rfl, rfl, rfl, rfl, rfl, rfl, rfl, rfl, rfl, trivial⟩, hM⟩ ?_
   clear hM hA
   rintro m_ a w338 ⟨kx, c8, D, rfl, hinv340, hA, hM⟩ K339 hK339
   obtain ⟨hRw, hnD, hH, hc8, hk9⟩ := hinv340
   have hcl8 : c8 ≤ 8 := by
     have h7 := cnt_le (ps.take kx)
     rw [List.length_take] at h7
     omega
   refine wp_seq_k (fun K341 hK341 => ?_)
   refine wp_seq_k (fun K342 hK342 => ?_)
   refine wp_region_lit ?_
   refine seq_do hA rfl rfl rfl (does_move rfl) ?_
   intro a hA
   rcases Bool.eq_false_or_eq_true (decide (((kx : Nat) : Int) < 8)) with hb343 | hb343
   · have hb343' := of_decide_eq_true hb343
     refine seq_do (v := .bool true) hA rfl rfl rfl (does_bin rfl rfl (fun w => (bin_lss w).trans (by rw [hb343]))) ?_
     intro a hA
     refine seq_end ?_
     refine hK342 _ _ ?_
     refine wp_cond_true (hA.ev rfl) ?_
     refine wp_skip ?_
     refine hK341 _ _ ?_
     refine wp_seq_k (fun K344 hK344 => ?_)
     refine wp_block ?_
     refine wp_seq_k (fun K345 hK345 => ?_)
     replace hA := hA.keep [(0, .slice sN ns.length cN), (1, .slice sR ds.length cR), (2, .int .u8 at_), (7, .pointer (some ⟨g3, 0, none⟩)), (8, .slice (some ⟨gh, 0, none⟩) 8 8), (9, .slice (some ⟨gt, 0, none⟩) 8 8), (10, .int .i64 (((i : Nat) : Int))), (18, .int .i64 (((c8 : Nat) : Int))), (19, .int .i64 (((kx : Nat) : Int)))] ⟨rfl, rfl, rfl, rfl, rfl, rfl, rfl, rfl, rfl, trivial⟩
     refine wp_region_lit ?_
     refine seq_do hA rfl rfl rfl (m_loadS hM Wp_isS_37 rfl 2 rfl (cs := [.slice sW1 ((FM 0 ps).length) cW1, .slice sW2 (([] : List UInt8).length) cW2, .slice sW3 (([] : List UInt8).length) cW3]) rfl rfl) ?_
     intro a hA
     refine seq_do hA rfl rfl rfl (does_move rfl) ?_
     intro a hA
     refine seq_do (v := .int .i64 (((48 + kx : Nat) : Int))) hA rfl rfl rfl (does_bin rfl rfl (ar_add ((in_i64 (by omega) (by omega)).trans (by omega)))) ?_
     intro a hA
     obtain ⟨hh, tt, hpk⟩ := pr_get (ps := ps) (k := kx) (by omega)
     rcases tt with _ | _
     · refine seq_do (v := .int .u8 (((48 + kx : Nat) : Int))) hA rfl rfl rfl (does_convert rfl (ar_conv Try.underlying3 Try.underlying5 (in_u8 (by omega) (by omega)))) ?_
       intro a hA
       refine s_lit (vs := [.int .u8 102, .int .u8 (((48 + kx : Nat) : Int))]) hA hM rfl rfl rfl (does_buildSlice rfl (by kernel_rfl)) rfl rfl (noBld_cons (by simp) (noBld_cons (by simp) (noBld_cons (by simp) hnD))) ?_
       intro g346 w347 hM a hA
       replace hM : Mg w w347 (.row BY 1 (.slice (some ⟨g346, 0, none⟩) 2 2) 2 ((Lib.byteCells [102, UInt8.ofNat (48 + kx)])) :: .row 4 1 (.slice (some ⟨gt, 0, none⟩) 8 8) 8 ((bl ps)) :: .row 24 1 (.slice (some ⟨gh, 0, none⟩) 8 8) 8 hv :: .obj g3 (.cells #[.slice sW1 ((FM 0 ps).length) cW1, .slice sW2 (([] : List UInt8).length) cW2, .slice sW3 (([] : List UInt8).length) cW3] 37) :: D) := by
         have h9 := hM
         rw [byteK (k := kx) (by omega)] at h9
         exact h9
       refine seq_do (v := .string (nmK kx)) hA rfl rfl rfl (does_convC rfl (conv_bytes Try.underlying24 Try.underlying5 Try.underlying9 (l := [102, UInt8.ofNat (48 + kx)]) (rb_row hM 0 rfl).1 2)) ?_
       intro a hA
       have hw348 := RwD.facts hM (hRw.mono (fun c hc => (List.mem_cons_of_mem _ (List.mem_cons_of_mem _ (List.mem_cons_of_mem _ (List.mem_cons_of_mem _ hc))))))
       refine seq_call hA rfl rfl rfl (enters_func rfl rfl (fun w => by kernel_rfl)) ((show Calls Try.prog 27 _ _ (fun e w' => ∃ v, e = .returned (.tuple #[v, .int .i64 7]) ∧ Mg _ w' [.row BY 1 v ([] : List UInt8).length (Lib.byteCells ([] : List UInt8))]) from (by have h8 := get_any (cF_ := cW1) (cI := cW2) (cO := cW3) (fs := (FM 0 ps)) (il := ([] : List UInt8)) (ol := ([] : List UInt8)) (nm := nmK kx) hw348.1 hw348.2.1 hw348.2.2.1 hfn; rw [((files_get hpl hsd hpk).trans (if_neg (by decide)))] at h8; exact h8))) ?_
       rintro _ w358 ⟨v349, rfl, hM350⟩
       obtain ⟨so355, ca356, rfl⟩ := owns_sliceE (hM350.has 0 rfl)
       obtain ⟨D352, hg351, hnD352, hs353, hs354⟩ := grow [_, _, _, _] (D := D) hM hM350 (noBld_cons (by simp) (noBld_cons (by simp) (noBld_cons (by simp) (noBld_cons (by simp) hnD)))) (noBld_cons (by simp) (noBld_quiet quietL_nil))
       replace hRw := hRw.mono hs353
       replace hH := hH.mono hs353
       have hp357 := hs354 _ (mem_at (k := 0) rfl)
       replace hM : Mg w w358 (.row BY 1 (.slice (some ⟨g346, 0, none⟩) 2 2) 2 ((Lib.byteCells [102, UInt8.ofNat (48 + kx)])) :: .row 4 1 (.slice (some ⟨gt, 0, none⟩) 8 8) 8 ((bl ps)) :: .row 24 1 (.slice (some ⟨gh, 0, none⟩) 8 8) 8 hv :: .obj g3 (.cells #[.slice sW1 ((FM 0 ps).length) cW1, .slice sW2 (([] : List UInt8).length) cW2, .slice sW3 (([] : List UInt8).length) cW3] 37) :: D352) := hg351
       refine ⟨_, rfl, ?_⟩
       intro a hA
       refine seq_do hA rfl rfl rfl (does_move rfl) ?_
       intro a hA
       refine seq_do (v := .slice so355 (([] : List UInt8).length) ca356) hA rfl rfl rfl (does_extract (vs := [.slice so355 (([] : List UInt8).length) ca356, .int .i64 7]) rfl rfl) ?_
       intro a hA
       refine seq_do (v := .int .i64 7) hA rfl rfl rfl (does_extract (vs := [.slice so355 (([] : List UInt8).length) ca356, .int .i64 7]) rfl rfl) ?_
       intro a hA
       refine seq_do hA rfl rfl rfl (does_assign rfl) ?_
       intro a hA
       refine seq_do hA rfl rfl rfl (does_assign rfl) ?_
       intro a hA
       refine seq_end ?_
       refine hK345 _ _ ?_
       refine wp_seq_k (fun K359 hK359 => ?_)
       refine wp_seq_k (fun K360 hK360 => ?_)
       replace hA := hA.keep [(0, .slice sN ns.length cN), (1, .slice sR ds.length cR), (2, .int .u8 at_), (7, .pointer (some ⟨g3, 0, none⟩)), (8, .slice (some ⟨gh, 0, none⟩) 8 8), (9, .slice (some ⟨gt, 0, none⟩) 8 8), (10, .int .i64 (((i : Nat) : Int))), (18, .int .i64 (((c8 : Nat) : Int))), (19, .int .i64 (((kx : Nat) : Int))), (20, .slice so355 (([] : List UInt8).length) ca356), (21, .int .i64 7)] ⟨rfl, rfl, rfl, rfl, rfl, rfl, rfl, rfl, rfl, rfl, rfl, trivial⟩
       refine wp_region_lit ?_
       refine seq_do hA rfl rfl rfl (does_move rfl) ?_
       intro a hA
       refine seq_do (v := .bool false) hA rfl rfl rfl (does_bin rfl rfl (fun w => by kernel_rfl)) ?_
       intro a hA
       refine seq_do hA rfl rfl rfl (does_move rfl) ?_
       intro a hA
       refine seq_do hA rfl rfl rfl (does_move rfl) ?_
       intro a hA
       refine seq_do (v := .pointer (some ⟨gt, kx * 1, none⟩)) hA rfl rfl rfl (does_indexX Try.underlying55 (by kernel_rfl) rfl rfl rfl rfl (show kx < 8 by omega)) ?_
       intro a hA
       refine seq_do (v := .bool false) hA rfl rfl rfl (m_loadX hM 1 rfl rfl (show (bl ps)[kx * 1]? = some (.bool false) from by rw [Nat.mul_one]; exact bl_at hpk) Wp_is1_4 rfl) ?_
       intro a hA
       refine seq_do (v := .bool false) hA rfl rfl rfl (does_bin rfl rfl (bin_neqB Try.underlying4)) ?_
       intro a hA
       refine seq_do hA rfl rfl rfl (does_move rfl) ?_
       intro a hA
       refine seq_do hA rfl rfl rfl (does_move rfl) ?_
       intro a hA
       refine seq_do hA rfl rfl rfl (does_move rfl) ?_
       intro a hA
       refine seq_do (v := .pointer (some ⟨gt, kx * 1, none⟩)) hA rfl rfl rfl (does_indexX Try.underlying55 (by kernel_rfl) rfl rfl rfl rfl (show kx < 8 by omega)) ?_
       intro a hA
       refine seq_do (v := .bool false) hA rfl rfl rfl (m_loadX hM 1 rfl rfl (show (bl ps)[kx * 1]? = some (.bool false) from by rw [Nat.mul_one]; exact bl_at hpk) Wp_is1_4 rfl) ?_
       intro a hA
       refine seq_do hA rfl rfl rfl (does_move rfl) ?_
       intro a hA
       refine seq_skip hA rfl rfl rfl ?_
       intro a hA
       refine seq_skip hA rfl rfl rfl ?_
       intro a hA
       refine seq_skip hA rfl rfl rfl ?_
       intro a hA
       refine seq_skip hA rfl rfl rfl ?_
       intro a hA
       refine seq_skip hA rfl rfl rfl ?_
       intro a hA
       refine seq_skip hA rfl rfl rfl ?_
       intro a hA
       refine seq_skip hA rfl rfl rfl ?_
       intro a hA
       refine seq_do (v := .bool false) hA rfl rfl rfl (does_pick rfl rfl rfl rfl) ?_
       intro a hA
       refine seq_do (v := .bool false) hA rfl rfl rfl (does_pick rfl rfl rfl rfl) ?_
       intro a hA
       refine seq_end ?_
       refine hK360 _ _ ?_
       refine wp_cond_false (hA.ev rfl) ?_
       refine wp_skip ?_
       refine hK359 _ _ ?_
       refine wp_seq_k (fun K361 hK361 => ?_)
       replace hA := hA.keep [(0, .slice sN ns.length cN), (1, .slice sR ds.length cR), (2, .int .u8 at_), (7, .pointer (some ⟨g3, 0, none⟩)), (8, .slice (some ⟨gh, 0, none⟩) 8 8), (9, .slice (some ⟨gt, 0, none⟩) 8 8), (10, .int .i64 (((i : Nat) : Int))), (18, .int .i64 (((c8 : Nat) : Int))), (19, .int .i64 (((kx : Nat) : Int))), (20, .slice so355 (([] : List UInt8).length) ca356), (21, .int .i64 7)] ⟨rfl, rfl, rfl, rfl, rfl, rfl, rfl, rfl, rfl, rfl, rfl, trivial⟩
       refine wp_region_lit ?_
       refine seq_do hA rfl rfl rfl (does_move rfl) ?_
       intro a hA
       refine seq_do hA rfl rfl rfl (does_move rfl) ?_
       intro a hA
       refine seq_do (v := .pointer (some ⟨gt, kx * 1, none⟩)) hA rfl rfl rfl (does_indexX Try.underlying55 (by kernel_rfl) rfl rfl rfl rfl (show kx < 8 by omega)) ?_
       intro a hA
       refine seq_do (v := .bool false) hA rfl rfl rfl (m_loadX hM 1 rfl rfl (show (bl ps)[kx * 1]? = some (.bool false) from by rw [Nat.mul_one]; exact bl_at hpk) Wp_is1_4 rfl) ?_
       intro a hA
       refine seq_end ?_
       refine hK361 _ _ ?_
       refine wp_cond_false (hA.ev rfl) ?_
       refine wp_skip ?_
       refine hK344 _ _ ?_
       replace hA := hA.keep [(0, .slice sN ns.length cN), (1, .slice sR ds.length cR), (2, .int .u8 at_), (7, .pointer (some ⟨g3, 0, none⟩)), (8, .slice (some ⟨gh, 0, none⟩) 8 8), (9, .slice (some ⟨gt, 0, none⟩) 8 8), (10, .int .i64 (((i : Nat) : Int))), (18, .int .i64 (((c8 : Nat) : Int))), (19, .int .i64 (((kx : Nat) : Int))), (20, .slice so355 (([] : List UInt8).length) ca356), (21, .int .i64 7)] ⟨rfl, rfl, rfl, rfl, rfl, rfl, rfl, rfl, rfl, rfl, rfl, trivial⟩
       refine wp_region_lit ?_
       refine seq_do hA rfl rfl rfl (does_move rfl) ?_
       intro a hA
       refine seq_do (v := .int .i64 (((kx + 1 : Nat) : Int))) hA rfl rfl rfl (does_bin rfl rfl (ar_add ((in_i64 (by omega) (by omega)).trans (by omega)))) ?_
       intro a hA
       refine seq_do hA rfl rfl rfl (does_assign rfl) ?_
       intro a hA
       refine seq_end ?_
       replace hM : Mg w w358 (.row 4 1 (.slice (some ⟨gt, 0, none⟩) 8 8) 8 ((bl ps)) :: .row 24 1 (.slice (some ⟨gh, 0, none⟩) 8 8) 8 hv :: .obj g3 (.cells #[.slice sW1 ((FM 0 ps).length) cW1, .slice sW2 (([] : List UInt8).length) cW2, .slice sW3 (([] : List UInt8).length) cW3] 37) :: D352) := by
         have h9 := hM.sub (.cons _ (.cons_cons _ (.cons_cons _ (.cons_cons _ (.refl _)))))
         exact h9
       refine hK339 _ _ _ (by omega) ⟨kx + 1, c8, D352, rfl, ⟨hRw, hnD352, hH, (by rw [cnt_step hpk, if_neg (by decide)]; omega), by omega⟩, hA.keep _ ⟨rfl, rfl, rfl, rfl, rfl, rfl, rfl, rfl, rfl, trivial⟩, hM⟩
     · have hhl : hh.length ≤ 500 * i := hsh _ (List.mem_of_getElem? hpk) rfl
       obtain ⟨vh, hvh, hmh⟩ := hH kx hh hpk
       obtain ⟨sh, ch, rfl, _, hcl⟩ := rb_mem hM (List.mem_cons_of_mem _ (List.mem_cons_of_mem _ (List.mem_cons_of_mem _ hmh)))
       refine seq_do (v := .int .u8 (((48 + kx : Nat) : Int))) hA rfl rfl rfl (does_convert rfl (ar_conv Try.underlying3 Try.underlying5 (in_u8 (by omega) (by omega)))) ?_
       intro a hA
       refine s_lit (vs := [.int .u8 102, .int .u8 (((48 + kx : Nat) : Int))]) hA hM rfl rfl rfl (does_buildSlice rfl (by kernel_rfl)) rfl rfl (noBld_cons (by simp) (noBld_cons (by simp) (noBld_cons (by simp) hnD))) ?_
       intro g362 w363 hM a hA
       replace hM : Mg w w363 (.row BY 1 (.slice (some ⟨g362, 0, none⟩) 2 2) 2 ((Lib.byteCells [102, UInt8.ofNat (48 + kx)])) :: .row 4 1 (.slice (some ⟨gt, 0, none⟩) 8 8) 8 ((bl ps)) :: .row 24 1 (.slice (some ⟨gh, 0, none⟩) 8 8) 8 hv :: .obj g3 (.cells #[.slice sW1 ((FM 0 ps).length) cW1, .slice sW2 (([] : List UInt8).length) cW2, .slice sW3 (([] : List UInt8).length) cW3] 37) :: D) := by
         have h9 := hM
         rw [byteK (k := kx) (by omega)] at h9
         exact h9
       refine seq_do (v := .string (nmK kx)) hA rfl rfl rfl (does_convC rfl (conv_bytes Try.underlying24 Try.underlying5 Try.underlying9 (l := [102, UInt8.ofNat (48 + kx)]) (rb_row hM 0 rfl).1 2)) ?_
       intro a hA
       have hw364 := RwD.facts hM (hRw.mono (fun c hc => (List.mem_cons_of_mem _ (List.mem_cons_of_mem _ (List.mem_cons_of_mem _ (List.mem_cons_of_mem _ hc))))))
       refine seq_call hA rfl rfl rfl (enters_func rfl rfl (fun w => by kernel_rfl)) ((show Calls Try.prog 27 _ _ (fun e w' => ∃ v, e = .returned (.tuple #[v, .int .i64 0]) ∧ Mg _ w' [.row BY 1 v hh.length (Lib.byteCells hh)]) from (by have h8 := get_any (cF_ := cW1) (cI := cW2) (cO := cW3) (fs := (FM 0 ps)) (il := ([] : List UInt8)) (ol := ([] : List UInt8)) (nm := nmK kx) hw364.1 hw364.2.1 hw364.2.2.1 hfn; rw [((files_get hpl hsd hpk).trans (if_pos rfl))] at h8; exact h8))) ?_
       rintro _ w374 ⟨v365, rfl, hM366⟩
       obtain ⟨so371, ca372, rfl⟩ := owns_sliceE (hM366.has 0 rfl)
       obtain ⟨D368, hg367, hnD368, hs369, hs370⟩ := grow [_, _, _, _] (D := D) hM hM366 (noBld_cons (by simp) (noBld_cons (by simp) (noBld_cons (by simp) (noBld_cons (by simp) hnD)))) (noBld_cons (by simp) (noBld_quiet quietL_nil))
       replace hRw := hRw.mono hs369
       replace hmh := hs369 _ hmh
       replace hH := hH.mono hs369
       have hp373 := hs370 _ (mem_at (k := 0) rfl)
       replace hM : Mg w w374 (.row BY 1 (.slice (some ⟨g362, 0, none⟩) 2 2) 2 ((Lib.byteCells [102, UInt8.ofNat (48 + kx)])) :: .row 4 1 (.slice (some ⟨gt, 0, none⟩) 8 8) 8 ((bl ps)) :: .row 24 1 (.slice (some ⟨gh, 0, none⟩) 8 8) 8 hv :: .obj g3 (.cells #[.slice sW1 ((FM 0 ps).length) cW1, .slice sW2 (([] : List UInt8).length) cW2, .slice sW3 (([] : List UInt8).length) cW3] 37) :: D368) := hg367
       refine ⟨_, rfl, ?_⟩
       intro a hA
       refine seq_do hA rfl rfl rfl (does_move rfl) ?_
       intro a hA
       refine seq_do (v := .slice so371 hh.length ca372) hA rfl rfl rfl (does_extract (vs := [.slice so371 hh.length ca372, .int .i64 0]) rfl rfl) ?_
       intro a hA
       refine seq_do (v := .int .i64 0) hA rfl rfl rfl (does_extract (vs := [.slice so371 hh.length ca372, .int .i64 0]) rfl rfl) ?_
       intro a hA
       refine seq_do hA rfl rfl rfl (does_assign rfl) ?_
       intro a hA
       refine seq_do hA rfl rfl rfl (does_assign rfl) ?_
       intro a hA
       refine seq_end ?_
       refine hK345 _ _ ?_
       refine wp_seq_k (fun K375 hK375 => ?_)
       refine wp_seq_k (fun K376 hK376 => ?_)
       replace hA := hA.keep [(0, .slice sN ns.length cN), (1, .slice sR ds.length cR), (2, .int .u8 at_), (7, .pointer (some ⟨g3, 0, none⟩)), (8, .slice (some ⟨gh, 0, none⟩) 8 8), (9, .slice (some ⟨gt, 0, none⟩) 8 8), (10, .int .i64 (((i : Nat) : Int))), (18, .int .i64 (((c8 : Nat) : Int))), (19, .int .i64 (((kx : Nat) : Int))), (20, .slice so371 hh.length ca372), (21, .int .i64 0)] ⟨rfl, rfl, rfl, rfl, rfl, rfl, rfl, rfl, rfl, rfl, rfl, trivial⟩
       refine wp_region_lit ?_
       refine seq_do hA rfl rfl rfl (does_move rfl) ?_
       intro a hA
       refine seq_do (v := .bool true) hA rfl rfl rfl (does_bin rfl rfl (fun w => by kernel_rfl)) ?_
       intro a hA
       refine seq_do hA rfl rfl rfl (does_move rfl) ?_
       intro a hA
       refine seq_do hA rfl rfl rfl (does_move rfl) ?_
       intro a hA
       refine seq_do (v := .pointer (some ⟨gt, kx * 1, none⟩)) hA rfl rfl rfl (does_indexX Try.underlying55 (by kernel_rfl) rfl rfl rfl rfl (show kx < 8 by omega)) ?_
       intro a hA
       refine seq_do (v := .bool true) hA rfl rfl rfl (m_loadX hM 1 rfl rfl (show (bl ps)[kx * 1]? = some (.bool true) from by rw [Nat.mul_one]; exact bl_at hpk) Wp_is1_4 rfl) ?_
       intro a hA
       refine seq_do (v := .bool false) hA rfl rfl rfl (does_bin rfl rfl (bin_neqB Try.underlying4)) ?_
       intro a hA
       refine seq_do hA rfl rfl rfl (does_move rfl) ?_
       intro a hA
       refine seq_do hA rfl rfl rfl (does_move rfl) ?_
       intro a hA
       refine seq_do hA rfl rfl rfl (does_move rfl) ?_
       intro a hA
       refine seq_do (v := .pointer (some ⟨gt, kx * 1, none⟩)) hA rfl rfl rfl (does_indexX Try.underlying55 (by kernel_rfl) rfl rfl rfl rfl (show kx < 8 by omega)) ?_
       intro a hA
       refine seq_do (v := .bool true) hA rfl rfl rfl (m_loadX hM 1 rfl rfl (show (bl ps)[kx * 1]? = some (.bool true) from by rw [Nat.mul_one]; exact bl_at hpk) Wp_is1_4 rfl) ?_
       intro a hA
       refine seq_do hA rfl rfl rfl (does_move rfl) ?_
       intro a hA
       refine seq_do hA rfl rfl rfl (does_move rfl) ?_
       intro a hA
       refine seq_do hA rfl rfl rfl (does_move rfl) ?_
       intro a hA
       refine seq_do hA rfl rfl rfl (does_move rfl) ?_
       intro a hA
       refine seq_do (v := .pointer (some ⟨gh, kx * 1, none⟩)) hA rfl rfl rfl (does_indexX Try.underlying54 (by kernel_rfl) rfl rfl rfl rfl (show kx < 8 by omega)) ?_
       intro a hA
       refine seq_do (v := .slice sh hh.length ch) hA rfl rfl rfl (m_loadX hM 2 rfl rfl (show hv[kx * 1]? = some _ from by rw [Nat.mul_one]; exact hvh) Wp_is1_24 rfl) ?_
       intro a hA
       refine seq_call hA rfl rfl rfl (enters_func rfl rfl (fun w => by kernel_rfl)) (same_as (xs := hh) (ys := hh) (ca := ca372) (cb := ch) (b := true) (rb_of hM (List.mem_cons_of_mem _ (List.mem_cons_of_mem _ (List.mem_cons_of_mem _ (List.mem_cons_of_mem _ hp373))))) (rb_of hM (List.mem_cons_of_mem _ (List.mem_cons_of_mem _ (List.mem_cons_of_mem _ (List.mem_cons_of_mem _ hmh))))) (by omega) (decide_eq_true rfl)) ?_
       rintro _ w378 ⟨rfl, hb377⟩
       replace hM := hM.call hb377
       refine ⟨_, rfl, ?_⟩
       intro a hA
       refine seq_do (v := .bool false) hA rfl rfl rfl (does_un rfl un_not) ?_
       intro a hA
       refine seq_do (v := .bool false) hA rfl rfl rfl (does_pick rfl rfl rfl rfl) ?_
       intro a hA
       refine seq_do (v := .bool false) hA rfl rfl rfl (does_pick rfl rfl rfl rfl) ?_
       intro a hA
       refine seq_end ?_
       refine hK376 _ _ ?_
       refine wp_cond_false (hA.ev rfl) ?_
       refine wp_skip ?_
       refine hK375 _ _ ?_
       refine wp_seq_k (fun K379 hK379 => ?_)
       replace hA := hA.keep [(0, .slice sN ns.length cN), (1, .slice sR ds.length cR), (2, .int .u8 at_), (7, .pointer (some ⟨g3, 0, none⟩)), (8, .slice (some ⟨gh, 0, none⟩) 8 8), (9, .slice (some ⟨gt, 0, none⟩) 8 8), (10, .int .i64 (((i : Nat) : Int))), (18, .int .i64 (((c8 : Nat) : Int))), (19, .int .i64 (((kx : Nat) : Int))), (20, .slice so371 hh.length ca372), (21, .int .i64 0)] ⟨rfl, rfl, rfl, rfl, rfl, rfl, rfl, rfl, rfl, rfl, rfl, trivial⟩
       refine wp_region_lit ?_
       refine seq_do hA rfl rfl rfl (does_move rfl) ?_
       intro a hA
       refine seq_do hA rfl rfl rfl (does_move rfl) ?_
       intro a hA
       refine seq_do (v := .pointer (some ⟨gt, kx * 1, none⟩)) hA rfl rfl rfl (does_indexX Try.underlying55 (by kernel_rfl) rfl rfl rfl rfl (show kx < 8 by omega)) ?_
       intro a hA
       refine seq_do (v := .bool true) hA rfl rfl rfl (m_loadX hM 1 rfl rfl (show (bl ps)[kx * 1]? = some (.bool true) from by rw [Nat.mul_one]; exact bl_at hpk) Wp_is1_4 rfl) ?_
       intro a hA
       refine seq_end ?_
       refine hK379 _ _ ?_
       refine wp_cond_true (hA.ev rfl) ?_
       replace hA := hA.keep [(0, .slice sN ns.length cN), (1, .slice sR ds.length cR), (2, .int .u8 at_), (7, .pointer (some ⟨g3, 0, none⟩)), (8, .slice (some ⟨gh, 0, none⟩) 8 8), (9, .slice (some ⟨gt, 0, none⟩) 8 8), (10, .int .i64 (((i : Nat) : Int))), (18, .int .i64 (((c8 : Nat) : Int))), (19, .int .i64 (((kx : Nat) : Int))), (20, .slice so371 hh.length ca372), (21, .int .i64 0)] ⟨rfl, rfl, rfl, rfl, rfl, rfl, rfl, rfl, rfl, rfl, rfl, trivial⟩
       refine wp_region_lit ?_
       refine seq_do hA rfl rfl rfl (does_move rfl) ?_
       intro a hA
       refine seq_do (v := .int .i64 (((c8 + 1 : Nat) : Int))) hA rfl rfl rfl (does_bin rfl rfl (ar_add ((in_i64 (by omega) (by omega)).trans (by omega)))) ?_
       intro a hA
       refine seq_do hA rfl rfl rfl (does_assign rfl) ?_
       intro a hA
       refine seq_end ?_
       refine hK344 _ _ ?_
       replace hA := hA.keep [(0, .slice sN ns.length cN), (1, .slice sR ds.length cR), (2, .int .u8 at_), (7, .pointer (some ⟨g3, 0, none⟩)), (8, .slice (some ⟨gh, 0, none⟩) 8 8), (9, .slice (some ⟨gt, 0, none⟩) 8 8), (10, .int .i64 (((i : Nat) : Int))), (18, .int .i64 (((c8 + 1 : Nat) : Int))), (19, .int .i64 (((kx : Nat) : Int))), (20, .slice so371 hh.length ca372), (21, .int .i64 0)] ⟨rfl, rfl, rfl, rfl, rfl, rfl, rfl, rfl, rfl, rfl, rfl, trivial⟩
       refine wp_region_lit ?_
       refine seq_do hA rfl rfl rfl (does_move rfl) ?_
       intro a hA
       refine seq_do (v := .int .i64 (((kx + 1 : Nat) : Int))) hA rfl rfl rfl (does_bin rfl rfl (ar_add ((in_i64 (by omega) (by omega)).trans (by omega)))) ?_
       intro a hA
       refine seq_do hA rfl rfl rfl (does_assign rfl) ?_
       intro a hA
       refine seq_end ?_
       replace hM : Mg w w378 (.row 4 1 (.slice (some ⟨gt, 0, none⟩) 8 8) 8 ((bl ps)) :: .row 24 1 (.slice (some ⟨gh, 0, none⟩) 8 8) 8 hv :: .obj g3 (.cells #[.slice sW1 ((FM 0 ps).length) cW1, .slice sW2 (([] : List UInt8).length) cW2, .slice sW3 (([] : List UInt8).length) cW3] 37) :: D368) := by
         have h9 := hM.sub (.cons _ (.cons_cons _ (.cons_cons _ (.cons_cons _ (.refl _)))))
         exact h9
       refine hK339 _ _ _ (by omega) ⟨kx + 1, c8 + 1, D368, rfl, ⟨hRw, hnD368, hH, (by rw [cnt_step hpk, if_pos rfl]; omega), by omega⟩, hA.keep _ ⟨rfl, rfl, rfl, rfl, rfl, rfl, rfl, rfl, rfl, trivial⟩, hM⟩
   · have hb343' := of_decide_eq_false hb343
     refine seq_do (v := .bool false) hA rfl rfl rfl (does_bin rfl rfl (fun w => (bin_lss w).trans (by rw [hb343]))) ?_
     intro a hA
     refine seq_end ?_
     refine hK342 _ _ ?_
     refine wp_cond_false (hA.ev rfl) ?_
     refine wp_exit ?_
     refine hK336 _ _ ?_
     refine wp_seq_k (fun K380 hK380 => ?_)
     replace hA := hA.keep [(0, .slice sN ns.length cN), (1, .slice sR ds.length cR), (2, .int .u8 at_), (7, .pointer (some ⟨g3, 0, none⟩)), (8, .slice (some ⟨gh, 0, none⟩) 8 8), (9, .slice (some ⟨gt, 0, none⟩) 8 8), (10, .int .i64 (((i : Nat) : Int))), (18, .int .i64 (((c8 : Nat) : Int))), (19, .int .i64 (((kx : Nat) : Int)))] ⟨rfl, rfl, rfl, rfl, rfl, rfl, rfl, rfl, rfl, trivial⟩
     refine wp_region_lit ?_
     refine seq_do (v := .pointer (some ⟨g3, 0, none⟩)) hA rfl rfl rfl (does_field Wp_fld_37_0 rfl rfl) ?_
     intro a hA
     refine seq_do hA rfl rfl rfl (m_load1 hM Wp_is1_35 rfl 2 rfl rfl) ?_
     intro a hA
     refine seq_do (v := .int .i64 ((((FM 0 ps).length : Nat) : Int))) hA rfl rfl rfl (does_len Try.underlying35 rfl) ?_
     intro a hA
     refine seq_do hA rfl rfl rfl (does_move rfl) ?_
     intro a hA
     refine seq_do (v := .bool true) hA rfl rfl rfl (does_bin rfl rfl (fun w => (bin_eql w).trans (by rw [show (((((FM 0 ps).length : Nat) : Int) == ((c8 : Nat) : Int))) = true from (by have h7 := FM_len ps 0; rw [List.take_of_length_le (by omega)] at hc8; rw [beq_iff_eq]; omega)]))) ?_
     intro a hA
     refine seq_do hA rfl rfl rfl (does_move rfl) ?_
     intro a hA
     refine seq_do hA rfl rfl rfl (m_loadS hM Wp_isS_37 rfl 2 rfl (cs := [.slice sW1 ((FM 0 ps).length) cW1, .slice sW2 (([] : List UInt8).length) cW2, .slice sW3 (([] : List UInt8).length) cW3]) rfl rfl) ?_
     intro a hA
     have hw381 := RwD.facts hM (hRw.mono (fun c hc => (List.mem_cons_of_mem _ (List.mem_cons_of_mem _ (List.mem_cons_of_mem _ hc)))))
     refine seq_call hA rfl rfl rfl (enters_func rfl rfl (fun w => by kernel_rfl)) (sound_as (cF_ := cW1) (cI := cW2) (cO := cW3) (fs := (FM 0 ps)) (il := ([] : List UInt8)) (ol := ([] : List UInt8)) (b := true) hw381.1 hfn hsd) ?_
     rintro _ w383 ⟨rfl, hb382⟩
     replace hM := hM.call hb382
     refine ⟨_, rfl, ?_⟩
     intro a hA
     refine seq_do (v := .bool true) hA rfl rfl rfl (does_pick rfl rfl rfl rfl) ?_
     intro a hA
     refine seq_do hA rfl rfl rfl (does_assign rfl) ?_
     intro a hA
     refine seq_end ?_
     refine hK380 _ _ ?_
     refine wp_ret ?_
     refine hret _ _ ?_
     refine ends (v := .bool true) hA rfl (.cons (res_tmp rfl) .nil) rfl ?_
     exact ⟨rfl, hM.bel⟩
end Go.Proofs.Ytcjgjbaadmohbaa
